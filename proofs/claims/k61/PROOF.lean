import PyProof.Rows.All
import Wide.All
import OpenK.AllK
import Wide.FinOn
import Lean
import PyProof.EqAt
import PyProof.EqKinds
import PyProof.TupleCall
import PyProof.NeKinds
import KE.KIsAll
import PyProof.RulesAs
import PyProof.StationsW
import PyProof.ExcClass2
import OpenK.KOwn
import PyProof.NsDelKeeps
import PyProof.ExcAttrAll.ValueError
import KE.KDictList
import KE.KSorted
import PyProof.SumAny
import PyProof.WalkInts
import PyProof.EnumMake
import KE.KItemsList
import KE.KRevIter
import PyProof.ExcInit
import PyProof.InstStoreFacts
import PyProof.IsRules
import KE.KDictOf
import PyProof.AttrMissHeap
import PyProof.MinMaxWalk
import PyProof.DictIter
import PyProof.ExcClass
import PySem.Challenge.RW_sumwires_k61_least_machines_and_why
set_option Elab.async false
set_option linter.all false
set_option maxRecDepth 100000
namespace L2
open PySem PySem.Spec PyProof.Rows
noncomputable abbrev Key:=Sum Int Str
noncomputable def xF:Key→Value→Bool
 | .inl k,v=>Value.isInt k v
 | .inr x,v=>Value.isStrOf x v
noncomputable def keyH (w:World):Key→Int
 | .inl k=>hashInt k
 | .inr x=>hashStr w x
theorem b8:∀ {k:Key} {v:Value},xF k v=true→(∃ i t,k=Sum.inl i∧v=Value.int i t)∨(∃ x t,k=Sum.inr x∧v=Value.str x t)
 | .inl i,v,h=>by
   obtain ⟨t,e⟩:=Value.isInt_shape (k:=i) (v:=v) h
   exact .inl ⟨i,t,rfl,e⟩
 | .inr x,v,h=>by
   obtain ⟨t,e⟩:=Value.isStrOf_shape (x:=x) (v:=v) h
   exact .inr ⟨x,t,rfl,e⟩
theorem Fv (i:Int) (t:Tok):xF (.inl i) (.int i t)=true:=by simp [xF,Value.isInt]
theorem Fu (x:Str) (t:Tok):xF (.inr x) (.str x t)=true:=by simp [xF,Value.isStrOf]
theorem MT (a b:Int):decide ((Sum.inl a:Key)=Sum.inl b)=(a == b):=by
 by_cases e:a=b
 ·subst e;simp
 ·have h:¬ (Sum.inl a:Key)=Sum.inl b:=fun q=>e (Sum.inl.inj q)
  rw [decide_eq_false h]
  exact (beq_eq_false_iff_ne.mpr e).symm
theorem MQ (a b:Str):decide ((Sum.inr a:Key)=Sum.inr b)=decide (a=b):=by
 by_cases e:a=b
 ·subst e;simp
 ·have h:¬ (Sum.inr a:Key)=Sum.inr b:=fun q=>e (Sum.inr.inj q)
  rw [decide_eq_false h,decide_eq_false e]
theorem MS (a:Int) (b:Str):decide ((Sum.inl a:Key)=Sum.inr b)=false:=decide_eq_false (fun q=>nomatch q)
theorem MR (a:Str) (b:Int):decide ((Sum.inr a:Key)=Sum.inl b)=false:=decide_eq_false (fun q=>nomatch q)
noncomputable def cT (prog:Program) (w:World):PySem.KeyKind prog w Key where
 is:=xF
 hash:=keyH w
 inj:=fun v a b ha hb=>by
  rcases b8 ha with ⟨i,t,rfl,rfl⟩ | ⟨x,t,rfl,rfl⟩
  ·rcases b8 hb with ⟨j,u,rfl,e⟩ | ⟨y,u,rfl,e⟩
   ·injection e with e1 _;rw [e1]
   ·exact nomatch e
  ·rcases b8 hb with ⟨j,u,rfl,e⟩ | ⟨y,u,rfl,e⟩
   ·exact nomatch e
   ·injection e with e1 _;rw [e1]
 byValue:=fun k v h=>by
  rcases b8 h with ⟨i,t,rfl,rfl⟩ | ⟨x,t,rfl,rfl⟩<;>rfl
 pyHash:=fun hv h=>by
  rcases b8 hv with ⟨i,t,rfl,rfl⟩ | ⟨x,t,rfl,rfl⟩
  ·exact wpAny_pyHash_int h
  ·exact wpAny_pyHash_str h
 eqBool:=fun hu hv h=>by
  rcases b8 hu with ⟨i,t,rfl,rfl⟩ | ⟨x,t,rfl,rfl⟩
  ·rcases b8 hv with ⟨j,u,rfl,rfl⟩ | ⟨y,u,rfl,rfl⟩
   ·rw [MT] at h;exact wpAny_eqBool_int h
   ·rw [MS] at h;exact SeqAt.EqAt.int_str i t y u _ _ _ _ h
  ·rcases b8 hv with ⟨j,u,rfl,rfl⟩ | ⟨y,u,rfl,rfl⟩
   ·rw [MR] at h;exact SeqAt.EqAt.str_int x t j u _ _ _ _ h
   ·rw [MQ] at h;exact wpAny_eqBool_str h
 «strs»:=fun k x t v h=>by
  rcases b8 h with ⟨i,u,rfl,e⟩ | ⟨y,u,rfl,e⟩
  ·exact nomatch e
  ·injection e with e1 _
   subst e1
   cases v<;>rfl
theorem zN (prog:Program) (w:World) (i:Int) (t:Tok):(cT prog w).is (.inl i) (.int i t)=true:=Fv i t
theorem zM (prog:Program) (w:World) (x:Str) (t:Tok):(cT prog w).is (.inr x) (.str x t)=true:=Fu x t
inductive V where
 | non | bl (b:Bool) | int (i:Int) | str (x:Str) | byt (b:Array UInt8) | flt (b:UInt64) | ref (a:Addr) | ty (n:String)
 deriving DecidableEq
noncomputable def RelV:V→Value→Prop
 | .non,u=>u=Value.none
 | .bl b,u=>u=Value.bool b
 | .int i,u=>∃ t,u=Value.int i t
 | .str x,u=>∃ t,u=Value.str x t
 | .byt b,u=>∃ t,u=Value.bytes b t
 | .flt b,u=>∃ t,u=Value.float b t
 | .ref a,u=>u=Value.ref a
 | .ty n,u=>u=Value.type n
noncomputable abbrev Vals:List V→List Value→Prop:=Paired RelV
theorem Vals.length {xs:List V} {us:List Value} (r:Vals xs us):xs.length=us.length:=Paired.length r
theorem Vals.get:∀ {xs:List V} {us:List Value} {i:Nat} {x:V},Vals xs us→xs[i]? =some x→∃ u,us[i]? =some u∧RelV x u
 | _,_,_,_,.nil,e=>by simp at e
 | _,_,0,_,.cons r _,e=>by simp at e;subst e;exact ⟨_,rfl,r⟩
 | _,_,i + 1,x,.cons _ t,e=>by
   obtain ⟨u,h1,h2⟩:=Vals.get (i:=i) (x:=x) t (by simpa using e)
   exact ⟨u,by simpa using h1,h2⟩
theorem Vals.append:∀ {xs ys:List V} {us ws:List Value},Vals xs us→Vals ys ws→Vals (xs++ys) (us++ws)
 | _,_,_,_,.nil,s=>s
 | _,_,_,_,.cons r t,s=> .cons r (Vals.append t s)
noncomputable def RelO:Option V→Option Value→Prop
 | some v,some u=>RelV v u
 | none,none=>True
 | _,_=>False
noncomputable def KV {κ:Type}:List (κ×V)→List (κ×Value)→Prop:=Paired fun (p:κ×V) (q:κ×Value)=>p.1=q.1∧RelV p.2 q.2
noncomputable def kV:Key→V
 | .inl i=> .int i
 | .inr x=> .str x
inductive HO where
 | lst (xs:List V)
 | tup (xs:List V)
 | dK (kvs:List (Key×V)) | dT (kvs:List (List Key×V))
 | set (S:Int→Bool) (n:Nat)
 | ins (C dx:Addr) (fs:List (Str×V))
 | own (x:Addr)
 | xd (fs:List (Str×V))
 | met (f x:Addr)
 | rng (lo hi:Int)
 | frz (o:Obj) (u:HO)
 | tbl (ps:Array Value)
 | ext (φ:Heap→Prop)
noncomputable abbrev Hp:=Addr→Option HO
noncomputable def upd (H:Hp) (a:Addr) (o:HO):Hp:=fun b=>if b=a then some o else H b
theorem bc {H:Hp} {a:Addr} {o:HO}:upd H a o a=some o:=by unfold upd;rw [if_pos rfl]
theorem aJ {H:Hp} {a b:Addr} {o:HO} (h:b≠a):upd H a o b=H b:=by unfold upd;rw [if_neg h]
theorem iN {H:Hp} {a b:Addr} {o u:HO} (h:H a=some o) (h':H b=some u) (d:o≠u):a≠b:=by
 intro e;subst e;rw [h] at h';exact d (Option.some.inj h')
theorem al {H:Hp} {a b:Addr} {o:HO} (h:H a=some o) (h':H b=none):a≠b:=by
 intro e;subst e;rw [h] at h';cases h'
section
variable (P:Program) (w:World)
noncomputable def eW (H:Hp) (h:Heap) (a:Addr):HO→Prop
 | .lst xs=>xs.length≤sizeLine∧∃ (its:List Value) (n:Nat),Vals xs its∧h.get? a=some {cls:= .type "list",data:= .seq its.toArray n}
 | .tup xs=>xs.length≤sizeLine∧∃ its:List Value,Vals xs its∧IsTup h a its.toArray
 | .dK kvs=>kvs.length≤sizeLine∧(a == sysModules)=false∧∃ vs,KV kvs vs∧h.DictOf (cT P w) a vs
 | .dT kvs=>kvs.length≤sizeLine∧(a == sysModules)=false∧∃ xs:List (List Key×Addr×Value),
   Paired (fun (p:List Key×V) (q:List Key×Addr×Value)=>p.1=q.1∧H q.2.1=some (.tup (p.1.map kV))∧RelV p.2 q.2.2) kvs xs∧
   ∃ o es ep,h.get? a=some o∧o.ExactDict∧o.data= .dict es ep∧es.toList=xs.map (entryOfKey (tupleKind (cT P w)))∧(xs.map (·.1)).Nodup
 | .set S n=>h.SetOf (intKind P w) a S n
 | .ins C dx fs=>H dx=some (.own a)∧fs.length≤1000∧dx≠a∧h.get? a=some (PySem.W.instObj C dx)∧
   ∃ mA,h.Ns1 dx mA∧(∀ f,RelO (fs.lookup f) (mA f))∧PySem.Within mA (fs.map (·.1))
 | .own _=>∃ o,h.get? a=some o
 | .xd fs=>∃ mA,h.Ns1 a mA∧∀ f,RelO (fs.lookup f) (mA f)
 | .rng lo hi=>∃ t u v,h.get? a=some {cls:= .type "range",data:= .fields #[.int lo t,.int hi u,.int 1 v]}
 | .frz o u=>h.get? a=some o∧eW H h a u
 | .tbl ps=>h.get? a=some {cls:= .none,data:= .fields ps}
 | .met f x=>h.get? a=some (PySem.W.methodObj (.ref f) (.ref x))
 | .ext φ=>φ h∧(∃ o,h.get? a=some o)∧∀ h1 h2:Heap,φ h1→(∀ o,h1.get? a=some o→h2.get? a=some o)→φ h2
noncomputable def HOk (H:Hp) (h:Heap):Prop:=∀ a o,H a=some o→eW P w H h a o
end
section
variable {P:Program} {w:World} {H H':Hp} {h h':Heap} {a:Addr} {o:HO}
theorem eW.lt (x:eW P w H h a o):a < h.objs.size:=by
 cases o with
 | lst xs=>obtain ⟨_,_,_,_,e⟩:=x;exact Heap.lt_size e
 | tup xs=>obtain ⟨_,_,_,p⟩:=x;exact p.lt
 | dK kvs=>obtain ⟨_,_,_,_,o,_,_,e,_⟩:=x;exact Heap.lt_size e
 | dT kvs=>obtain ⟨_,_,_,_,o,_,_,e,_⟩:=x;exact Heap.lt_size e
 | set S n=>obtain ⟨o,_,_,_,e,_⟩:=x;exact Heap.lt_size e
 | ins C dx fs=>obtain ⟨_,_,_,e,_⟩:=x;exact Heap.lt_size e
 | own y=>obtain ⟨_,e⟩:=x;exact Heap.lt_size e
 | xd fs=>obtain ⟨_,⟨_,_,_,e,_⟩,_⟩:=x;exact Heap.lt_size e
 | rng lo hi=>obtain ⟨_,_,_,e⟩:=x;exact Heap.lt_size e
 | frz ob u=>obtain ⟨e,_⟩:=x;exact Heap.lt_size e
 | tbl ps=>exact Heap.lt_size (show h.get? a=some _ from x)
 | met f y=>exact Heap.lt_size (show h.get? a=some _ from x)
 | ext φ=>obtain ⟨_,⟨_,e⟩,_⟩:=x;exact Heap.lt_size e
theorem Paired.mapP {α β:Type} {F G:α→β→Prop}:∀ {l₁:List α} {l₂:List β},Paired F l₁ l₂→(∀ a b,F a b→G a b)→Paired G l₁ l₂
 | _,_,.nil,_=> .nil
 | _,_,.cons r t,f=> .cons (f _ _ r) (Paired.mapP t f)
theorem eW.stay (x:eW P w H h a o) (k:∀ b u,(b=a∨H b=some (.own a))→h.get? b=some u→h'.get? b=some u)
  (ho:∀ b,H b=some (.own a)→H' b=some (.own a)) (ht:∀ b xs,H b=some (.tup xs)→H' b=some (.tup xs)):eW P w H' h' a o:=by
 induction o with
 | lst xs=>obtain ⟨z,its,n,r,e⟩:=x;exact ⟨z,its,n,r,k _ _ (.inl rfl) e⟩
 | tup xs=>obtain ⟨z,its,r,ob,e,c⟩:=x;exact ⟨z,its,r,ob,k _ _ (.inl rfl) e,c⟩
 | dK kvs=>obtain ⟨z,y,vs,r,ob,es,ep,e,c⟩:=x;exact ⟨z,y,vs,r,ob,es,ep,k _ _ (.inl rfl) e,c⟩
 | dT kvs=>
   obtain ⟨z,y,xs,r,ob,es,ep,e,c⟩:=x
   exact ⟨z,y,xs,Paired.mapP r fun p q z=>⟨z.1,ht _ _ z.2.1,z.2.2⟩,ob,es,ep,k _ _ (.inl rfl) e,c⟩
 | set S n=>obtain ⟨ob,es,ep,t,e,c⟩:=x;exact ⟨ob,es,ep,t,k _ _ (.inl rfl) e,c⟩
 | ins C dx fs=>
   obtain ⟨d,z,ne,e,mA,⟨od,es,ep,e2,c⟩,r⟩:=x
   exact ⟨ho _ d,z,ne,k _ _ (.inl rfl) e,mA,⟨od,es,ep,k _ _ (.inr d) e2,c⟩,r⟩
 | own y=>obtain ⟨ob,e⟩:=x;exact ⟨ob,k _ _ (.inl rfl) e⟩
 | xd fs=>obtain ⟨mA,⟨od,es,ep,e,c⟩,r⟩:=x;exact ⟨mA,⟨od,es,ep,k _ _ (.inl rfl) e,c⟩,r⟩
 | rng lo hi=>obtain ⟨t,u,v,e⟩:=x;exact ⟨t,u,v,k _ _ (.inl rfl) e⟩
 | frz ob u ih=>obtain ⟨e,q⟩:=x;exact ⟨k _ _ (.inl rfl) e,ih q⟩
 | tbl ps=>
   have e:h.get? a=some {cls:= .none,data:= .fields ps}:=x
   show h'.get? a=some {cls:= .none,data:= .fields ps}
   exact k a _ (.inl rfl) e
 | met f y=>
   have e:h.get? a=some (PySem.W.methodObj (.ref f) (.ref y)):=x
   show h'.get? a=some (PySem.W.methodObj (.ref f) (.ref y))
   exact k a _ (.inl rfl) e
 | ext φ=>obtain ⟨p,⟨o,e⟩,st⟩:=x;exact ⟨st _ _ p fun o q=>k _ _ (.inl rfl) q,⟨o,k _ _ (.inl rfl) e⟩,st⟩
theorem HOk.lt (x:HOk P w H h) (e:H a=some o):a < h.objs.size:=(x a o e).lt
theorem HOk.fresh (x:HOk P w H h) (e:h.objs.size≤a):H a=none:=by
 cases q:H a with
 | none=>rfl
 | some u=>exact absurd (Nat.lt_of_lt_of_le (x.lt q) e) (Nat.lt_irrefl _)
theorem HOk.kept (x:HOk P w H h) (k:∀ b u,h.get? b=some u→h'.get? b=some u):HOk P w H h':=fun a o e=>
 (x a o e).stay (fun b u _ q=>k b u q) (fun _ q=>q) fun _ _ q=>q
theorem HOk.laid (x:HOk P w H h) (k:∀ b u,h.get? b=some u→h'.get? b=some u) (hp:h.objs.size≤a) (new:eW P w (upd H a o) h' a o):HOk P w (upd H a o) h':=fun b u e=>by
 have hn:=x.fresh hp
 by_cases hb:b=a
 ·subst hb;rw [bc] at e;cases e;exact new
 ·rw [aJ hb] at e
  exact (x b u e).stay (fun c v _ q=>k c v q) (fun c q=>by rw [aJ (al q hn)];exact q) fun c xs q=>by rw [aJ (al q hn)];exact q
end
noncomputable def Rd (H:Hp) (a:Addr) (u:HO):Prop:=H a=some u∨∃ o,H a=some (.frz o u)
theorem Rd.ok {P:Program} {w:World} {H:Hp} {h:Heap} {a:Addr} {u:HO} (r:Rd H a u) (x:HOk P w H h):eW P w H h a u:=by
 rcases r with r | ⟨o,r⟩
 ·exact x a u r
 ·obtain ⟨_,q⟩:=x a _ r
  exact q
noncomputable def Mut:Option HO→Prop
 | some (.lst _)=>True
 | some (.dK _)=>True
 | some (.dT _)=>True
 | some (.set _ _)=>True
 | some (.ins _ _ _)=>True
 | some (.ext _)=>True
 | _=>False
section
variable {P:Program} {w:World} {H:Hp} {h h':Heap} {x e:Addr} {o':HO}
theorem HOk.write (ok:HOk P w H h) (mu:Mut (H x)) (he:e=x∨H e=some (.own x)) (k:∀ b u,b≠e→h.get? b=some u→h'.get? b=some u) (heo:∃ u,h'.get? e=some u)
  (new:eW P w (upd H x o') h' x o'):HOk P w (upd H x o') h':=fun b u q=>by
 have nown:∀ c y,H c=some (.own y)→c≠x:=fun c y r z=>by subst z;rw [r] at mu;exact mu
 have ntup:∀ c xs,H c=some (.tup xs)→c≠x:=fun c xs r z=>by subst z;rw [r] at mu;exact mu
 by_cases hb:b=x
 ·subst hb;rw [bc] at q;cases q;exact new
 ·rw [aJ hb] at q
  by_cases hbe:b=e
  ·have q':H b=some (.own x):=by
    rcases he with z | z
    ·exact absurd (hbe.trans z) hb
    ·rw [hbe];exact z
   rw [q] at q';cases q'
   obtain ⟨v,hv⟩:=heo
   exact ⟨v,by rw [hbe];exact hv⟩
  ·refine (ok b u q).stay (fun c v hc r=>k c v ?_ r) (fun c r=>by rw [aJ (nown c b r)];exact r) fun c xs r=>by rw [aJ (ntup c xs r)];exact r
   rcases hc with rfl | hc
   ·exact hbe
   ·rintro rfl
    rcases he with z | z
    ·exact nown c b hc z
    ·rw [hc] at z;cases z;exact hb rfl
end
structure Un (fs ex:List Addr) (H H':Hp) (h h':Heap):Prop where
 keep:∀ b o,h.get? b=some o→H b=none→b∉fs→b∉ex→h'.get? b=some o
 slot:∀ b o,h.get? b=some o→H b=none→b∈fs→b∉ex→∃ sl,h'.get? b=some {o with slots:=sl}
 free:∀ b o,h.get? b=some o→H b=none→b∉ex→H' b=none
 there:∀ b o,h.get? b=some o→b∉ex→∃ o',h'.get? b=some o'
 tups:∀ b xs,H b=some (.tup xs)→H' b=some (.tup xs)
 frzs:∀ b o u,H b=some (.frz o u)→H' b=some (.frz o u)
 tbls:∀ b ps,H b=some (.tbl ps)→∃ more,H' b=some (.tbl (ps++more))
section
variable {fs fs' ex ex':List Addr} {H H1 H2:Hp} {h h1 h2 h':Heap} {a x e:Addr} {o:HO}
theorem Un.any (u:Un fs ex H H1 h h1) {b:Addr} {ob:Obj} (q:h.get? b=some ob) (n:H b=none) (hx:b∉ex):∃ sl,h1.get? b=some {ob with slots:=sl}:=by
 by_cases hb:b∈fs
 ·exact u.slot b ob q n hb hx
 ·exact ⟨ob.slots,u.keep b ob q n hb hx⟩
theorem Un.kept (k:∀ b u,h.get? b=some u→h'.get? b=some u):Un fs ex H H h h':=
 ⟨fun b ob q _ _ _=>k b ob q,fun b ob q _ _ _=>⟨ob.slots,k b ob q⟩,fun _ _ _ n _=>n,fun b ob q _=>⟨ob,k b ob q⟩,fun _ _ q=>q,fun _ _ _ q=>q,fun _ ps q=>⟨#[],by rw [q];simp⟩⟩
theorem Un.refl:Un fs ex H H h h:=Un.kept fun _ _ q=>q
theorem Un.laid (k:∀ b u,h.get? b=some u→h'.get? b=some u) (hp:h.objs.size≤a) (hn:H a=none):Un fs ex H (upd H a o) h h' where
 keep:=fun b u q _ _ _=>k b u q
 slot:=fun b u q _ _ _=>⟨u.slots,k b u q⟩
 free:=fun b u q n _=>by rw [aJ (Nat.ne_of_lt (Nat.lt_of_lt_of_le (Heap.lt_size q) hp))];exact n
 there:=fun b u q _=>⟨u,k b u q⟩
 tups:=fun b xs q=>by rw [aJ (al q hn)];exact q
 frzs:=fun b u xs q=>by rw [aJ (al q hn)];exact q
 tbls:=fun b ps q=>⟨#[],by rw [aJ (al q hn),q];simp⟩
theorem Un.write (mu:Mut (H x)) (he:e=x∨H e=some (.own x)) (k:∀ b u,b≠e→h.get? b=some u→h'.get? b=some u) (heo:∃ u,h'.get? e=some u):Un fs ex H (upd H x o) h h':=by
 have hx:∀ b,H b=none→b≠x:=fun b n z=>by subst z;rw [n] at mu;exact mu
 have hb:∀ b,H b=none→b≠e:=fun b n z=>by
  subst z
  rcases he with r | r
  ·exact hx b n r
  ·rw [n] at r;cases r
 have hm:∀ b u,H b=some u→¬ Mut (some u)→b≠x:=fun b u q nm z=>by subst z;rw [q] at mu;exact nm mu
 refine ⟨fun b u q n _ _=>k b u (hb b n) q,fun b u q n _ _=>⟨u.slots,k b u (hb b n) q⟩,fun b u q n _=>by rw [aJ (hx b n)];exact n,fun b u q _=>?_,
  fun b xs q=>by rw [aJ (hm b _ q fun z=>z)];exact q,fun b u xs q=>by rw [aJ (hm b _ q fun z=>z)];exact q,fun b ps q=>⟨#[],by rw [aJ (hm b _ q fun z=>z),q];simp⟩⟩
 by_cases hbe:b=e
 ·subst hbe;exact heo
 ·exact ⟨u,k b u hbe q⟩
end
noncomputable def trk (h:Heap) (H:Hp):List Addr:=(List.range h.objs.size).filter fun a=>(H a).isSome
noncomputable def hidT (h:Heap) (H:Hp):Heap:=PySem.W.hideAll h (trk h H)
theorem FG (h:Heap) (H:Hp):(hidT h H).objs.size=h.objs.size:=PySem.W.hideAll_size _ _
theorem Ic {h:Heap} {H:Hp} {b:Addr} {o:Obj} (e:h.get? b=some o) (n:H b=none):(hidT h H).get? b=some o:=
 PySem.W.hideAll_get _ e fun hm=>by
  have q:(H b).isSome=true:=(List.mem_filter.mp hm).2
  rw [n] at q;simp at q
theorem KC {h:Heap} {H:Hp} {b:Addr} {o:Obj} (e:(hidT h H).get? b=some o):h.get? b=some o∧H b=none:=by
 have e':h.get? b=some o:=PySem.W.of_hideAll (trk h H) e
 refine ⟨e',?_⟩
 cases q:H b with
 | none=>rfl
 | some x=>
   have hm:b∈trk h H:=List.mem_filter.mpr ⟨List.mem_range.mpr (Heap.lt_size e'),by simp [q]⟩
   have z:(hidT h H).get? b=none:=PySem.W.hideAll_none (trk h H) hm
   rw [z] at e;cases e
noncomputable def Le (g h:Heap) (L:Addr):List (Addr×Obj):=(List.range h.objs.size).filterMap fun a=>if a=L∨(g.get? a).isSome=true then none else (h.get? a).map fun o=>(a,o)
noncomputable def rest (g h:Heap) (L d:Addr):List (Addr×Obj):=(Le g h L).filter fun p=>decide (p.1≠d)
structure Mod (K:PySem.W.Frag) (mg:Str→Option Value) (base:Heap):Prop where
 kin:K.In base
 glob:base.Ns mainGlobals mg
 blt:∃ mb,base.Ns builtinsNs mb∧∀ x:Str,x≠"__name__"→mb x=bootBuiltins x
 nolimit:base.NoLimit
structure Cx where
 prog:Program
 w:World
 K:PySem.W.Frag
 mg:Str→Option Value
 base:Heap
 A:Around
 N:List Str
 s₀:Shared
 H₀:Hp
 env:Env
 outer:List Env
 stack:List Env
 ex:List Addr
 fn:Str→Bool
 calm:Bool
 pn:List (Addr×Obj)
 xe:Value→Shared→Prop
noncomputable def frs (l:List Env):List Addr:=l.filterMap (·.frame)
noncomputable abbrev Cx.fs (X:Cx):List Addr:=frs X.outer
noncomputable def Vis (sc:Scope) (x:Str):Prop:=sc.names.lookup x=some .local∨sc.names.lookup x=some .cell∨sc.names.lookup x=some .free
noncomputable def Loc (sc:Scope) (x:Str):Prop:=sc.names.lookup x=some .local∨sc.names.lookup x=some .cell
noncomputable def Look (env:Env) (h:Heap) (m:Str→Option Value) (x:Str) (u:Value):Prop:=
 (env.kindOf x=some .local∧m x=some u)∨((env.kindOf x=some .cell∨env.kindOf x=some .free)∧∃ c,env.cells.lookup x=some c∧h.IsCell c (some u))
structure Cx.Ok (X:Cx):Prop where
 mod:Mod X.K X.mg X.base
 kind:X.env.scope.kind= .function
 glob:X.env.globals=mainGlobals
 blt:X.env.builtins=builtinsNs
 above:X.s₀.heap.objs.size≤X.env.locals
 inj:∀ x y c,X.env.cells.lookup x=some c→X.env.cells.lookup y=some c→x=y
 has:∀ x,(X.env.kindOf x=some .cell∨X.env.kindOf x=some .free)→∃ c,X.env.cells.lookup x=some c
 cab:∀ x c,X.fn x=true→X.env.cells.lookup x=some c→X.s₀.heap.objs.size≤c
 hd:X.calm=true→X.A.handled=none
 frames:X.A.frames=some X.stack
 stk:X.stack=X.outer∨(X.stack=X.env::X.outer∧X.env.frame=some X.env.locals)
 exf:∀ b∈X.ex,b≠X.env.locals∧∀ x c,X.env.cells.lookup x=some c→c≠b
 bs:∀ b o,X.base.get? b=some o→X.s₀.heap.get? b=some o∧X.H₀ b=none
 bsz:X.base.objs.size≤X.s₀.heap.objs.size
 noex:∀ b o,X.base.get? b=some o→b∉X.ex
 exfs:∀ b∈X.ex,b∉X.fs
 funs:X.s₀.heap.FunFrames X.base X.outer
 frf:∀ b∈X.fs,X.H₀ b=none
structure Inv (X:Cx) (pins:List (Addr×Obj)) (σ:List (Option V)) (H:Hp) (s:Shared):Prop where
 ok:X.Ok
 os:s.os=X.s₀.os
 bare:AllBare s.gens
 base:Un X.fs X.ex X.H₀ H X.s₀.heap s.heap
 loc:∃ m,s.heap.Ns X.env.locals m∧∀ (i:Nat) (x:Str) (v:V),X.N[i]? =some x→σ[i]? =some (some v)→Vis X.env.scope x→∃ u,RelV v u∧Look X.env s.heap m x u
 cell:∀ x c,X.env.cells.lookup x=some c→∃ v,s.heap.IsCell c v
 free:H X.env.locals=none
 freeC:∀ x c,X.env.cells.lookup x=some c→H c=none
 pin:∀ p∈X.pn++pins,s.heap.get? p.1=some p.2∧H p.1=none∧p.1≠X.env.locals∧p.1∉X.fs∧∀ v,p.2.data≠.cell v
 hok:HOk X.prog X.w H s.heap
 len:σ.length=X.N.length
section
variable {X:Cx} {pins:List (Addr×Obj)} {σ:List (Option V)} {H H':Hp} {s:Shared} {h':Heap}
theorem Cx.Ok.nofr (ok:X.Ok) {b:Addr} {o:Obj} (e:X.base.get? b=some o):b∉X.fs:=fun hb=>by
 have:=(ok.funs.mem hb).1
 rw [e] at this;cases this
theorem Inv.bs (I:Inv X pins σ H s):∀ b o,X.base.get? b=some o→s.heap.get? b=some o∧H b=none:=fun b o e=>
 ⟨I.base.keep b o (I.ok.bs b o e).1 (I.ok.bs b o e).2 (I.ok.nofr e) (I.ok.noex b o e),I.base.free b o (I.ok.bs b o e).1 (I.ok.bs b o e).2 (I.ok.noex b o e)⟩
theorem Inv.bk (I:Inv X pins σ H s):∀ b o,X.base.get? b=some o→s.heap.get? b=some o:=fun b o e=>(I.bs b o e).1
theorem Inv.mod (I:Inv X pins σ H s):Mod X.K X.mg X.base:=I.ok.mod
theorem Inv.kIn (I:Inv X pins σ H s):X.K.In s.heap:=I.ok.mod.kin.keeps I.bk
theorem Inv.lt (I:Inv X pins σ H s):X.env.locals < s.heap.objs.size:=let ⟨_,hn,_⟩:=I.loc;hn.lt
theorem Inv.sz (I:Inv X pins σ H s):X.s₀.heap.objs.size≤s.heap.objs.size:=Nat.le_trans I.ok.above (Nat.le_of_lt I.lt)
theorem Inv.nofs (I:Inv X pins σ H s) {a:Addr} (h:s.heap.objs.size≤a):a∉X.fs:=fun hb=>by
 obtain ⟨_,o,ho,_⟩:=I.ok.funs.mem hb
 exact absurd (Nat.lt_of_lt_of_le (Heap.lt_size ho) (Nat.le_trans I.sz h)) (Nat.lt_irrefl _)
theorem Inv.cne (I:Inv X pins σ H s):∀ x c,X.env.cells.lookup x=some c→c≠X.env.locals:=fun x c e z=>by
 obtain ⟨v,o,ho,hd⟩:=I.cell x c e
 obtain ⟨m,⟨o',es,ep,ho',hd',_⟩,_⟩:=I.loc
 rw [z,ho'] at ho;cases ho;rw [hd'] at hd;cases hd
theorem Inv.funs (I:Inv X pins σ H s):s.heap.FunFrames X.base X.outer:=by
 have all:∀ (l:List Env),(∀ b∈frs l,b∈X.fs)→X.s₀.heap.FunFrames X.base l→s.heap.FunFrames X.base l:=by
  intro l
  induction l with
  | nil=>intro _ _;trivial
  | cons env r ih=>
    intro hs hl
    obtain ⟨hk,⟨L,o,hf,hn,ho,hd⟩,hr⟩:=hl
    have hL:L∈X.fs:=hs L (by unfold frs;rw [List.filterMap_cons,hf];exact List.mem_cons_self)
    obtain ⟨sl,e⟩:=I.base.slot L o ho (I.ok.frf L hL) hL fun z=>I.ok.exfs L z hL
    exact ⟨hk,⟨L,_,hf,hn,e,hd⟩,ih (fun b hb=>hs b (by unfold frs;rw [List.filterMap_cons,hf];exact List.mem_cons_of_mem _ hb)) hr⟩
 exact all X.outer (fun _ hb=>hb) I.ok.funs
theorem Inv.stack (I:Inv X pins σ H s):s.heap.FunFrames X.base X.stack:=by
 rcases I.ok.stk with e | ⟨e,hf⟩
 ·rw [e];exact I.funs
 ·rw [e]
  obtain ⟨m,hn,_⟩:=I.loc
  refine .cons (by rw [I.ok.kind];decide) hf hn ?_ I.funs
  exact Heap.get?_none_of_le (Nat.le_trans I.ok.bsz I.ok.above)
theorem Inv.stkSub (I:Inv X pins σ H s):∀ b∈frs X.stack,b∈X.env.locals::X.fs:=fun b hb=>by
 rcases I.ok.stk with e | ⟨e,hf⟩
 ·rw [e] at hb;exact List.mem_cons_of_mem _ hb
 ·rw [e] at hb
  unfold frs at hb
  rw [List.filterMap_cons,hf] at hb
  exact hb
theorem Inv.stkFree (I:Inv X pins σ H s):∀ b∈frs X.stack,H b=none:=fun b hb=>by
 rcases List.mem_cons.mp (I.stkSub b hb) with e | hb
 ·rw [e];exact I.free
 ·obtain ⟨_,o,ho,_⟩:=I.ok.funs.mem hb
  exact I.base.free b o ho (I.ok.frf b hb) fun z=>I.ok.exfs b z hb
theorem Inv.step {g':Array GenState} {t':Nat} {d':Drawn} {ch:List Addr} (I:Inv X pins σ H s)
  (hch:∀ b∈ch,(b∈X.ex∨X.s₀.heap.objs.size≤b)∧b≠X.env.locals∧(∀ x c,X.env.cells.lookup x=some c→c≠b)∧∀ p∈X.pn++pins,p.1≠b)
  (keep:∀ b o,b≠X.env.locals→b∉X.fs→b∉ch→s.heap.get? b=some o→H b=none→h'.get? b=some o)
  (slot:∀ b o,b≠X.env.locals→b∈X.fs→b∉ch→s.heap.get? b=some o→H b=none→∃ sl,h'.get? b=some {o with slots:=sl}) (free:∀ b o,b∉ch→s.heap.get? b=some o→H b=none→H' b=none)
  (there:∀ b o,b∉ch→s.heap.get? b=some o→∃ o',h'.get? b=some o')
  (tups:∀ b xs,H b=some (.tup xs)→H' b=some (.tup xs)) (frzs:∀ b o u,H b=some (.frz o u)→H' b=some (.frz o u)) (tbls:∀ b ps,H b=some (.tbl ps)→∃ more,H' b=some (.tbl (ps++more)))
  (ns:∀ m,s.heap.Ns X.env.locals m→h'.Ns X.env.locals m) (hok:HOk X.prog X.w H' h') (hg:AllBare g'):
  Inv X pins σ H' {s with heap:=h',gens:=g',drawn:=d',toks:=t'}:=by
 have neL:∀ b o,X.s₀.heap.get? b=some o→b≠X.env.locals:=fun b o e=>Nat.ne_of_lt (Nat.lt_of_lt_of_le (Heap.lt_size e) I.ok.above)
 have neC:∀ b o,X.s₀.heap.get? b=some o→b∉X.ex→b∉ch:=fun b o e hx hb=>by
  rcases (hch b hb).1 with z | z
  ·exact hx z
  ·exact absurd (Nat.lt_of_lt_of_le (Heap.lt_size e) z) (Nat.lt_irrefl _)
 have cellK:∀ x c,X.env.cells.lookup x=some c→∀ v,s.heap.IsCell c v→h'.IsCell c v:=fun x c e v ⟨o,ho,hd⟩=>by
  have nch:c∉ch:=fun z=>(hch c z).2.2.1 x c e rfl
  by_cases hc:c∈X.fs
  ·obtain ⟨sl,q⟩:=slot c o (I.cne x c e) hc nch ho (I.freeC x c e)
   exact ⟨_,q,hd⟩
  ·exact ⟨o,keep c o (I.cne x c e) hc nch ho (I.freeC x c e),hd⟩
 refine ⟨I.ok,I.os,hg,⟨fun b o e n hb hx=>?_,fun b o e n hb hx=>?_,fun b o e n hx=>?_,fun b o e hx=>?_,fun b xs e=>tups b xs (I.base.tups b xs e),fun b o xs e=>frzs b o xs (I.base.frzs b o xs e),fun b ps e=>?_⟩,?_,fun x c e=>?_,?_,fun x c e=>?_,fun p hp=>?_,hok,I.len⟩
 ·exact keep b o (neL b o e) hb (neC b o e hx) (I.base.keep b o e n hb hx) (I.base.free b o e n hx)
 ·obtain ⟨sl,e1⟩:=I.base.slot b o e n hb hx
  obtain ⟨sl',e2⟩:=slot b _ (neL b o e) hb (neC b o e hx) e1 (I.base.free b o e n hx)
  exact ⟨sl',e2⟩
 ·obtain ⟨o',e1⟩:=I.base.there b o e hx
  exact free b o' (neC b o e hx) e1 (I.base.free b o e n hx)
 ·obtain ⟨o',e1⟩:=I.base.there b o e hx
  exact there b o' (neC b o e hx) e1
 ·obtain ⟨m1,e1⟩:=I.base.tbls b ps e
  obtain ⟨m2,e2⟩:=tbls b _ e1
  exact ⟨m1++m2,by rw [e2,Array.append_assoc]⟩
 ·obtain ⟨m,hn,hl⟩:=I.loc
  refine ⟨m,ns m hn,fun i x v e1 e2 e3=>?_⟩
  obtain ⟨u,r,l⟩:=hl i x v e1 e2 e3
  refine ⟨u,r,?_⟩
  rcases l with l | ⟨k,c,e,z⟩
  ·exact .inl l
  ·exact .inr ⟨k,c,e,cellK x c e _ z⟩
 ·obtain ⟨v,z⟩:=I.cell x c e
  exact ⟨v,cellK x c e v z⟩
 ·obtain ⟨m,⟨o,_,_,ho,_⟩,_⟩:=I.loc
  exact free _ o (fun z=>(hch _ z).2.1 rfl) ho I.free
 ·obtain ⟨v,o,ho,hd⟩:=I.cell x c e
  exact free c o (fun z=>(hch c z).2.2.1 x c e rfl) ho (I.freeC x c e)
 ·obtain ⟨e,n,ne,nf,d⟩:=I.pin p hp
  have nch:p.1∉ch:=fun z=>(hch p.1 z).2.2.2 p hp rfl
  exact ⟨keep p.1 p.2 ne nf nch e n,free p.1 p.2 nch e n,ne,nf,d⟩
theorem Inv.un {t':Nat} (I:Inv X pins σ H s) (u:Un X.fs [] H H' s.heap h') (hok:HOk X.prog X.w H' h'):Inv X pins σ H' {s with heap:=h',toks:=t'}:=by
 obtain ⟨m,⟨o,es,ep,ho,r⟩,_⟩:=id I.loc
 obtain ⟨sl,hL⟩:=u.any ho I.free (by simp)
 exact I.step (g':=s.gens) (d':=s.drawn) (ch:=[]) (fun _ z=>nomatch z) (fun b o _ hb _ e n=>u.keep b o e n hb (by simp)) (fun b o _ hb _ e n=>u.slot b o e n hb (by simp)) (fun b o _ e n=>u.free b o e n (by simp)) (fun b o _ e=>u.there b o e (by simp)) u.tups u.frzs u.tbls (fun m' hm=>by
  obtain ⟨o',es',ep',ho',r'⟩:=hm
  rw [ho] at ho';cases ho'
  exact ⟨_,es',ep',hL,r'⟩) hok I.bare
theorem Inv.call {g':Array GenState} {t':Nat} {d':Drawn} {ch:List Addr} (I:Inv X pins σ H s) (u:Un (frs X.stack) ch H H' s.heap h') (hok:HOk X.prog X.w H' h') (hg:AllBare g')
  (hch:∀ b∈ch,(b∈X.ex∨X.s₀.heap.objs.size≤b)∧b≠X.env.locals∧(∀ x c,X.env.cells.lookup x=some c→c≠b)∧∀ p∈X.pn++pins,p.1≠b):
  Inv X pins σ H' {s with heap:=h',gens:=g',drawn:=d',toks:=t'}:=by
 obtain ⟨m,⟨o,es,ep,ho,r⟩,_⟩:=id I.loc
 obtain ⟨sl,hL⟩:=u.any ho I.free fun z=>(hch _ z).2.1 rfl
 exact I.step (ch:=ch) hch (fun b o hL hb hc e n=>u.keep b o e n (fun z=>(List.mem_cons.mp (I.stkSub b z)).elim hL hb) hc) (fun b o _ _ hc e n=>u.any e n hc) (fun b o hc e n=>u.free b o e n hc) (fun b o hc e=>u.there b o e hc) u.tups u.frzs u.tbls (fun m' hm=>by
  obtain ⟨o',es',ep',ho',r'⟩:=hm
  rw [ho] at ho';cases ho'
  exact ⟨_,es',ep',hL,r'⟩) hok hg
theorem Inv.turned {t':Nat} {it:Addr} (I:Inv X pins σ H s) (k:∀ b o,b≠it→s.heap.get? b=some o→h'.get? b=some o) (hn:H it=none) (hL:it≠X.env.locals)
  (h1:it∈X.ex∨X.s₀.heap.objs.size≤it) (h2:∀ x c,X.env.cells.lookup x=some c→c≠it) (h3:∀ p∈X.pn++pins,p.1≠it):Inv X pins σ H {s with heap:=h',toks:=t'}:=by
 have nit:∀ b u,H b=some u→b≠it:=fun b u e z=>by rw [z,hn] at e;cases e
 refine I.step (g':=s.gens) (d':=s.drawn) (ch:=[it]) (fun b hb=>?_) (fun b o _ _ hc e _=>k b o (fun z=>hc (by simp [z])) e) (fun b o _ _ hc e _=>⟨o.slots,k b o (fun z=>hc (by simp [z])) e⟩) (fun _ _ _ _ n=>n)
  (fun b o hc e=>⟨o,k b o (fun z=>hc (by simp [z])) e⟩) (fun _ _ e=>e) (fun _ _ _ e=>e) (fun b ps e=>⟨#[],by rw [e];simp⟩) (fun m hm=>?_) (fun b u e=>?_) I.bare
 ·have e:b=it:=by simpa using hb
  subst e
  exact ⟨h1,hL,h2,h3⟩
 ·obtain ⟨o,es,ep,ho,r⟩:=hm
  exact ⟨o,es,ep,k _ o (Ne.symm hL) ho,r⟩
 ·refine (I.hok b u e).stay (fun c v hc q=>k c v ?_ q) (fun _ q=>q) fun _ _ q=>q
  rcases hc with z | z
  ·rw [z];exact nit b u e
  ·exact nit c _ z
theorem Inv.tok (I:Inv X pins σ H s) (t:Nat):Inv X pins σ H {s with toks:=t}:=I.un (h':=s.heap) (t':=t) Un.refl I.hok
theorem Inv.kept {t':Nat} (I:Inv X pins σ H s) (k:∀ b u,s.heap.get? b=some u→h'.get? b=some u):Inv X pins σ H {s with heap:=h',toks:=t'}:=I.un (Un.kept k) (I.hok.kept k)
theorem Inv.laid {a:Addr} {o:HO} {t':Nat} (I:Inv X pins σ H s) (k:∀ b u,s.heap.get? b=some u→h'.get? b=some u) (hp:s.heap.objs.size≤a) (new:eW X.prog X.w (upd H a o) h' a o):
  Inv X pins σ (upd H a o) {s with heap:=h',toks:=t'}:=I.un (Un.laid k hp (I.hok.fresh hp)) (I.hok.laid k hp new)
theorem Inv.write {x e:Addr} {o:HO} {t':Nat} (I:Inv X pins σ H s) (mu:Mut (H x)) (he:e=x∨H e=some (.own x)) (k:∀ b u,b≠e→s.heap.get? b=some u→h'.get? b=some u) (heo:∃ u,h'.get? e=some u)
  (new:eW X.prog X.w (upd H x o) h' x o):Inv X pins σ (upd H x o) {s with heap:=h',toks:=t'}:=I.un (Un.write mu he k heo) (I.hok.write mu he k heo new)
theorem Inv.weak {σ':List (Option V)} (I:Inv X pins σ H s) (hl:σ'.length=σ.length) (w:∀ (i:Nat) v,σ'[i]? =some (some v)→σ[i]? =some (some v)):Inv X pins σ' H s:=
 ⟨I.ok,I.os,I.bare,I.base,let ⟨m,hn,hl'⟩:=I.loc;⟨m,hn,fun i x v e1 e2 e3=>hl' i x v e1 (w i v e2) e3⟩,I.cell,I.free,I.freeC,I.pin,I.hok,hl.trans I.len⟩
theorem Inv.pins_of {pins':List (Addr×Obj)} (I:Inv X pins σ H s) (h:∀ p∈pins',s.heap.get? p.1=some p.2∧H p.1=none∧p.1≠X.env.locals∧p.1∉X.fs∧∀ v,p.2.data≠.cell v):Inv X pins' σ H s:=
 ⟨I.ok,I.os,I.bare,I.base,I.loc,I.cell,I.free,I.freeC,fun p hp=>(List.mem_append.mp hp).elim (fun z=>I.pin p (List.mem_append_left _ z)) (h p),I.hok,I.len⟩
theorem Bd {N:List Str} (hN:N.Nodup) {i j:Nat} {x:Str} (a:N[i]? =some x) (b:N[j]? =some x):i=j:=by
 obtain ⟨h1,e1⟩:=List.getElem?_eq_some_iff.mp a
 obtain ⟨h2,e2⟩:=List.getElem?_eq_some_iff.mp b
 exact (List.getElem_inj hN).mp (e1.trans e2.symm)
theorem wH {M:Model} {A:Around} {E:Value→Shared→Prop} {i:Nat} {x:Str} {v:V} {u:Value} {Q:Unit→Shared→Prop} (I:Inv X pins σ H s) (hN:X.N.Nodup) (hi:X.N[i]? =some x) (hx:Loc X.env.scope x) (r:RelV v u)
  (h:∀ s',Inv X pins (σ.set i (some v)) H s'→(∃ a,Heap.SameBut a s.heap s'.heap∧(a=X.env.locals∨X.env.cells.lookup x=some a))→Q () s') (hf:X.fn x=true∨X.env.scope.names.lookup x=some .local:=by first | exact .inl rfl | exact .inr rfl | assumption):wpAny M A (storeName X.env x u) Q E s:=by
 obtain ⟨m,hn,hl⟩:=id I.loc
 have hcls:(X.env.scope.kind == .class||(X.env.scope.kind == .module&&X.env.locals != X.env.globals))=false:=by rw [I.ok.kind];rfl
 have hiσ:i < σ.length:=by rw [I.len];exact (List.getElem?_eq_some_iff.mp hi).1
 have cne:=I.cne
 have tracked:∀ {a:Addr} {h':Heap},(∃ o,s.heap.get? a=some o∧H a=none)→Heap.SameBut a s.heap h'→HOk X.prog X.w H h':=fun {a h'} ha hs b ob e=>by
  obtain ⟨_,_,hfree⟩:=ha
  refine (I.hok b ob e).stay (fun c w' hc q=>(hs.2 c ?_).trans q) (fun _ q=>q) fun _ _ q=>q
  rintro rfl
  rcases hc with rfl | hc
  ·rw [hfree] at e;cases e
  ·rw [hfree] at hc;cases hc
 rcases hx with hk | hk
 ·refine wpAny_storeName_local hk hn (fun h' hn' hs=>?_) hcls
  obtain ⟨oL,_,_,hoL,_⟩:=id hn
  refine h _ ⟨I.ok,I.os,I.bare,⟨fun b o e n hb hx=>?_,fun b o e n hb hx=>?_,I.base.free,fun b o e hx=>?_,I.base.tups,I.base.frzs,I.base.tbls⟩,⟨_,hn',fun j y v' e1 e2 e3=>?_⟩,fun y c e=>?_,I.free,I.freeC,fun p hp=>?_,tracked ⟨oL,hoL,I.free⟩ hs,by simpa using I.len⟩ ⟨_,hs,.inl rfl⟩
  ·exact (hs.2 b (Nat.ne_of_lt (Nat.lt_of_lt_of_le (Heap.lt_size e) I.ok.above))).trans (I.base.keep b o e n hb hx)
  ·obtain ⟨sl,e1⟩:=I.base.slot b o e n hb hx
   exact ⟨sl,(hs.2 b (Nat.ne_of_lt (Nat.lt_of_lt_of_le (Heap.lt_size e) I.ok.above))).trans e1⟩
  ·obtain ⟨o',e1⟩:=I.base.there b o e hx
   exact ⟨o',(hs.2 b (Nat.ne_of_lt (Nat.lt_of_lt_of_le (Heap.lt_size e) I.ok.above))).trans e1⟩
  ·by_cases hj:j=i
   ·subst hj
    rw [hi] at e1;cases e1
    rw [List.getElem?_set_self hiσ] at e2
    cases e2
    exact ⟨u,r,.inl ⟨hk,by simp⟩⟩
   ·rw [List.getElem?_set_ne (Ne.symm hj)] at e2
    obtain ⟨u',r',q⟩:=hl j y v' e1 e2 e3
    refine ⟨u',r',?_⟩
    rcases q with ⟨k,e⟩ | ⟨k,c,e,z⟩
    ·refine .inl ⟨k,?_⟩
     have:y≠x:=fun e=>hj (Bd hN e1 (e ▸ hi))
     simp [this,e]
    ·exact .inr ⟨k,c,e,z.sameBut hs (cne y c e)⟩
  ·obtain ⟨w',z⟩:=I.cell y c e
   exact ⟨w',z.sameBut hs (cne y c e)⟩
  ·obtain ⟨e,n,ne,nf,d⟩:=I.pin p hp
   exact ⟨(hs.2 p.1 ne).trans e,n,ne,nf,d⟩
 ·have hfn:X.fn x=true:=by
   rcases hf with z | z
   ·exact z
   ·rw [z] at hk;cases hk
  obtain ⟨c,hc⟩:=I.ok.has x (.inl hk)
  obtain ⟨w',z⟩:=I.cell x c hc
  refine wpAny_storeName_cell I.ok.kind hk hc z (fun h' hc' hs=>?_)
  obtain ⟨oc,hoc,hocd⟩:=id z
  refine h {s with heap:=h'} ⟨I.ok,I.os,I.bare,⟨fun b o e n hb hx=>?_,fun b o e n hb hx=>?_,I.base.free,fun b o e hx=>?_,I.base.tups,I.base.frzs,I.base.tbls⟩,⟨m,hn.sameBut hs (Ne.symm (cne x c hc)),fun j y v' e1 e2 e3=>?_⟩,fun y c' e=>?_,I.free,I.freeC,fun p hp=>?_,tracked ⟨oc,hoc,I.freeC x c hc⟩ hs,by simpa using I.len⟩ ⟨c,hs,.inr hc⟩
  ·exact (hs.2 b (Nat.ne_of_lt (Nat.lt_of_lt_of_le (Heap.lt_size e) (I.ok.cab x c hfn hc)))).trans (I.base.keep b o e n hb hx)
  ·obtain ⟨sl,e1⟩:=I.base.slot b o e n hb hx
   exact ⟨sl,(hs.2 b (Nat.ne_of_lt (Nat.lt_of_lt_of_le (Heap.lt_size e) (I.ok.cab x c hfn hc)))).trans e1⟩
  ·obtain ⟨o',e1⟩:=I.base.there b o e hx
   exact ⟨o',(hs.2 b (Nat.ne_of_lt (Nat.lt_of_lt_of_le (Heap.lt_size e) (I.ok.cab x c hfn hc)))).trans e1⟩
  ·by_cases hj:j=i
   ·subst hj
    rw [hi] at e1;cases e1
    rw [List.getElem?_set_self hiσ] at e2
    cases e2
    exact ⟨u,r,.inr ⟨.inl hk,c,hc,hc'⟩⟩
   ·rw [List.getElem?_set_ne (Ne.symm hj)] at e2
    obtain ⟨u',r',q⟩:=hl j y v' e1 e2 e3
    refine ⟨u',r',?_⟩
    rcases q with q | ⟨k,c',e,z'⟩
    ·exact .inl q
    ·refine .inr ⟨k,c',e,z'.sameBut hs ?_⟩
     rintro rfl
     exact hj (Bd hN e1 (I.ok.inj _ _ _ e hc ▸ hi))
  ·by_cases hcc:c'=c
   ·subst hcc;exact ⟨_,hc'⟩
   ·obtain ⟨w2,z2⟩:=I.cell y c' e
    exact ⟨w2,z2.sameBut hs hcc⟩
  ·obtain ⟨e,n,ne,nf,d⟩:=I.pin p hp
   refine ⟨(hs.2 p.1 ?_).trans e,n,ne,nf,d⟩
   intro q
   rw [q,hoc] at e
   have q':oc=p.2:=Option.some.inj e
   exact d w' (by rw [← q'];exact hocd)
theorem AZ {M:Model} {A:Around} {E:Value→Shared→Prop} {i:Nat} {x:Str} {v:V} {u:Value} {Q:Unit→Shared→Prop} (I:Inv X pins σ H s) (hN:X.N.Nodup) (hi:X.N[i]? =some x) (hx:Loc X.env.scope x) (r:RelV v u)
  (h:∀ s',Inv X pins (σ.set i (some v)) H s'→Q () s') (hf:X.fn x=true∨X.env.scope.names.lookup x=some .local:=by first | exact .inl rfl | exact .inr rfl | assumption):wpAny M A (storeName X.env x u) Q E s:=
 wH I hN hi hx r (fun s' I' _=>h s' I') hf
theorem Inv.call' {s':Shared} {ch:List Addr} (I:Inv X pins σ H s) (ho:s'.os=s.os) (u:Un (frs X.stack) ch H H' s.heap s'.heap) (hok:HOk X.prog X.w H' s'.heap) (hg:AllBare s'.gens)
  (hch:∀ b∈ch,(b∈X.ex∨X.s₀.heap.objs.size≤b)∧b≠X.env.locals∧(∀ x c,X.env.cells.lookup x=some c→c≠b)∧∀ p∈X.pn++pins,p.1≠b):Inv X pins σ H' s':=by
 obtain ⟨h',g',d',t',o'⟩:=s'
 have e:o'=s.os:=ho
 subst e
 exact I.call (g':=g') (t':=t') (d':=d') u hok hg hch
end
noncomputable abbrev XK:=Value→Option Addr→Hp→Prop
noncomputable abbrev St:=List (Option V)
noncomputable abbrev VK:=V→Hp→Prop
noncomputable abbrev TE:=St→Hp→VK→Prop
noncomputable abbrev TT:=St→Hp→(Bool→Hp→Prop)→Prop
noncomputable abbrev TA:=St→Hp→(List V→Hp→Prop)→Prop
structure Ends where
 nx:St→Hp→Prop
 rt:VK
 bk:St→Hp→Prop:=fun _ _=>False
 ct:St→Hp→Prop:=fun _ _=>False
noncomputable abbrev TS:=Ends→St→Hp→Prop
noncomputable def EP (X:Cx) (pins:List (Addr×Obj)) (σ:St) (Q:VK) (u:Value) (s':Shared):Prop:=∃ v H',Inv X pins σ H' s'∧RelV v u∧Q v H'
noncomputable def TP (X:Cx) (pins:List (Addr×Obj)) (σ:St) (Q:Bool→Hp→Prop) (b:Bool) (s':Shared):Prop:=∃ H',Inv X pins σ H' s'∧Q b H'
noncomputable def AP (X:Cx) (pins:List (Addr×Obj)) (σ:St) (Q:List V→Hp→Prop) (us:List Value) (s':Shared):Prop:=∃ vs H',Inv X pins σ H' s'∧Vals vs us∧Q vs H'
noncomputable def SP (X:Cx) (pins:List (Addr×Obj)) (D:Ends) (f:Flow) (s':Shared):Prop:=
 match f with
 | .next=>∃ σ' H',Inv X pins σ' H' s'∧D.nx σ' H'
 | .brk=>∃ σ' H',Inv X pins σ' H' s'∧D.bk σ' H'
 | .cont=>∃ σ' H',Inv X pins σ' H' s'∧D.ct σ' H'
 | .ret u=>∃ v σ' H',Inv X pins σ' H' s'∧RelV v u∧D.rt v H'
noncomputable def PE (X:Cx) (e:Expr) (t:TE):Prop:=
 ∀ (pins:List (Addr×Obj)) (s:Shared) (σ:St) (H:Hp) (Q:VK),Inv X pins σ H s→t σ H Q→wpAny (model X.prog X.w) X.A (eval e X.env) (EP X pins σ Q) X.xe s
noncomputable def PT (X:Cx) (e:Expr) (t:TT):Prop:=
 ∀ (pins:List (Addr×Obj)) (s:Shared) (σ:St) (H:Hp) (Q:Bool→Hp→Prop),Inv X pins σ H s→t σ H Q→wpAny (model X.prog X.w) X.A (isTrue e X.env (eval e X.env)) (TP X pins σ Q) X.xe s
noncomputable def PW (X:Cx) (e:Expr) (t:TT):Prop:=
 ∀ (whole:Sem Value) (pins:List (Addr×Obj)) (s:Shared) (σ:St) (H:Hp) (Q:Bool→Hp→Prop),Inv X pins σ H s→t σ H Q→wpAny (model X.prog X.w) X.A (isTrue e X.env whole) (TP X pins σ Q) X.xe s
theorem PW.pt {X:Cx} {e:Expr} {t:TT} (h:PW X e t):PT X e t:=h _
noncomputable def PA (X:Cx) (es:List Expr) (t:TA):Prop:=
 ∀ (pos:Pos) (pins:List (Addr×Obj)) (s:Shared) (σ:St) (H:Hp) (Q:List V→Hp→Prop),Inv X pins σ H s→t σ H Q→wpAny (model X.prog X.w) X.A (spliced (backTo pos (starEach es X.env))) (AP X pins σ Q) X.xe s
noncomputable def PS (X:Cx) (st:Stmt) (t:TS):Prop:=
 ∀ (pins:List (Addr×Obj)) (s:Shared) (σ:St) (H:Hp) (D:Ends),Inv X pins σ H s→t D σ H→wpAny (model X.prog X.w) X.A (exec st X.env) (SP X pins D) X.xe s
noncomputable def PSs (X:Cx) (st:List Stmt) (t:TS):Prop:=
 ∀ (pins:List (Addr×Obj)) (s:Shared) (σ:St) (H:Hp) (D:Ends),Inv X pins σ H s→t D σ H→wpAny (model X.prog X.w) X.A (execs st X.env) (SP X pins D) X.xe s
theorem thn {α:Type} {t:Sem α} {Q Q':α→Shared→Prop} {M:Model} {A:Around} {E:Value→Shared→Prop} {s:Shared} (h:wpAny M A t Q E s) (hQ:∀ a s,Q a s→Q' a s):wpAny M A t Q' E s:=wpAny_mono h hQ fun _ _ x=>x
section
variable {X:Cx}
noncomputable def tVar (i:Nat):TE:=fun σ H Q=>∃ v,σ[i]? =some (some v)∧Q v H
noncomputable def tC (v:V):TE:=fun _ H Q=>Q v H
theorem Mz {i:Nat} {x:Str} {pos:Pos} (hN:X.N[i]? =some x) (hv:Vis X.env.scope x) (hd:(x == ("__debug__":Str))=false:=by decide) (hcd:(x == ("__classdict__":Str))=false:=by decide):PE X (.Name x pos) (tVar i):=by
 intro pins s σ H Q I h
 obtain ⟨v,e,h⟩:=h
 obtain ⟨m,hn,hl⟩:=I.loc
 obtain ⟨u,r,l⟩:=hl i x v hN e hv
 have fin:EP X pins σ Q u s:=⟨v,H,I,r,h⟩
 rcases l with ⟨hk,hm⟩ | ⟨hk,c,hc,hcell⟩
 ·exact wpAny_Name (wpAny_loadName_local I.ok.kind hk hn hm fin) hd
 ·rcases hk with hk | hk
  ·exact wpAny_Name (wpAny_loadName_cell I.ok.kind hk hc hcell fin) hd
  ·exact wpAny_Name (wpAny_loadName_free I.ok.kind hk hc hcell fin hcd) hd
theorem ag {i j pos}:PE X (.Constant (.int i) j pos) (tC (.int i)):=fun _ _ _ H _ I h=>wpAny_Constant_int ⟨.int i,H,I.tok _,⟨_,rfl⟩,h⟩
theorem kn {b j pos}:PE X (.Constant (.bool b) j pos) (tC (.bl b)):=fun _ _ _ H _ I h=>Constant_bool ⟨.bl b,H,I,rfl,h⟩
theorem n9 {x j pos}:PE X (.Constant (.str x) j pos) (tC (.str x)):=fun _ _ _ H _ I h=>Calls.Constant_str ⟨.str x,H,I.tok _,⟨_,rfl⟩,h⟩
noncomputable def Gl (X:Cx) (x:Str):Prop:=X.env.kindOf x=some .globalImplicit
theorem vw {E:Value→Shared→Prop} {pins:List (Addr×Obj)} {s:Shared} {σ:St} {H:Hp} {x:Str} {u:Value} {pos:Pos} {Q:Value→Shared→Prop} (I:Inv X pins σ H s) (hg:Gl X x) (hm:X.mg x=some u) (h:Q u s)
  (hd:(x == ("__debug__":Str))=false:=by decide):wpAny (model X.prog X.w) X.A (eval (.Name x pos) X.env) Q E s:=
 Calls.Name_function_global I.ok.kind hg (Calls.loadGlobal_global (by rw [I.ok.glob];exact I.mod.glob.keeps I.bk) hm h) hd
theorem oy {E:Value→Shared→Prop} {pins:List (Addr×Obj)} {s:Shared} {σ:St} {H:Hp} {x:Str} {u:Value} {pos:Pos} {Q:Value→Shared→Prop} (I:Inv X pins σ H s) (hg:Gl X x) (hm:X.mg x=none) (hv:bootBuiltins x=some u) (h:Q u s)
  (hn:x≠"__name__":=by decide) (hd:(x == ("__debug__":Str))=false:=by decide):wpAny (model X.prog X.w) X.A (eval (.Name x pos) X.env) Q E s:=by
 obtain ⟨mb,h1,h2⟩:=I.mod.blt
 exact Calls.Name_function_global I.ok.kind hg (Calls.loadGlobal_builtin (by rw [I.ok.glob];exact I.mod.glob.keeps I.bk) hm (by rw [I.ok.blt];exact h1.keeps I.bk) ((h2 x hn).trans hv) h) hd
theorem zk {x:Str} {v:V} {u:Value} {pos:Pos} (hg:Gl X x) (hm:X.mg x=some u) (r:RelV v u) (hd:(x == ("__debug__":Str))=false:=by decide):PE X (.Name x pos) (tC v):=
 fun _ _ _ H _ I h=>vw I hg hm ⟨v,H,I,r,h⟩ hd
theorem fJ {x:Str} {v:V} {u:Value} {pos:Pos} (hg:Gl X x) (hm:X.mg x=none) (hv:bootBuiltins x=some u) (r:RelV v u) (hn:x≠"__name__":=by decide) (hd:(x == ("__debug__":Str))=false:=by decide):PE X (.Name x pos) (tC v):=
 fun _ _ _ H _ I h=>oy I hg hm hv ⟨v,H,I,r,h⟩ hn hd
variable {a b:Expr} {ta tb:TE} {pos:Pos}
noncomputable def PC (X:Cx) (op:CmpOp) (a b:Expr) (t:TE):Prop:=
 ∀ (pins:List (Addr×Obj)) (s:Shared) (σ:St) (H:Hp) (Q:VK),Inv X pins σ H s→t σ H Q→
  wpAny (model X.prog X.w) X.A (eval a X.env) (fun v s₁=>wpAny (model X.prog X.w) X.A (eval b X.env) (fun u s₂=>wpAny (model X.prog X.w) X.A (compareOp op v u) (EP X pins σ Q) X.xe s₂) X.xe s₁) X.xe s
noncomputable def tB (t:TE):TT:=fun σ H Q=>t σ H fun x H1=>∃ c,x= .bl c∧Q c H1
theorem Ms {op:CmpOp} {t:TE} (h:PC X op a b t) (h1:behindInMarks op b=false:=by first | exact nobehind _ (by decide) (by decide) | rfl):PT X (.Compare a [op] [b] pos) (tB t):=by
 intro pins s σ H Q I hw
 refine wpAny_isTrue_Compare1 (thn (h pins s σ H _ I hw) fun v s1 h1=>thn h1 fun u s2 h2=>thn h2 fun c s3 ⟨x,H1,I1,r1,q1⟩=>?_) h1
 obtain ⟨d,rfl,q⟩:=q1
 cases r1
 exact wpAny_truthy_bool ⟨H1,I1,q⟩
theorem cz {e:Expr} {t:TE} (h:PE X e t) (he:∀ whole,isTrue e X.env whole=(do let v ← whole;standAt e.pos;holding [v] (truthy v)):=by intro _;rfl):PT X e (tB t):=by
 intro pins s σ H Q I hw
 refine isTrue_plain (thn (h pins s σ H _ I hw) fun v s1 ⟨x,H1,I1,r1,q1⟩=>?_) (he _)
 obtain ⟨d,rfl,q⟩:=q1
 cases r1
 exact wpAny_truthy_bool ⟨H1,I1,q⟩
variable {tA tB':TT} {rest:List Expr}
noncomputable def tAnd (t u:TT):TT:=fun σ H Q=>t σ H fun c H1=>if c=true then u σ H1 Q else Q false H1
noncomputable def tOr (t u:TT):TT:=fun σ H Q=>t σ H fun c H1=>if c=true then Q true H1 else u σ H1 Q
noncomputable def tNot (t:TT):TT:=fun σ H Q=>t σ H fun c H1=>Q (!c) H1
theorem zd (ha:PT X a tA):PW X (.BoolOp .And [a] pos) tA:=by
 intro wh pins s σ H Q I h
 refine isTrue_and (thn (ha pins s σ H Q I h) fun c s1 e=>?_)
 cases c with
 | true=>exact isTrue_and_nil e
 | false=>exact e
theorem i3 (ha:PT X a tA):PW X (.BoolOp .Or [a] pos) tA:=by
 intro wh pins s σ H Q I h
 refine isTrue_or (thn (ha pins s σ H Q I h) fun c s1 e=>?_)
 cases c with
 | false=>exact isTrue_or_nil e
 | true=>exact e
theorem EN (ha:PT X a tA) (hb:PW X (.BoolOp .And (b::rest) pos) tB'):PW X (.BoolOp .And (a::b::rest) pos) (tAnd tA tB'):=by
 intro wh pins s σ H Q I h
 refine isTrue_and (thn (ha pins s σ H _ I h) fun c s1 ⟨H1,I1,q1⟩=>?_)
 cases c with
 | true=>exact hb wh pins s1 σ H1 Q I1 q1
 | false=>exact ⟨H1,I1,q1⟩
theorem m9 (ha:PT X a tA) (hb:PW X (.BoolOp .Or (b::rest) pos) tB'):PW X (.BoolOp .Or (a::b::rest) pos) (tOr tA tB'):=by
 intro wh pins s σ H Q I h
 refine isTrue_or (thn (ha pins s σ H _ I h) fun c s1 ⟨H1,I1,q1⟩=>?_)
 cases c with
 | true=>exact ⟨H1,I1,q1⟩
 | false=>exact hb wh pins s1 σ H1 Q I1 q1
theorem cR (ha:PT X a tA):PT X (.UnaryOp .Not a pos) (tNot tA):=by
 intro pins s σ H Q I h
 exact isTrue_not (ha pins s σ H (fun c H1=>Q (!c) H1) I h)
noncomputable def LG (ta tb:TE):TE:=fun σ H Q=>ta σ H fun x H1=>∃ c,x= .bl c∧if c=true then tb σ H1 Q else Q (.bl false) H1
noncomputable def Lz (ta:TE):TE:=fun σ H Q=>ta σ H fun x H1=>∃ c,x= .bl c∧Q (.bl (!c)) H1
theorem wV {op} {t:TE} (h:PE X a t):PE X (.BoolOp op [a] pos) t:=fun pins s σ H Q I hw=>BoolOp_one (h pins s σ H Q I hw)
theorem oa (ha:PE X a ta) (hb:PE X (.BoolOp .And (b::rest) pos) tb):PE X (.BoolOp .And (a::b::rest) pos) (LG ta tb):=by
 intro pins s σ H Q I h
 refine BoolOp_and (thn (ha pins s σ H _ I h) fun v s1 ⟨x,H1,I1,r1,q1⟩=>?_)
 obtain ⟨c,rfl,q1⟩:=q1
 cases r1
 refine wpAny_truthy_bool ?_
 cases c with
 | true=>exact hb pins s1 σ H1 Q I1 q1
 | false=>exact ⟨.bl false,H1,I1,rfl,q1⟩
theorem Jb (ha:PE X a ta):PE X (.UnaryOp .Not a pos) (Lz ta):=by
 intro pins s σ H Q I h
 refine UnaryOp_ (thn (ha pins s σ H _ I h) fun v s1 ⟨x,H1,I1,r1,q1⟩=>?_)
 obtain ⟨c,rfl,q1⟩:=q1
 cases r1
 exact not_of (wpAny_truthy_bool ⟨.bl (!c),H1,I1,rfl,q1⟩)
end
noncomputable def SqL (K:PySem.W.Frag) (H:Hp) (a:Addr) (xs:List V):Prop:=
 Rd H a (.lst xs)∨
  ∃ (o:Obj) (its:Array Value) (n:Nat),K.lookup a=some o∧o.cls= .type "list"∧o.dict=none∧o.data= .seq its n∧its.size≤sizeLine∧Vals xs its.toList
noncomputable def SqT (K:PySem.W.Frag) (H:Hp) (a:Addr) (xs:List V):Prop:=
 Rd H a (.tup xs)∨
  ∃ (o:Obj) (its:Array Value) (n:Nat),K.lookup a=some o∧o.cls= .type "tuple"∧o.data= .seq its n∧its.size≤sizeLine∧Vals xs its.toList
noncomputable def absV:Value→Option V
 | .none=>some .non
 | .bool b=>some (.bl b)
 | .int i _=>some (.int i)
 | .str x _=>some (.str x)
 | .bytes b _=>some (.byt b)
 | .float b _=>some (.flt b)
 | .ref a=>some (.ref a)
 | .type n=>some (.ty n)
 | _=>none
theorem RelV.abs {x:V} {u:Value} (r:RelV x u):absV u=some x:=by
 cases x with
 | non=>cases r;rfl
 | bl _=>cases r;rfl
 | int _=>obtain ⟨t,rfl⟩:=r;rfl
 | str _=>obtain ⟨t,rfl⟩:=r;rfl
 | byt _=>obtain ⟨t,rfl⟩:=r;rfl
 | flt _=>obtain ⟨t,rfl⟩:=r;rfl
 | ref _=>cases r;rfl
 | ty _=>cases r;rfl
theorem RelV.inj {x y:V} {u:Value} (r:RelV x u) (q:RelV y u):x=y:=Option.some.inj (r.abs.symm.trans q.abs)
theorem Vals.inj:∀ {xs ys:List V} {us:List Value},Vals xs us→Vals ys us→xs=ys
 | _,_,_,.nil,.nil=>rfl
 | _,_,_,.cons r t,.cons r' t'=>by rw [r.inj r',Vals.inj t t']
section
variable {X:Cx} {pins:List (Addr×Obj)} {σ:St} {H:Hp} {s:Shared} {a:Addr} {xs ys:List V}
theorem SqL.of {K:PySem.W.Frag} (h:H a=some (.lst xs)):SqL K H a xs:= .inl (.inl h)
theorem SqT.of {K:PySem.W.Frag} (h:H a=some (.tup xs)):SqT K H a xs:= .inl (.inl h)
theorem Inv.list (I:Inv X pins σ H s) (h:SqL X.K H a xs):∃ its:List Value,Vals xs its∧PlainL s.heap a its.toArray∧xs.length≤sizeLine:=by
 rcases h with h | ⟨o,its,n,hk,hc,hd,hs,hz,r⟩
 ·obtain ⟨z,its,n,r,e⟩:=h.ok I.hok
  exact ⟨its,r,⟨_,n,e,rfl,rfl,rfl⟩,z⟩
 ·refine ⟨its.toList,r,⟨o,n,I.kIn a o hk,hc,hd,by simpa using hs⟩,?_⟩
  have e:=r.length
  simp only [Array.length_toList] at e
  omega
theorem Inv.tuple (I:Inv X pins σ H s) (h:SqT X.K H a xs):∃ its:List Value,Vals xs its∧IsTup s.heap a its.toArray∧xs.length≤sizeLine:=by
 rcases h with h | ⟨o,its,n,hk,hc,hs,hz,r⟩
 ·obtain ⟨z,its,r,p⟩:=h.ok I.hok
  exact ⟨its,r,p,z⟩
 ·refine ⟨its.toList,r,⟨o,I.kIn a o hk,hc,n,by simpa using hs⟩,?_⟩
  have e:=r.length
  simp only [Array.length_toList] at e
  omega
theorem Inv.list_inj (I:Inv X pins σ H s) (h:SqL X.K H a xs) (h':SqL X.K H a ys):xs=ys:=by
 obtain ⟨its,r,⟨o,n,e,_,_,d⟩,_⟩:=I.list h
 obtain ⟨its',r',⟨o',n',e',_,_,d'⟩,_⟩:=I.list h'
 rw [e] at e';cases e'
 rw [d] at d'
 injection d' with d1 _
 have:its=its':=by simpa using congrArg Array.toList d1
 subst this
 exact r.inj r'
theorem Inv.tuple_inj (I:Inv X pins σ H s) (h:SqT X.K H a xs) (h':SqT X.K H a ys):xs=ys:=by
 obtain ⟨its,r,⟨o,e,_,n,d⟩,_⟩:=I.tuple h
 obtain ⟨its',r',⟨o',e',_,n',d'⟩,_⟩:=I.tuple h'
 rw [e] at e';cases e'
 rw [d] at d'
 injection d' with d1 _
 have:its=its':=by simpa using congrArg Array.toList d1
 subst this
 exact r.inj r'
end
noncomputable abbrev Cx.wish (X:Cx) (E:Value→Shared→Prop):Cx:={X with xe:=E}
noncomputable abbrev Cx.nox (X:Cx):Cx:=X.wish fun _ _=>False
theorem Cx.Ok.wish {X:Cx} (ok:X.Ok) (E:Value→Shared→Prop):(X.wish E).Ok:=
 ⟨ok.mod,ok.kind,ok.glob,ok.blt,ok.above,ok.inj,ok.has,ok.cab,ok.hd,ok.frames,ok.stk,ok.exf,ok.bs,ok.bsz,ok.noex,ok.exfs,ok.funs,ok.frf⟩
theorem Cx.Ok.unwish {X:Cx} {E:Value→Shared→Prop} (ok:(X.wish E).Ok):X.Ok:=
 ⟨ok.mod,ok.kind,ok.glob,ok.blt,ok.above,ok.inj,ok.has,ok.cab,ok.hd,ok.frames,ok.stk,ok.exf,ok.bs,ok.bsz,ok.noex,ok.exfs,ok.funs,ok.frf⟩
section
variable {X:Cx} {pins:List (Addr×Obj)} {σ:St} {H:Hp} {s:Shared} {E:Value→Shared→Prop}
theorem Inv.wish (I:Inv X pins σ H s) (E:Value→Shared→Prop):Inv (X.wish E) pins σ H s:=⟨I.ok.wish E,I.os,I.bare,I.base,I.loc,I.cell,I.free,I.freeC,I.pin,I.hok,I.len⟩
theorem Inv.unwish (I:Inv (X.wish E) pins σ H s):Inv X pins σ H s:=⟨I.ok.unwish,I.os,I.bare,I.base,I.loc,I.cell,I.free,I.freeC,I.pin,I.hok,I.len⟩
theorem SP.unwish {D:Ends} {f:Flow} {s':Shared} (h:SP (X.wish E) pins D f s'):SP X pins D f s':=by
 cases f with
 | next=>obtain ⟨σ',H',I,q⟩:=h;exact ⟨σ',H',I.unwish,q⟩
 | brk=>obtain ⟨σ',H',I,q⟩:=h;exact ⟨σ',H',I.unwish,q⟩
 | cont=>obtain ⟨σ',H',I,q⟩:=h;exact ⟨σ',H',I.unwish,q⟩
 | ret u=>obtain ⟨v,σ',H',I,r,q⟩:=h;exact ⟨v,σ',H',I.unwish,r,q⟩
theorem PSs.nox {st:List Stmt} {t:TS} (h:PSs X.nox st t):PSs X st t:=fun pins s σ H D I hw=>
 wpAny_mono (h pins s σ H D (I.wish _) hw) (fun _ _ q=>q.unwish) fun _ _ z=>False.elim z
end
section
variable {X:Cx} {st:Stmt} {rest:List Stmt} {t u:TS} {e:Expr} {te:TE} {pos:Pos}
noncomputable def LB:TS:=fun D σ H=>D.nx σ H
noncomputable def tSeq (t u:TS):TS:=fun D σ H=>t {D with nx:=u D} σ H
theorem aU:PSs X [] LB:=fun _ _ σ H _ I h=>wpAny_execs_nil ⟨σ,H,I,h⟩
theorem ae (h1:PS X st t) (h2:PSs X rest u):PSs X (st::rest) (tSeq t u):=by
 intro pins s σ H D I h
 refine wpAny_execs_cons (thn (h1 pins s σ H {D with nx:=u D} I h) fun f s1 q=>?_)
 cases f with
 | next=>
   obtain ⟨σ',H',I',q⟩:=q
   exact h2 pins s1 σ' H' D I' q
 | ret v=>exact q
 | brk=>exact q
 | cont=>exact q
theorem ah (h1:PS X st t):PSs X [st] t:=by
 intro pins s σ H D I h
 refine wpAny_execs_cons (thn (h1 pins s σ H D I h) fun f s1 q=>?_)
 cases f with
 | next=>exact wpAny_execs_nil q
 | ret v=>exact q
 | brk=>exact q
 | cont=>exact q
theorem Inv.quiet {pins:List (Addr×Obj)} {σ:St} {H:Hp} {s:Shared} (I:Inv X pins σ H s):interactive X.env=false:=by simp [interactive,I.ok.kind]
noncomputable def LD (te:TE):TS:=fun D σ H=>te σ H fun _ H1=>D.nx σ H1
theorem dB (he:PE X e te) (hs:swapsWith e none pos.line X.env=pure false:=by rfl):PS X (.Expr e pos) (LD te):=by
 intro pins s σ H D I h
 exact wpAny_Expr_any (thn (he pins s σ H _ I h) fun v s1 ⟨x,H1,I1,r1,q1⟩=>⟨σ,H1,I1,q1⟩) I.quiet hs
noncomputable def tRet (te:TE):TS:=fun D σ H=>te σ H D.rt
theorem aE (he:PE X e te):PS X (.Return (some e) pos) (tRet te):=by
 intro pins s σ H D I h
 exact wpAny_Return_some (thn (he pins s σ H _ I h) fun v s1 ⟨x,H1,I1,r1,q1⟩=>⟨x,σ,H1,I1,r1,q1⟩)
noncomputable def tIfS (c:TT) (t u:TS):TS:=fun D σ H=>c σ H fun b H1=>if b=true then t D σ H1 else u D σ H1
theorem di {c:Expr} {a b:List Stmt} {tc:TT} (hc:PT X c tc) (ha:PSs X a t) (hb:PSs X b u):PS X (.If c a b pos) (tIfS tc t u):=by
 intro pins s σ H D I h
 refine wpAny_If (thn (hc pins s σ H _ I h) fun d s1 ⟨H1,I1,q1⟩=>?_)
 cases d with
 | true=>exact ha pins s1 σ H1 D I1 q1
 | false=>exact hb pins s1 σ H1 D I1 q1
end
noncomputable abbrev TG:=V→St→Hp→(St→Hp→Prop)→Prop
noncomputable abbrev TGs:=List V→St→Hp→(St→Hp→Prop)→Prop
noncomputable def PG (X:Cx) (target:Expr) (t:TG):Prop:=
 ∀ (pins:List (Addr×Obj)) (s:Shared) (σ:St) (H:Hp) (v:V) (u:Value) (Q:St→Hp→Prop),Inv X pins σ H s→RelV v u→t v σ H Q→
  wpAny (model X.prog X.w) X.A (assign target X.env u) (fun _ s'=>∃ σ' H',Inv X pins σ' H' s'∧Q σ' H') X.xe s
noncomputable def PGs (X:Cx) (ts:List Expr) (t:TGs):Prop:=
 ∀ (pins:List (Addr×Obj)) (s:Shared) (σ:St) (H:Hp) (vs:List V) (us:List Value) (Q:St→Hp→Prop),Inv X pins σ H s→Vals vs us→t vs σ H Q→
  wpAny (model X.prog X.w) X.A (assignInOrder ((assignEach ts X.env).map (·.2)) us) (fun _ s'=>∃ σ' H',Inv X pins σ' H' s'∧Q σ' H') X.xe s
section
variable {X:Cx} {pos:Pos}
noncomputable def FO (i:Nat):TG:=fun v σ H Q=>Q (σ.set i (some v)) H
theorem ak {i:Nat} {x:Str} (hN:X.N.Nodup) (hi:X.N[i]? =some x) (hx:Loc X.env.scope x) (hf:X.fn x=true∨X.env.scope.names.lookup x=some .local:=by first | exact .inl rfl | exact .inr rfl | assumption):PG X (.Name x pos) (FO i):=by
 intro pins s σ H v u Q I r h
 exact wpAny_assign_Name (AZ I hN hi hx r (fun s' I'=>⟨_,H,I',h⟩) hf)
noncomputable def gNil:TGs:=fun vs σ H Q=>vs=[]∧Q σ H
noncomputable def KY (t:TG) (u:TGs):TGs:=fun vs σ H Q=>∃ v r,vs=v::r∧t v σ H fun σ' H'=>u r σ' H' Q
theorem dS:PGs X [] gNil:=by
 intro pins s σ H vs us Q I r h
 obtain ⟨e,h⟩:=h
 subst e
 cases r
 exact assignInOrder_nil ⟨σ,H,I,h⟩
theorem aL {e:Expr} {es:List Expr} {t:TG} {u:TGs} (h1:PG X e t) (h2:PGs X es u)
  (hs:(assignEach (e::es) X.env).map (·.2)=assign e X.env::(assignEach es X.env).map (·.2):=by rfl):PGs X (e::es) (KY t u):=by
 intro pins s σ H vs us Q I r h
 obtain ⟨v,vr,e1,h⟩:=h
 subst e1
 cases r with
 | cons r rr=>
   rw [hs]
   refine assignInOrder_cons (thn (h1 pins s σ H _ _ _ I r h) fun _ s1 ⟨σ1,H1,I1,q1⟩=>?_)
   exact h2 pins s1 σ1 H1 _ _ Q I1 rr q1
noncomputable def gTup (K:PySem.W.Frag) (n:Nat) (t:TGs):TG:=fun v σ H Q=>∃ a xs,v= .ref a∧SqT K H a xs∧xs.length=n∧t xs σ H Q
theorem ku {es:List Expr} {k:Nat} {t:TGs} {n:Nat} (hc:X.calm=true) (h:PGs X es t)
  (hn:(assignEach es X.env).length=n:=by rfl) (hst:(assignEach es X.env).findIdx? (·.1)=none:=by rfl):PG X (.Tuple es k pos) (gTup X.K n t):=by
 intro pins s σ H v u Q I r hw
 obtain ⟨a,xs,e1,hq,hl,hw⟩:=hw
 subst e1
 cases r
 obtain ⟨its,rv,ht,hz⟩:=I.tuple hq
 refine assign_Tuple_tuple (I.ok.hd hc) ht (by simp [hn,← hl,rv.length]) hst fun h' hx=>?_
 have I1:Inv X pins σ H {s with heap:=h'}:=I.kept (t':=s.toks) fun b o e=>hx b o (Nat.ne_of_lt (Heap.lt_size e)) e
 exact h pins _ σ H xs _ Q I1 (by simpa using rv) hw
noncomputable def tAsg (te:TE) (g:TG):TS:=fun D σ H=>te σ H fun x H1=>g x σ H1 D.nx
theorem EO {tg e:Expr} {te:TE} {g:TG} (he:PE X e te) (hg:PG X tg g) (hs:swapsWithSole [tg] e pos.line X.env=pure false:=by rfl) (hw:swappedStores [tg] e X.env=pure none:=by rfl)
  (h1:(assignEach [tg] X.env).map (·.2)=[assign tg X.env]:=by rfl):PS X (.Assign [tg] e pos) (tAsg te g):=by
 intro pins s σ H D I h
 refine wpAny_Assign_stores (thn (he pins s σ H _ I h) fun v s1 ⟨x,H1,I1,r1,q1⟩=>?_) hs hw
 rw [h1]
 exact thn (hg pins s1 σ H1 x v _ I1 r1 q1) fun _ s2 q=>q
theorem ar {i:Nat} {x:Str} {e:Expr} {te:TE} {pos':Pos} (hN:X.N.Nodup) (hi:X.N[i]? =some x) (hx:Loc X.env.scope x) (he:PE X e te) (hs:swapsWith e (some (.Name x pos')) pos.line X.env=pure false:=by rfl) (hf:X.fn x=true∨X.env.scope.names.lookup x=some .local:=by first | exact .inl rfl | exact .inr rfl | assumption):
  PS X (.Assign [.Name x pos'] e pos) (tAsg te (FO i)):=by
 intro pins s σ H D I h
 refine wpAny_Assign_Name (thn (he pins s σ H _ I h) fun v s1 ⟨y,H1,I1,r1,q1⟩=>?_) hs
 exact AZ I1 hN hi hx r1 (fun s2 I2=>⟨_,H1,I2,q1⟩) hf
end
section
variable {X:Cx} {pos:Pos}
noncomputable def Lx (c:TT) (tb:TS):TS:=fun D σ H=>∃ W:Nat→St→Hp→Prop,(∃ m,W m σ H)∧∀ m σ H,W m σ H→
 c σ H fun b H1=>if b=true then ∃ N:St→Hp→Prop,(∀ σ' H',N σ' H'→∃ m',m' < m∧W m' σ' H')∧tb {D with nx:=N,ct:=N,bk:=D.nx} σ H1 else D.nx σ H1
theorem uK {c:Expr} {body:List Stmt} {tc:TT} {tb:TS} (hp:PassesOwn (model X.prog X.w) X.A X.env X.xe) (hc:PT X c tc) (hb:PSs X body tb):PS X (.While c body [] pos) (Lx tc tb):=by
 intro pins s σ H D I h
 obtain ⟨W,⟨m0,w0⟩,turn⟩:=h
 refine wpAny_While (codeAny_whileLoop (fun n s'=>∃ σ' H',Inv X pins σ' H' s'∧W n σ' H') ?_ m0 ⟨σ,H,I,w0⟩)
 rintro n s1 ⟨σ1,H1,I1,w1⟩
 refine wpAny_passesOwn hp (thn (hc pins s1 σ1 H1 _ I1 (turn n σ1 H1 w1)) fun b s2 ⟨H2,I2,q2⟩=>?_)
 cases b with
 | true=>
   obtain ⟨N,hN,q2⟩:=q2
   rw [if_pos rfl]
   refine wpAny_passesOwn hp (thn (hb pins s2 σ1 H2 _ I2 q2) fun f s3 q3=>?_)
   cases f with
   | next=>
     obtain ⟨σ3,H3,I3,n3⟩:=q3
     obtain ⟨m',hm,w3⟩:=hN σ3 H3 n3
     exact ⟨m',hm,σ3,H3,I3,w3⟩
   | cont=>
     obtain ⟨σ3,H3,I3,n3⟩:=q3
     obtain ⟨m',hm,w3⟩:=hN σ3 H3 n3
     exact ⟨m',hm,σ3,H3,I3,w3⟩
   | brk=>exact q3
   | ret v=>exact q3
 | false=>
   rw [if_neg Bool.false_ne_true]
   exact wpAny_execs_nil ⟨σ1,H2,I2,q2⟩
end
structure It where
 go:Nat→Hp→Prop
 yld:Nat→Hp→V→Hp→Prop
 stop:Nat→Hp→Prop
noncomputable def FpOk (X:Cx) (pins:List (Addr×Obj)) (H:Hp) (b:Addr):Prop:=
 H b=none∧b≠X.env.locals∧b∉X.fs∧(b∈X.ex∨X.s₀.heap.objs.size≤b)∧(∀ x c,X.env.cells.lookup x=some c→c≠b)∧∀ p∈X.pn++pins,p.1≠b
theorem Inv.fpOk {X:Cx} {pins:List (Addr×Obj)} {σ:St} {H H':Hp} {s:Shared} {b:Addr} (I:Inv X pins σ H s) (hb:s.heap.objs.size≤b) (hn:H' b=none):FpOk X pins H' b:=by
 refine ⟨hn,Nat.ne_of_gt (Nat.lt_of_lt_of_le I.lt hb),I.nofs hb,.inr (Nat.le_trans I.sz hb),fun x c e z=>?_,fun p hp z=>?_⟩
 ·obtain ⟨v,q⟩:=I.cell x c e
  exact absurd (Nat.lt_of_lt_of_le q.lt (by rw [z];exact hb)) (Nat.lt_irrefl _)
 ·exact absurd (Nat.lt_of_lt_of_le (Heap.lt_size (I.pin p hp).1) (by rw [z];exact hb)) (Nat.lt_irrefl _)
structure Turn (P:Program) (w:World) (K:PySem.W.Frag) (tg:Expr) (J:It) (fp:List Addr) (it:Addr) (tn:Nat→Heap→Prop):Prop where
 mem:it∈fp
 obj:∀ i h,tn i h→∀ b∈fp,∃ o,h.get? b=some o∧∀ v,o.data≠.cell v
 keep:∀ i h h',tn i h→(∀ b∈fp,∀ o,h.get? b=some o→h'.get? b=some o)→tn i h'
 item:∀ (X:Cx),X.prog=P→X.w=w→X.K=K→X.calm=true→∀ (i:Nat) (pins:List (Addr×Obj)) (s:Shared) (σ:St) (H:Hp) (E:Value→Shared→Prop),Inv X pins σ H s→(∀ b∈fp,FpOk X pins H b)→tn i s.heap→J.go i H→
  wpAny (model P w) X.A (pyNext (.ref it)) (fun r s1=>∃ u,r=some u∧
   wpAny (model P w) X.A (letOwnedTupleGo tg (.ref it) u) (fun _ s2=>∃ x H',Inv X pins σ H' s2∧RelV x u∧J.yld i H x H'∧tn (i + 1) s2.heap∧∀ b∈fp,H' b=none) E s1) E s
 done:∀ (X:Cx),X.prog=P→X.w=w→X.K=K→X.calm=true→∀ (i:Nat) (pins:List (Addr×Obj)) (s:Shared) (σ:St) (H:Hp) (E:Value→Shared→Prop),Inv X pins σ H s→(∀ b∈fp,FpOk X pins H b)→tn i s.heap→J.stop i H→
  wpAny (model P w) X.A (pyNext (.ref it)) (fun r s1=>r=none∧Inv X pins σ H s1) E s
 self:∀ (A:Around) (i:Nat) (s:Shared) (Q:Value→Shared→Prop) (E:Value→Shared→Prop),tn i s.heap→Q (.ref it) s→wpAny (model P w) A (pyIter (.ref it)) Q E s
noncomputable abbrev TI:=St→Hp→(It→Hp→Prop)→Prop
noncomputable def PIE (X:Cx) (pins:List (Addr×Obj)) (σ:St) (tg:Expr) (R:It→Hp→Prop) (itv:Value) (s2:Shared):Prop:=
 ∃ (it:Addr) (fp:List Addr) (tn:Nat→Heap→Prop) (J:It) (H':Hp),itv= .ref it∧Inv X pins σ H' s2∧Turn X.prog X.w X.K tg J fp it tn∧tn 0 s2.heap∧(∀ b∈fp,FpOk X pins H' b)∧R J H'
noncomputable def PI (X:Cx) (tg iter:Expr) (wi:TI):Prop:=
 ∀ (pins:List (Addr×Obj)) (s:Shared) (σ:St) (H:Hp) (R:It→Hp→Prop),Inv X pins σ H s→wi σ H R→
  wpAny (model X.prog X.w) X.A (eval iter X.env) (fun v s1=>wpAny (model X.prog X.w) X.A (pyIter v) (PIE X pins σ tg R) X.xe s1) X.xe s
theorem KU {M:Model} {A:Around} {E:Value→Shared→Prop} {s:Shared} {tg:Expr} {it:Addr} {u:Value} {o:Obj} {n:String} {vs:Array Value} {Q:Unit→Shared→Prop} (ho:s.heap.get? it=some o) (hc:o.cls= .type n) (hd:o.data= .fields vs)
  (hn:["enumerate","zip","dict_itemiterator","dict_reverseitemiterator","odict_iterator","itertools.zip_longest","itertools.pairwise"].contains n=false) (hQ:Q () s):wpAny M A (letOwnedTupleGo tg (.ref it) u) Q E s:=by
 unfold letOwnedTupleGo
 cases tg<;>first
  | exact wpAny_pure hQ
  | (cases u<;>first
    | exact wpAny_pure hQ
    | (refine wpAny_bind (wpAny_load ho ?_)
       rw [hc,hd]
       show wpAny M A (if (["enumerate","zip","dict_itemiterator","dict_reverseitemiterator","odict_iterator","itertools.zip_longest","itertools.pairwise"].contains n&&vs[0]? == some (rawInt _))=true then _ else _) Q E s
       rw [if_neg (by intro h;rw [hn,Bool.false_and] at h;cases h)]
       exact wpAny_pure hQ))
noncomputable def Itl (K:PySem.W.Frag) (a:Addr):It:=
 ⟨fun i H=>∃ xs x,SqL K H a xs∧xs[i]? =some x,fun i H x H'=>H'=H∧∀ xs,SqL K H a xs→xs[i]? =some x,fun i H=>∃ xs,SqL K H a xs∧xs.length≤i⟩
noncomputable def Itt (K:PySem.W.Frag) (a:Addr):It:=
 ⟨fun i H=>∃ xs x,SqT K H a xs∧xs[i]? =some x,fun i H x H'=>H'=H∧∀ xs,SqT K H a xs→xs[i]? =some x,fun i H=>∃ xs,SqT K H a xs∧xs.length≤i⟩
noncomputable def Itr (lo:Int) (n:Nat):It:=⟨fun i _=>i < n,fun i H x H'=>H'=H∧x= .int (lo + i),fun i _=>n≤i⟩
theorem Ei {P:Program} {w:World} {K:PySem.W.Frag} {tg:Expr} (a it:Addr):Turn P w K tg (Itl K a) [it] it (fun i h=>h.IsListIter it a i) where
 mem:=by simp
 obj:=fun i h st b hb=>by
  have e:b=it:=by simpa using hb
  subst e
  obtain ⟨o,e,c,d⟩:=st
  exact ⟨o,e,fun v z=>by rw [d] at z;cases z⟩
 keep:=fun i h h' st k=>st.at fun o e=>k it (by simp) o e
 item:=by
  intro X hP hw hK hc i pins s σ H E I hf st hg
  subst hP hw hK
  obtain ⟨xs,x,hq,hx⟩:=hg
  obtain ⟨its,rv,p,hz⟩:=I.list hq
  obtain ⟨u,hu,ru⟩:=rv.get hx
  obtain ⟨f0,f1,f2,f3,f4,f5⟩:=hf it (by simp)
  refine wpAny_pyNext_list_item st p.isList (x:=u) (by simpa using hu) fun h' st' sb=>?_
  have I1:Inv X pins σ H {s with heap:=h'}:=I.turned (t':=s.toks) (fun b o hb e=>(sb.2 b hb).trans e) f0 f1 f3 f4 f5
  obtain ⟨o,e,c,d⟩:=id st'
  exact ⟨u,rfl,KU (s:={s with heap:=h'}) e c d (by decide) ⟨x,H,I1,ru,⟨rfl,fun ys hy=>by rw [I.list_inj hy hq];exact hx⟩,st',fun b hb=>(hf b hb).1⟩⟩
 done:=by
  intro X hP hw hK hc i pins s σ H E I hf st hg
  subst hP hw hK
  obtain ⟨xs,hq,hx⟩:=hg
  obtain ⟨its,rv,p,hz⟩:=I.list hq
  obtain ⟨f0,f1,f2,f3,f4,f5⟩:=hf it (by simp)
  have hl:=rv.length
  exact wpAny_pyNext_list_end (I.ok.hd hc) st p.isList (by simp;omega) fun h' eb=>⟨rfl,I.turned (t':=s.toks) (fun b o hb e=>eb b o hb e) f0 f1 f3 f4 f5⟩
 self:=fun _ _ _ _ _ st h=>wpAny_pyIter_listiter st h
theorem BF {P:Program} {w:World} {K:PySem.W.Frag} {tg:Expr} (a it:Addr):Turn P w K tg (Itt K a) [it] it (fun i h=>h.IsTupleIter it a i) where
 mem:=by simp
 obj:=fun i h st b hb=>by
  have e:b=it:=by simpa using hb
  subst e
  obtain ⟨o,e,c,d⟩:=st
  exact ⟨o,e,fun v z=>by rw [d] at z;cases z⟩
 keep:=fun i h h' st k=>st.at fun o e=>k it (by simp) o e
 item:=by
  intro X hP hw hK hc i pins s σ H E I hf st hg
  subst hP hw hK
  obtain ⟨xs,x,hq,hx⟩:=hg
  obtain ⟨its,rv,p,hz⟩:=I.tuple hq
  obtain ⟨u,hu,ru⟩:=rv.get hx
  obtain ⟨f0,f1,f2,f3,f4,f5⟩:=hf it (by simp)
  refine wpAny_pyNext_tuple_item st (show s.heap.IsTuple a its.toArray from p) (x:=u) (by simpa using hu) fun h' st' sb=>?_
  have I1:Inv X pins σ H {s with heap:=h'}:=I.turned (t':=s.toks) (fun b o hb e=>(sb.2 b hb).trans e) f0 f1 f3 f4 f5
  obtain ⟨o,e,c,d⟩:=id st'
  exact ⟨u,rfl,KU (s:={s with heap:=h'}) e c d (by decide) ⟨x,H,I1,ru,⟨rfl,fun ys hy=>by rw [I.tuple_inj hy hq];exact hx⟩,st',fun b hb=>(hf b hb).1⟩⟩
 done:=by
  intro X hP hw hK hc i pins s σ H E I hf st hg
  subst hP hw hK
  obtain ⟨xs,hq,hx⟩:=hg
  obtain ⟨its,rv,p,hz⟩:=I.tuple hq
  obtain ⟨f0,f1,f2,f3,f4,f5⟩:=hf it (by simp)
  have hl:=rv.length
  exact wpAny_pyNext_tuple_end (I.ok.hd hc) st (show s.heap.IsTuple a its.toArray from p) (by simp;omega) fun h' eb=>⟨rfl,I.turned (t':=s.toks) (fun b o hb e=>eb b o hb e) f0 f1 f3 f4 f5⟩
 self:=fun _ _ _ _ _ st h=>wpAny_pyIter_tupleiter st h
theorem BG {P:Program} {w:World} {K:PySem.W.Frag} {tg:Expr} (it:Addr) (lo:Int) (n:Nat):Turn P w K tg (Itr lo n) [it] it (fun i h=>IsRangeIter h it (lo + (i:Nat) * 1) ((n:Int) - (i:Nat)) 1) where
 mem:=by simp
 obj:=fun i h st b hb=>by
  have e:b=it:=by simpa using hb
  subst e
  exact ⟨_,st,fun v z=>by
   have z':Data.fields _=Data.cell v:=z
   cases z'⟩
 keep:=fun i h h' st k=>k it (by simp) _ st
 item:=by
  intro X hP hw hK hc i pins s σ H E I hf st hg
  subst hP hw hK
  obtain ⟨f0,f1,f2,f3,f4,f5⟩:=hf it (by simp)
  have W:=Walks.range (prog:=X.prog) (w:=X.w) (I.ok.hd hc) it lo 1 n
  refine W.item i s _ _ hg st fun v h' tk hv st' kk=>?_
  obtain ⟨t,rfl⟩:=hv
  have I1:Inv X pins σ H {s with heap:=h',toks:=tk}:=I.turned (fun b o hb e=>kk b o (by simpa using hb) e) f0 f1 f3 f4 f5
  refine ⟨_,rfl,KU (s:={s with heap:=h',toks:=tk}) (n:="range_iterator") st' rfl rfl (by decide) ⟨.int (lo + i),H,I1,⟨t,?_⟩,⟨rfl,rfl⟩,st',fun b hb=>(hf b hb).1⟩⟩
  rw [Int.mul_one]
 done:=by
  intro X hP hw hK hc i pins s σ H E I hf st hg
  subst hP hw hK
  obtain ⟨f0,f1,f2,f3,f4,f5⟩:=hf it (by simp)
  exact wpAny_pyNext_range_end (I.ok.hd hc) st (by have:n≤i:=hg;omega) fun h' eb=>⟨rfl,I.turned (t':=s.toks) (fun b o hb e=>eb b o hb e) f0 f1 f3 f4 f5⟩
 self:=fun _ _ _ _ _ st h=>wpAny_pyIter_rangeiter st h
section
variable {X:Cx} {tg:Expr}
noncomputable def KR (K:PySem.W.Frag) (tl:TE):TI:=fun σ H R=>tl σ H fun x H1=>∃ a,x= .ref a∧(∃ xs,SqL K H1 a xs)∧R (Itl K a) H1
noncomputable def iTup (K:PySem.W.Frag) (tl:TE):TI:=fun σ H R=>tl σ H fun x H1=>∃ a,x= .ref a∧(∃ xs,SqT K H1 a xs)∧R (Itt K a) H1
theorem Kx {l:Expr} {tl:TE} (hl:PE X l tl):PI X tg l (KR X.K tl):=by
 intro pins s σ H R I h
 refine thn (hl pins s σ H _ I h) fun v s1 ⟨x,H1,I1,r1,q1⟩=>?_
 obtain ⟨a,e,⟨xs,hq⟩,q⟩:=q1
 subst e
 cases r1
 obtain ⟨its,rv,p,hz⟩:=I1.list hq
 refine wpAny_pyIter_list p.isList ?_
 refine ⟨s1.heap.objs.size,[s1.heap.objs.size],_,_,H1,rfl,I1.kept (t':=s1.toks) fun b o e=>Heap.get?_push_of_some _ e,Ei a _,⟨_,Heap.get?_push_size _ rfl,rfl,rfl⟩,fun b hb=>?_,q⟩
 have e:b=s1.heap.objs.size:=by simpa using hb
 subst e
 exact I1.fpOk (Nat.le_refl _) (I1.hok.fresh (Nat.le_refl _))
theorem Mx {l:Expr} {tl:TE} (hl:PE X l tl):PI X tg l (iTup X.K tl):=by
 intro pins s σ H R I h
 refine thn (hl pins s σ H _ I h) fun v s1 ⟨x,H1,I1,r1,q1⟩=>?_
 obtain ⟨a,e,⟨xs,hq⟩,q⟩:=q1
 subst e
 cases r1
 obtain ⟨its,rv,p,hz⟩:=I1.tuple hq
 refine wpAny_pyIter_tuple (show s1.heap.IsTuple a its.toArray from p) ?_
 refine ⟨s1.heap.objs.size,[s1.heap.objs.size],_,_,H1,rfl,I1.kept (t':=s1.toks) fun b o e=>Heap.get?_push_of_some _ e,BF a _,⟨_,Heap.get?_push_size _ rfl,rfl,rfl⟩,fun b hb=>?_,q⟩
 have e:b=s1.heap.objs.size:=by simpa using hb
 subst e
 exact I1.fpOk (Nat.le_refl _) (I1.hok.fresh (Nat.le_refl _))
theorem Hi {pins:List (Addr×Obj)} {σ:St} {H:Hp} {s:Shared} {R:It→Hp→Prop} {E:Value→Shared→Prop} {lo hi:Int} {t u v:Tok} {tk:Nat} (I:Inv X pins σ H s) (h1: -(2 ^ 62)≤lo) (h2:lo < 2 ^ 62) (h3: -(2 ^ 62)≤hi) (h4:hi < 2 ^ 62)
  (q:R (Itr lo (hi - lo).toNat) H):wpAny (model X.prog X.w) X.A (pyIter (.ref s.heap.objs.size)) (PIE X pins σ tg R) E {s with heap:=s.heap.push {cls:= .type "range",data:= .fields #[.int lo t,.int hi u,.int 1 v]},toks:=tk}:=by
 refine wpAny_pyIter_range (IsRange.new ..) (small_one h1 h2 h3 h4) ?_
 have I1:Inv X pins σ H {s with heap:=s.heap.push {cls:= .type "range",data:= .fields #[.int lo t,.int hi u,.int 1 v]},toks:=tk}:=I.kept fun b o e=>Heap.get?_push_of_some _ e
 refine ⟨(s.heap.push {cls:= .type "range",data:= .fields #[.int lo t,.int hi u,.int 1 v]}).objs.size,[(s.heap.push {cls:= .type "range",data:= .fields #[.int lo t,.int hi u,.int 1 v]}).objs.size],_,_,H,rfl,
  I1.kept (t':=tk) fun b o e=>Heap.get?_push_of_some _ e,BG _ lo (hi - lo).toNat,?_,fun b hb=>?_,q⟩
 ·have e1:lo + ((0:Nat):Int) * 1=lo:=by simp
  have e2:(((hi - lo).toNat:Nat):Int) - ((0:Nat):Int)=Builtin.Range.rangeSize lo hi 1:=by rw [rangeSize_one];split<;>omega
  show IsRangeIter _ _ (lo + ((0:Nat):Int) * 1) ((((hi - lo).toNat:Nat):Int) - ((0:Nat):Int)) 1
  rw [e1,e2]
  exact Heap.get?_push_size _ rfl
 ·have e:b=(s.heap.push {cls:= .type "range",data:= .fields #[.int lo t,.int hi u,.int 1 v]}).objs.size:=by simpa using hb
  subst e
  exact I1.fpOk (Nat.le_refl _) (I1.hok.fresh (Nat.le_refl _))
noncomputable def MV (ta:TA):TI:=fun σ H R=>ta σ H fun vs H1=>∃ j:Int,vs=[.int j]∧-(2 ^ 62)≤j∧j < 2 ^ 62∧R (Itr 0 j.toNat) H1
theorem dR {a:Expr} {ta:TA} {p pos:Pos} (hg:Gl X "range") (hm:X.mg "range"=none) (ha:PA X [a] ta) (hs:starEach [a] X.env=[(false,eval a X.env)]:=by rfl):PI X tg (.Call (.Name "range" p) [a] [] pos) (MV ta):=by
 intro pins s σ H R I h
 refine Call_ (oy I hg hm boot_range (PyProof.Rows.callWith_type1 (thn (ha pos pins s σ H _ I h) fun us s1 ⟨vs,H1,I1,r1,q1⟩=>?_) hs rfl))
 obtain ⟨j,e,q1,q2,q⟩:=q1
 subst e
 cases r1 with
 | cons r rr=>
   cases rr
   obtain ⟨t,rfl⟩:=r
   exact call_range_1 (Hi I1 (by omega) (by omega) q1 q2 (by simpa using q))
noncomputable def tFor (wi:TI) (g:TG) (tb:TS):TS:=fun D σ H=>wi σ H fun J H1=>∃ W:Nat→Nat→St→Hp→Prop,(∃ m,W 0 m σ H1)∧∀ i m σ H,W i m σ H→
 (J.stop i H∧D.nx σ H)∨(J.go i H∧∃ N:St→Hp→Prop,(∀ σ' H',N σ' H'→∃ m',m' < m∧W (i + 1) m' σ' H')∧∀ x H',J.yld i H x H'→g x σ H' fun σ2 H2=>tb {D with nx:=N,ct:=N,bk:=D.nx} σ2 H2)
noncomputable def wU (fp:List Addr) (h:Heap):List (Addr×Obj):=fp.filterMap fun b=>(h.get? b).map fun o=>(b,o)
theorem j4 {fp:List Addr} {h:Heap} {b:Addr} {o:Obj} (hb:b∈fp) (e:h.get? b=some o):(b,o)∈wU fp h:=List.mem_filterMap.mpr ⟨b,hb,by rw [e];rfl⟩
theorem E5 {fp:List Addr} {h:Heap} {p:Addr×Obj} (hp:p∈wU fp h):p.1∈fp∧h.get? p.1=some p.2:=by
 obtain ⟨b,hb,e⟩:=List.mem_filterMap.mp hp
 cases q:h.get? b with
 | none=>rw [q] at e;cases e
 | some o=>
   rw [q] at e
   have e':(b,o)=p:=Option.some.inj e
   subst e'
   exact ⟨hb,q⟩
theorem Inv.pinned {pins:List (Addr×Obj)} {σ:St} {H:Hp} {s:Shared} {fp:List Addr} (I:Inv X pins σ H s) (hf:∀ b∈fp,FpOk X pins H b) (ho:∀ b∈fp,∃ o,s.heap.get? b=some o∧∀ v,o.data≠.cell v):Inv X (pins++wU fp s.heap) σ H s:=
 I.pins_of fun p hp=>(List.mem_append.mp hp).elim (fun z=>I.pin p (List.mem_append_right _ z)) fun z=>by
  obtain ⟨hb,e⟩:=E5 z
  obtain ⟨f0,f1,f2,_⟩:=hf p.1 hb
  obtain ⟨o,e',d⟩:=ho p.1 hb
  rw [e] at e';cases e'
  exact ⟨e,f0,f1,f2,d⟩
theorem Inv.unpinned {pins pl:List (Addr×Obj)} {σ:St} {H:Hp} {s:Shared} (I:Inv X (pins++pl) σ H s):Inv X pins σ H s:=I.pins_of fun p hp=>I.pin p (List.mem_append_right _ (List.mem_append_left _ hp))
theorem eh {iter:Expr} {body:List Stmt} {wi:TI} {g:TG} {tb:TS} {pos:Pos} (hp:PassesOwn (model X.prog X.w) X.A X.env X.xe) (hc:X.calm=true) (hi:PI X tg iter wi) (hg:PG X tg g) (hb:PSs X body tb)
  (hs:∀ x,foldedSetIterable iter X.env x=pure x:=by intro _;rfl):PS X (.For tg iter body [] pos) (tFor wi g tb):=by
 intro pins s σ H D I h
 refine wpAny_For (thn (hi pins s σ H _ I h) fun v s1 h1=>thn h1 fun itv s2 h2=>?_) hs
 obtain ⟨it,fp,tn,J,H2,e,I2,T,st2,f2,W,⟨m0,w0⟩,turn⟩:=h2
 subst e
 have stat:∀ {H':Hp},(∀ b∈fp,H' b=none)→∀ b∈fp,FpOk X pins H' b:=fun hn b hb=>⟨hn b hb,(f2 b hb).2⟩
 refine codeAny_forLoop_any (fun n s'=>∃ i σ' H',Inv X pins σ' H' s'∧tn i s'.heap∧(∀ b∈fp,H' b=none)∧W i n σ' H') ?_ m0 ⟨0,σ,H2,I2,st2,fun b hb=>(f2 b hb).1,w0⟩
 rintro n s3 ⟨i,σ3,H3,I3,st3,fr3,w3⟩
 rcases turn i n σ3 H3 w3 with ⟨stop,qn⟩ | ⟨go,N,hN,step⟩
 ·refine wpAny_passesOwn hp (thn (T.done X rfl rfl rfl hc i pins s3 σ3 H3 X.xe I3 (stat fr3) st3 stop) fun r s4 ⟨hr,I4⟩=>?_)
  subst hr
  exact wpAny_execs_nil ⟨σ3,H3,I4,qn⟩
 ·refine wpAny_passesOwn hp (thn (T.item X rfl rfl rfl hc i pins s3 σ3 H3 X.xe I3 (stat fr3) st3 go) fun r s4 ⟨u,hr,h4⟩=>?_)
  subst hr
  refine wpAny_passesOwn hp (thn h4 fun _ s5 ⟨x,H5,I5,r5,y5,st5,fr5⟩=>?_)
  have I5':=I5.pinned (stat fr5) (T.obj _ _ st5)
  refine wpAny_passesOwn hp (thn (hg _ s5 σ3 H5 x u _ I5' r5 (step x H5 y5)) fun _ s6 ⟨σ6,H6,I6,q6⟩=>?_)
  refine wpAny_passesOwn hp (thn (hb _ s6 σ6 H6 _ I6 q6) fun f s7 q7=>?_)
  have again:∀ {σ7:St} {H7:Hp},Inv X (pins++wU fp s5.heap) σ7 H7 s7→N σ7 H7→∃ m,m < n∧∃ i σ' H',Inv X pins σ' H' s7∧tn i s7.heap∧(∀ b∈fp,H' b=none)∧W i m σ' H':=fun {σ7 H7} I7 n7=>by
   obtain ⟨m',hm,w7⟩:=hN σ7 H7 n7
   refine ⟨m',hm,i + 1,σ7,H7,I7.unpinned,T.keep _ _ _ st5 fun b hb o e=>(I7.pin (b,o) (List.mem_append_right _ (List.mem_append_right _ (j4 hb e)))).1,fun b hb=>?_,w7⟩
   obtain ⟨o,e,d⟩:=T.obj _ _ st5 b hb
   exact (I7.pin (b,o) (List.mem_append_right _ (List.mem_append_right _ (j4 hb e)))).2.1
  cases f with
  | next=>obtain ⟨σ7,H7,I7,n7⟩:=q7;exact again I7 n7
  | cont=>obtain ⟨σ7,H7,I7,n7⟩:=q7;exact again I7 n7
  | brk=>obtain ⟨σ7,H7,I7,q7⟩:=q7;exact ⟨σ7,H7,I7.unpinned,q7⟩
  | ret v=>obtain ⟨x7,σ7,H7,I7,r7,q7⟩:=q7;exact ⟨x7,σ7,H7,I7.unpinned,r7,q7⟩
end
theorem gP {K:PySem.W.Frag} {a:Addr} {xs:List V} {g:TG} {tb:TS} {D:Ends} {σ:St} {H:Hp} (Pv:Nat→St→Hp→Prop) (h0:Pv 0 σ H) (hl:∀ i σ H,i≤xs.length→Pv i σ H→SqL K H a xs)
  (hs:∀ i x σ H,xs[i]? =some x→Pv i σ H→g x σ H fun σ2 H2=>tb {D with nx:=Pv (i + 1),ct:=Pv (i + 1),bk:=D.nx} σ2 H2) (hd:∀ σ H,Pv xs.length σ H→D.nx σ H):
  ∃ W:Nat→Nat→St→Hp→Prop,(∃ m,W 0 m σ H)∧∀ i m σ H,W i m σ H→
    ((Itl K a).stop i H∧D.nx σ H)∨((Itl K a).go i H∧∃ N:St→Hp→Prop,(∀ σ' H',N σ' H'→∃ m',m' < m∧W (i + 1) m' σ' H')∧∀ x H',(Itl K a).yld i H x H'→g x σ H' fun σ2 H2=>tb {D with nx:=N,ct:=N,bk:=D.nx} σ2 H2):=by
 refine ⟨fun i m σ H=>m=xs.length - i∧i≤xs.length∧Pv i σ H,⟨xs.length,by simp,Nat.zero_le _,h0⟩,?_⟩
 rintro i m σ H ⟨rfl,hi,p⟩
 have q:=hl i σ H hi p
 by_cases hlt:i < xs.length
 ·refine .inr ⟨⟨xs,xs[i],q,by simp [hlt]⟩,Pv (i + 1),fun σ' H' p'=>⟨xs.length - (i + 1),by omega,rfl,hlt,p'⟩,fun x H' y=>?_⟩
  obtain ⟨e,y⟩:=y
  subst e
  exact hs i x σ _ (y xs q) p
 ·have e:i=xs.length:=by omega
  subst e
  exact .inl ⟨⟨xs,q,Nat.le_refl _⟩,hd σ H p⟩
theorem iA {lo:Int} {n:Nat} {g:TG} {tb:TS} {D:Ends} {σ:St} {H:Hp} (Pv:Nat→St→Hp→Prop) (h0:Pv 0 σ H)
  (hs:∀ i σ H,i < n→Pv i σ H→g (.int (lo + i)) σ H fun σ2 H2=>tb {D with nx:=Pv (i + 1),ct:=Pv (i + 1),bk:=D.nx} σ2 H2) (hd:∀ σ H,Pv n σ H→D.nx σ H):
  ∃ W:Nat→Nat→St→Hp→Prop,(∃ m,W 0 m σ H)∧∀ i m σ H,W i m σ H→
    ((Itr lo n).stop i H∧D.nx σ H)∨((Itr lo n).go i H∧∃ N:St→Hp→Prop,(∀ σ' H',N σ' H'→∃ m',m' < m∧W (i + 1) m' σ' H')∧∀ x H',(Itr lo n).yld i H x H'→g x σ H' fun σ2 H2=>tb {D with nx:=N,ct:=N,bk:=D.nx} σ2 H2):=by
 refine ⟨fun i m σ H=>m=n - i∧i≤n∧Pv i σ H,⟨n,by simp,Nat.zero_le _,h0⟩,?_⟩
 rintro i m σ H ⟨rfl,hi,p⟩
 by_cases hlt:i < n
 ·refine .inr ⟨hlt,Pv (i + 1),fun σ' H' p'=>⟨n - (i + 1),by omega,rfl,hlt,p'⟩,fun x H' y=>?_⟩
  obtain ⟨e,y⟩:=y
  subst e y
  exact hs i σ _ hlt p
 ·have e:i=n:=by omega
  subst e
  exact .inl ⟨Nat.le_refl _,hd σ H p⟩
noncomputable abbrev R2:=V→V→Hp→VK→Prop
noncomputable def OpR (X:Cx) (f:Value→Value→Sem Value) (r:R2):Prop:=
 ∀ (pins:List (Addr×Obj)) (s:Shared) (σ:St) (H:Hp) (x y:V) (v u:Value) (Q:VK),Inv X pins σ H s→RelV x v→RelV y u→r x y H Q→
  wpAny (model X.prog X.w) X.A (f v u) (EP X pins σ Q) X.xe s
noncomputable def jU (X:Cx) (f:Value) (r:List V→Hp→VK→Prop):Prop:=
 ∀ (pins:List (Addr×Obj)) (s:Shared) (σ:St) (H:Hp) (xs:List V) (us:List Value) (Q:VK),Inv X pins σ H s→Vals xs us→r xs H Q→
  wpAny (model X.prog X.w) X.A (call f us) (EP X pins σ Q) X.xe s
noncomputable def tOp (r:R2) (ta tb:TE):TE:=fun σ H Q=>ta σ H fun x H1=>tb σ H1 fun y H2=>r x y H2 Q
noncomputable def rI (C:Int→Int→Prop) (g:Int→Int→V):R2:=fun x y H Q=>∃ i j,x= .int i∧y= .int j∧C i j∧Q (g i j) H
noncomputable def rI0 (g:Int→Int→V):R2:=fun x y H Q=>∃ i j,x= .int i∧y= .int j∧Q (g i j) H
section
variable {X:Cx} {a b c:Expr} {ta tb tc:TE} {pos:Pos}
theorem binT (ha:PE X a ta) (hb:PE X b tb) {pins:List (Addr×Obj)} {s:Shared} {σ:St} {H:Hp} {R:V→V→Hp→Prop} (I:Inv X pins σ H s)
  (h:ta σ H fun x H1=>tb σ H1 fun y H2=>R x y H2) {Q:Value→Shared→Prop} {f:Value→Value→Sem Value}
  (hf:∀ v u s2 x y H2,Inv X pins σ H2 s2→RelV x v→RelV y u→R x y H2→wpAny (model X.prog X.w) X.A (f v u) Q X.xe s2):
  wpAny (model X.prog X.w) X.A (eval a X.env) (fun v s₁=>wpAny (model X.prog X.w) X.A (eval b X.env) (fun u s₂=>wpAny (model X.prog X.w) X.A (f v u) Q X.xe s₂) X.xe s₁) X.xe s:=by
 refine thn (ha pins s σ H _ I h) fun v s1 ⟨x,H1,I1,r1,q1⟩=>?_
 refine thn (hb pins s1 σ H1 _ I1 q1) fun u s2 ⟨y,H2,I2,r2,q2⟩=>?_
 exact hf v u s2 x y H2 I2 r1 r2 q2
theorem am {op:Operator} {r:R2} (ho:OpR X (binaryOp op) r) (ha:PE X a ta) (hb:PE X b tb):PE X (.BinOp a op b pos) (tOp r ta tb):=by
 intro pins s σ H Q I h
 exact wpAny_BinOp (binT ha hb I h fun v u s2 x y H2 I2 rx ry q=>ho pins s2 σ H2 x y v u Q I2 rx ry q)
theorem opI {f:Value→Value→Sem Value} {C:Int→Int→Prop} {g:Int→Int→Int}
  (rule:∀ (i j:Int) (t u:Tok) (s:Shared) (Q:Value→Shared→Prop) (E:Value→Shared→Prop),C i j→Q (.int (g i j) s.toks) {s with toks:=s.toks + 1}→wpAny (model X.prog X.w) X.A (f (.int i t) (.int j u)) Q E s):
  OpR X f (rI C fun i j=> .int (g i j)):=by
 intro pins s σ H x y v u Q I rx ry h
 obtain ⟨i,j,rfl,rfl,hc,q⟩:=h
 obtain ⟨t,rfl⟩:=rx
 obtain ⟨t',rfl⟩:=ry
 exact rule i j t t' s _ _ hc ⟨.int (g i j),H,I.tok _,⟨_,rfl⟩,q⟩
theorem opI0 {f:Value→Value→Sem Value} {g:Int→Int→Int}
  (rule:∀ (i j:Int) (t u:Tok) (s:Shared) (Q:Value→Shared→Prop) (E:Value→Shared→Prop),Q (.int (g i j) s.toks) {s with toks:=s.toks + 1}→wpAny (model X.prog X.w) X.A (f (.int i t) (.int j u)) Q E s):
  OpR X f (rI0 fun i j=> .int (g i j)):=by
 intro pins s σ H x y v u Q I rx ry h
 obtain ⟨i,j,rfl,rfl,q⟩:=h
 obtain ⟨t,rfl⟩:=rx
 obtain ⟨t',rfl⟩:=ry
 exact rule i j t t' s _ _ ⟨.int (g i j),H,I.tok _,⟨_,rfl⟩,q⟩
theorem opB0 {f:Value→Value→Sem Value} {g:Int→Int→Bool}
  (rule:∀ (i j:Int) (t u:Tok) (s:Shared) (Q:Value→Shared→Prop) (E:Value→Shared→Prop),Q (.bool (g i j)) s→wpAny (model X.prog X.w) X.A (f (.int i t) (.int j u)) Q E s):
  OpR X f (rI0 fun i j=> .bl (g i j)):=by
 intro pins s σ H x y v u Q I rx ry h
 obtain ⟨i,j,rfl,rfl,q⟩:=h
 obtain ⟨t,rfl⟩:=rx
 obtain ⟨t',rfl⟩:=ry
 exact rule i j t t' s _ _ ⟨.bl (g i j),H,I,rfl,q⟩
noncomputable def CDiv (i j:Int):Prop:=0 < j∧j < 1073741824
noncomputable def N9 (i j:Int):Prop:=j≠0∧j.natAbs < 1073741824
noncomputable def CPow (i j:Int):Prop:=0≤j∧j≤1000000∧i.natAbs < 2 ^ 64
noncomputable def CMul (i j:Int):Prop:=(-(2 ^ 64) < i∧i < 2 ^ 64)∨(-(2 ^ 64) < j∧j < 2 ^ 64)
theorem CMul.ok {i j:Int} (h:CMul i j):IntMulOk i j:=by
 rcases h with ⟨h1,h2⟩ | ⟨h1,h2⟩
 ·exact .of_left (intBits_le_64 h1 h2)
 ·exact .of_right (intBits_le_64 h1 h2)
theorem BE (k:Nat):(0:Int)≤2 ^ k:=by
 rw [two_pow_cast]
 exact Int.natCast_nonneg _
theorem cq:OpR X (binaryOp .Add) (rI0 fun i j=> .int (i + j)):=opI0 fun _ _ _ _ _ _ _ q=>add_int q
theorem ou:OpR X (binaryOp .Sub) (rI0 fun i j=> .int (i - j)):=opI0 fun _ _ _ _ _ _ _ q=>sub_int q
theorem ox:OpR X (binaryOp .Mult) (rI CMul fun i j=> .int (i * j)):=opI fun _ _ _ _ _ _ _ hc q=>mul_int q hc.ok
theorem kR:OpR X (binaryOp .FloorDiv) (rI CDiv fun i j=> .int (i / j)):=opI fun i j _ _ _ _ _ hc q=>by
 have h1:(0:Int) < j:=hc.1
 have h2:j < 1073741824:=hc.2
 exact floordiv_int (by omega) (by rw [Int.fdiv_eq_ediv_of_nonneg i (by omega)];exact q) (.inl (PyProof.noPylong_small (by omega)))
theorem dJ:OpR X (binaryOp .Mod) (rI (fun _ j=>0 < j) fun i j=> .int (i % j)):=opI fun i j _ _ _ _ _ hc q=>by
 have h1:(0:Int) < j:=hc
 exact mod_int' (by omega) (by rw [Int.fmod_eq_emod_of_nonneg i (by omega)];exact q)
theorem fz:OpR X (binaryOp .LShift) (rI CPow fun i j=> .int (i * 2 ^ j.toNat)):=opI fun _ _ _ _ _ _ _ hc q=>lshift_int_small hc.1 hc.2.1 hc.2.2 q
theorem xa:OpR X (binaryOp .RShift) (rI (fun _ j=>0≤j) fun i j=> .int (i / 2 ^ j.toNat)):=opI fun i j _ _ _ _ _ hc q=>
 rshift_int hc (by rw [Int.fdiv_eq_ediv_of_nonneg i (BE _)];exact q)
theorem dU:OpR X (binaryOp .BitAnd) (rI0 fun i j=> .int (Builtin.bitAnd i j)):=opI0 fun _ _ _ _ _ _ _ q=>and_int q
theorem kB:OpR X (binaryOp .BitXor) (rI0 fun i j=> .int (Builtin.bitXor i j)):=opI0 fun _ _ _ _ _ _ _ q=>xor_int q
end
noncomputable def scal:V→V→Bool
 | .non,.non=>true | .non,.int _=>true | .int _,.non=>true | .non,.bl _=>true | .bl _,.non=>true | .non,.str _=>true | .str _,.non=>true
 | .int _,.int _=>true | .bl _,.bl _=>true | .str _,.str _=>true | .byt _,.byt _=>true
 | .int _,.str _=>true | .str _,.int _=>true | .bl _,.str _=>true | .str _,.bl _=>true
 | _,_=>false
noncomputable def rEq:R2:=fun x y H Q=>scal x y=true∧Q (.bl (decide (x=y))) H
noncomputable def rNe:R2:=fun x y H Q=>scal x y=true∧Q (.bl (!decide (x=y))) H
theorem FX {i j:Int}:decide (V.int i=V.int j)=(i == j):=by
 rw [Bool.eq_iff_iff]
 simp
theorem Ju {i j:Bool}:decide (V.bl i=V.bl j)=(i == j):=by
 rw [Bool.eq_iff_iff]
 simp
theorem FW {i j:Str}:decide (V.str i=V.str j)=(i == j):=by
 rw [Bool.eq_iff_iff]
 simp
theorem FY {i j:Array UInt8}:decide (V.byt i=V.byt j)=(i.toList == j.toList):=by
 rw [Bool.eq_iff_iff]
 cases i
 cases j
 simp
section
variable {X:Cx} {a b c:Expr} {ta tb tc:TE} {pos:Pos}
theorem bK {pins:List (Addr×Obj)} {σ:St} {H:Hp} {s:Shared} {Q:VK} {k k':Bool} (I:Inv X pins σ H s) (q:Q (.bl k) H) (e:k=k'):EP X pins σ Q (.bool k') s:=by
 subst e
 exact ⟨.bl k,H,I,rfl,q⟩
theorem oP:OpR X (compareOp .Eq) rEq:=by
 intro pins s σ H x y v u Q I rx ry h
 obtain ⟨hs,q⟩:=h
 cases x with
 | non=>
   cases rx
   cases y with
   | non=>cases ry;exact PySem.EqNone.eq_none_none (bK I q (by simp))
   | bl j=>cases ry;exact PySem.EqNone.eq_none_bool (bK I q (by simp))
   | int j=>obtain ⟨t',rfl⟩:=ry;exact PySem.EqNone.eq_none_int (bK I q (by simp))
   | str j=>obtain ⟨t',rfl⟩:=ry;exact PySem.EqNone.eq_none_str (bK I q (by simp))
   | _=>exact absurd (show false=true from hs) Bool.false_ne_true
 | bl i=>
   cases rx
   cases y with
   | non=>cases ry;exact PySem.EqNone.eq_bool_none (bK I q (by simp))
   | bl j=>cases ry;exact eq_bool (bK I q Ju)
   | str j=>obtain ⟨t',rfl⟩:=ry;exact PySem.EqMixed.eq_bool_str (bK I q (by simp))
   | _=>exact absurd (show false=true from hs) Bool.false_ne_true
 | int i=>
   obtain ⟨t,rfl⟩:=rx
   cases y with
   | non=>cases ry;exact PySem.EqNone.eq_int_none (bK I q (by simp))
   | int j=>obtain ⟨t',rfl⟩:=ry;exact eq_int (bK I q FX)
   | str j=>obtain ⟨t',rfl⟩:=ry;exact PySem.EqMixed.eq_int_str (bK I q (by simp))
   | _=>exact absurd (show false=true from hs) Bool.false_ne_true
 | str i=>
   obtain ⟨t,rfl⟩:=rx
   cases y with
   | non=>cases ry;exact PySem.EqNone.eq_str_none (bK I q (by simp))
   | bl j=>cases ry;exact PySem.EqMixed.eq_str_bool (bK I q (by simp))
   | int j=>obtain ⟨t',rfl⟩:=ry;exact PySem.EqMixed.eq_str_int (bK I q (by simp))
   | str j=>obtain ⟨t',rfl⟩:=ry;exact eq_str (bK I q FW)
   | _=>exact absurd (show false=true from hs) Bool.false_ne_true
 | byt i=>
   obtain ⟨t,rfl⟩:=rx
   cases y with
   | byt j=>obtain ⟨t',rfl⟩:=ry;exact PySem.W.eq_bytes (bK I q FY)
   | _=>exact absurd (show false=true from hs) Bool.false_ne_true
 | _=>cases y<;>exact absurd (show false=true from hs) Bool.false_ne_true
theorem uY:OpR X (compareOp .NotEq) rNe:=by
 intro pins s σ H x y v u Q I rx ry h
 obtain ⟨hs,q⟩:=h
 cases x with
 | non=>
   cases rx
   cases y with
   | non=>cases ry;exact PySem.EqNone.ne_none_none (bK I q (by simp))
   | bl j=>cases ry;exact PySem.EqNone.ne_none_bool (bK I q (by simp))
   | int j=>obtain ⟨t',rfl⟩:=ry;exact PySem.EqNone.ne_none_int (bK I q (by simp))
   | str j=>obtain ⟨t',rfl⟩:=ry;exact PySem.EqNone.ne_none_str (bK I q (by simp))
   | _=>exact absurd (show false=true from hs) Bool.false_ne_true
 | bl i=>
   cases rx
   cases y with
   | non=>cases ry;exact PySem.EqNone.ne_bool_none (bK I q (by simp))
   | bl j=>cases ry;exact ne_bool (bK I q (congrArg not Ju))
   | str j=>obtain ⟨t',rfl⟩:=ry;exact PySem.EqMixed.ne_bool_str (bK I q (by simp))
   | _=>exact absurd (show false=true from hs) Bool.false_ne_true
 | int i=>
   obtain ⟨t,rfl⟩:=rx
   cases y with
   | non=>cases ry;exact PySem.EqNone.ne_int_none (bK I q (by simp))
   | int j=>obtain ⟨t',rfl⟩:=ry;exact ne_int (bK I q (congrArg not FX))
   | str j=>obtain ⟨t',rfl⟩:=ry;exact PySem.EqMixed.ne_int_str (bK I q (by simp))
   | _=>exact absurd (show false=true from hs) Bool.false_ne_true
 | str i=>
   obtain ⟨t,rfl⟩:=rx
   cases y with
   | non=>cases ry;exact PySem.EqNone.ne_str_none (bK I q (by simp))
   | bl j=>cases ry;exact PySem.EqMixed.ne_str_bool (bK I q (by simp))
   | int j=>obtain ⟨t',rfl⟩:=ry;exact PySem.EqMixed.ne_str_int (bK I q (by simp))
   | str j=>obtain ⟨t',rfl⟩:=ry;exact ne_str (bK I q (congrArg not FW))
   | _=>exact absurd (show false=true from hs) Bool.false_ne_true
 | byt i=>
   obtain ⟨t,rfl⟩:=rx
   cases y with
   | byt j=>obtain ⟨t',rfl⟩:=ry;exact PySem.W.ne_bytes (bK I q (congrArg not FY))
   | _=>exact absurd (show false=true from hs) Bool.false_ne_true
 | _=>cases y<;>exact absurd (show false=true from hs) Bool.false_ne_true
theorem KA:OpR X (compareOp .Lt) (rI0 fun i j=> .bl (decide (i < j))):=opB0 fun _ _ _ _ _ _ _ q=>lt_int q
theorem MF:OpR X (compareOp .LtE) (rI0 fun i j=> .bl (decide (i≤j))):=opB0 fun _ _ _ _ _ _ _ q=>le_int q
theorem uZ:OpR X (compareOp .Gt) (rI0 fun i j=> .bl (decide (j < i))):=opB0 fun _ _ _ _ _ _ _ q=>gt_int q
theorem NX:OpR X (compareOp .GtE) (rI0 fun i j=> .bl (decide (j≤i))):=opB0 fun _ _ _ _ _ _ _ q=>ge_int q
theorem a8 (b:Expr) {op:CmpOp} (h:op≠.In:=by decide) (h2:op≠.NotIn:=by decide):behindInMarks op b=false:=by
 have e1:(op == CmpOp.In)=false:=by cases op<;>first | rfl | exact absurd rfl h
 have e2:(op == CmpOp.NotIn)=false:=by cases op<;>first | rfl | exact absurd rfl h2
 cases b<;>simp [behindInMarks,e1,e2]
theorem g6 {op:CmpOp} {r:R2} (ho:OpR X (compareOp op) r) (ha:PE X a ta) (hb:PE X b tb) (hm:behindInMarks op b=false):PE X (.Compare a [op] [b] pos) (tOp r ta tb):=by
 intro pins s σ H Q I h
 exact wpAny_Compare1 (binT ha hb I h fun v u s2 x y H2 I2 rx ry q=>ho pins s2 σ H2 x y v u Q I2 rx ry q) hm
noncomputable def Ly (t:TE):TT:=fun σ H Q=>t σ H fun x H'=>∃ k,x= .bl k∧Q k H'
theorem a7 {op:CmpOp} {r:R2} (ho:OpR X (compareOp op) r) (ha:PE X a ta) (hb:PE X b tb) (hm:behindInMarks op b=false):PT X (.Compare a [op] [b] pos) (Ly (tOp r ta tb)):=by
 intro pins s σ H Q I h
 refine wpAny_isTrue_Compare1 (thn (ha pins s σ H _ I h) fun v s1 ⟨x,H1,I1,r1,q1⟩=>thn (hb pins s1 σ H1 _ I1 q1) fun u s2 ⟨y,H2,I2,r2,q2⟩=>
  thn (ho pins s2 σ H2 x y v u _ I2 r1 r2 q2) fun c s3 ⟨z,H3,I3,r3,k,e,q3⟩=>?_) hm
 subst e
 cases r3
 exact wpAny_truthy_bool ⟨H3,I3,q3⟩
noncomputable def IO (r r':R2) (ta tb tc:TE):TE:=fun σ H Q=>ta σ H fun x H1=>tb σ H1 fun y H2=>r x y H2 fun z H3=>∃ k,z= .bl k∧
 (if k=true then tc σ H3 fun w' H4=>r' y w' H4 Q else Q (.bl false) H3)
theorem Hr {op op':CmpOp} {r r':R2} (ho:OpR X (compareOp op) r) (ho':OpR X (compareOp op') r') (ha:PE X a ta) (hb:PE X b tb) (hc:PE X c tc)
  (hm:lastMarks [op,op'] [b,c]=false:=by with_unfolding_all rfl):PE X (.Compare a [op,op'] [b,c] pos) (IO r r' ta tb tc):=by
 intro pins s σ H Q I h
 refine Compare_chain (thn (ha pins s σ H _ I h) fun v s1 ⟨x,H1,I1,r1,q1⟩=>chain_link (thn (hb pins s1 σ H1 _ I1 q1) fun u s2 ⟨y,H2,I2,r2,q2⟩=>
  thn (ho pins s2 σ H2 x y v u _ I2 r1 r2 q2) fun d s3 ⟨z,H3,I3,r3,k,e,q3⟩=>?_)) hm
 subst e
 cases r3
 refine wpAny_truthy_bool ?_
 cases k with
 | false=>exact ite_ff ⟨.bl false,H3,I3,rfl,q3⟩
 | true=>exact ite_tt (chain_last (thn (hc pins s3 σ H3 _ I3 q3) fun w' s4 ⟨z',H4,I4,r4,q4⟩=>ho' pins s4 σ H4 y z' u w' Q I4 r2 r4 q4))
theorem Fj:(sizeLine:Nat) < 2 ^ 63:=by rw [sizeLine_eq];decide
theorem uq {x:V} {us:List Value} (r:Vals [x] us):∃ u,us=[u]∧RelV x u:=by
 cases r with
 | cons r1 r2=>cases r2;exact ⟨_,rfl,r1⟩
theorem Lu {x y:V} {us:List Value} (r:Vals [x,y] us):∃ u w',us=[u,w']∧RelV x u∧RelV y w':=by
 cases r with
 | cons r1 r2=>
   cases r2 with
   | cons r3 r4=>cases r4;exact ⟨_,_,rfl,r1,r3⟩
theorem yh:jU X (.type "int") (fun xs H Q=>(∃ i,xs=[.int i]∧Q (.int i) H)∨∃ k,xs=[.bl k]∧Q (.int (if k then 1 else 0)) H):=by
 intro pins s σ H xs us Q I r h
 rcases h with ⟨i,rfl,q⟩ | ⟨k,rfl,q⟩
 ·obtain ⟨u,rfl,t,rfl⟩:=uq r
  exact call_int_int ⟨.int i,H,I,⟨_,rfl⟩,q⟩
 ·obtain ⟨u,rfl,r1⟩:=uq r
  cases r1
  exact call_int_bool ⟨.int (if k then 1 else 0),H,I.tok _,⟨_,rfl⟩,q⟩
noncomputable def LenV (K:PySem.W.Frag) (x:V) (H:Hp) (n:Nat):Prop:=
 match x with
 | .str y=>y.length≤sizeLine∧n=y.length
 | .byt y=>y.size≤sizeLine∧n=y.size
 | .ref p=>(∃ xs,SqL K H p xs∧n=xs.length)∨∃ xs,SqT K H p xs∧n=xs.length
 | _=>False
theorem Iz:jU X (.builtin "len") (fun xs H Q=>∃ x n,xs=[x]∧LenV X.K x H n∧Q (.int n) H):=by
 intro pins s σ H xs us Q I r h
 obtain ⟨x,n,rfl,e,q⟩:=h
 obtain ⟨u,rfl,rx⟩:=uq r
 have hl:=Fj
 have hs:sizeLine=16777216:=sizeLine_eq
 cases x with
 | str y=>
   obtain ⟨t,rfl⟩:=rx
   obtain ⟨hy,e'⟩:y.length≤sizeLine∧n=y.length:=e
   subst e'
   exact len_str (by omega) ⟨.int _,H,I.tok _,⟨_,rfl⟩,q⟩
 | byt y=>
   obtain ⟨t,rfl⟩:=rx
   obtain ⟨hy,e'⟩:y.size≤sizeLine∧n=y.size:=e
   subst e'
   exact PySem.W.len_bytes (by omega) ⟨.int _,H,I.tok _,⟨_,rfl⟩,q⟩
 | ref p=>
   cases rx
   have e':(∃ xs,SqL X.K H p xs∧n=xs.length)∨∃ xs,SqT X.K H p xs∧n=xs.length:=e
   rcases e' with ⟨xs,hx,e'⟩ | ⟨xs,hx,e'⟩
   ·subst e'
    obtain ⟨its,r',pl,hz⟩:=I.list hx
    have hlen:=r'.length
    exact Calls.call_len_list pl.isList (by simp only [List.size_toArray];omega) ⟨.int xs.length,H,I.tok _,⟨_,by simp only [List.size_toArray];rw [hlen]⟩,q⟩
   ·subst e'
    obtain ⟨its,r',pl,hz⟩:=I.tuple hx
    have hlen:=r'.length
    exact len_tuple pl (by simp only [List.size_toArray];omega) ⟨.int xs.length,H,I.tok _,⟨_,by simp only [List.size_toArray];rw [hlen]⟩,q⟩
 | _=>exact (show False from e).elim
theorem Ax:jU X (.builtin "divmod") (fun xs H Q=>∃ i j,xs=[.int i,.int j]∧CDiv i j∧∀ p,H p=none→Q (.ref p) (upd H p (.tup [.int (i / j),.int (i % j)]))):=by
 intro pins s σ H xs us Q I r h
 obtain ⟨i,j,rfl,⟨h1,h2⟩,q⟩:=h
 obtain ⟨u,w',rfl,⟨t,rfl⟩,⟨t',rfl⟩⟩:=Lu r
 refine divmod_int (by omega) ?_ (.inl (PyProof.noPylong_small (by omega)))
 rw [Int.fdiv_eq_ediv_of_nonneg i (by omega),Int.fmod_eq_emod_of_nonneg i (by omega)]
 have hn:H s.heap.objs.size=none:=I.hok.fresh (Nat.le_refl _)
 refine ⟨.ref s.heap.objs.size,_,?_,rfl,q _ hn⟩
 refine I.laid (fun b o e=>Heap.get?_push_of_some _ e) (Nat.le_refl _) ⟨by simp only [List.length_cons,List.length_nil];rw [sizeLine_eq];decide,[.int (i / j) s.toks,.int (i % j) (s.toks + 1)],.cons ⟨_,rfl⟩ (.cons ⟨_,rfl⟩ .nil),?_⟩
 exact ⟨_,Heap.get?_push_size s.heap rfl,rfl,0,rfl⟩
end
structure ObjM (h:Heap) (x dx C:Addr) (mA:Str→Option Value):Prop where
 obj:h.get? x=some (PySem.W.instObj C dx)
 ns:h.Ns1 dx mA
 ne:dx≠x
theorem Fe {h:Heap} {dx:Addr} {mA:Str→Option Value} (n:h.Ns1 dx mA):∃ od,h.get? dx=some od∧∀ name,PySem.W.lookIn name od=some (mA name):=by
 obtain ⟨o,es,ep,ho,hd,hk,_,hm⟩:=n
 refine ⟨o,ho,fun name=>?_⟩
 have e:=hm name
 unfold nsFind findBy at e
 rw [← Array.find?_toList] at e
 unfold PySem.W.lookIn
 rw [hd]
 dsimp only
 split
 ·rename_i y q
  rw [q] at e
  exact congrArg some e
 ·rename_i q
  rw [q] at e
  have a:es.toList.any (·.refKey)=false:=by
   rw [List.any_eq_false]
   intro y hy
   obtain ⟨z,t,hkey⟩:=hk y (Array.mem_toList_iff.mp hy)
   simp [DictEntry.refKey,hkey]
  have a':¬ es.toList.any (·.refKey)=true:=by rw [a];exact Bool.false_ne_true
  rw [if_neg a']
  exact congrArg some e
theorem ObjM.look {h:Heap} {x dx C:Addr} {mA:Str→Option Value} (I:ObjM h x dx C mA):∃ od,PySem.W.InstAt h x (PySem.W.instObj C dx) C (some od)∧∀ name,PySem.W.lookIn name od=some (mA name):=
 let ⟨od,ho,hl⟩:=Fe I.ns
 ⟨od,⟨I.obj,rfl,rfl,ho⟩,hl⟩
section
variable {prog:Program} {w:World} {A:Around} {E:Value→Shared→Prop} {s:Shared} {K:PySem.W.Frag} {x dx C f:Addr} {mA:Str→Option Value} {name:Str} {v:Value}
theorem aK {expr:Bool} {Q:Value→Shared→Prop} (X:K.In s.heap) (I:ObjM s.heap x dx C mA) (hg:PySem.W.plainGet K C name=true) (hh:PySem.W.hasDictIn K C=true)
  (ha:PySem.W.findIn K (.ref C) name=some none) (hv:mA name=some v) (hv':PySem.W.handedIn v=true) (h:Q v {s with toks:=s.toks + 1}):
  wpAny (model prog w) A (getAttr (.ref x) name expr) Q E s:=by
 obtain ⟨od,J,hl⟩:=I.look
 exact PySem.W.get_value X J (PySem.W.plainGet_of hg).1 (PySem.W.findObj_own hh ha rfl (by rw [hl,hv])) hv' h
theorem Ie {pl:Sem Bool} {Q:Value×List Value→Shared→Prop} (X:K.In s.heap) (I:ObjM s.heap x dx C mA) (hg:PySem.W.plainGet K C name=true)
  (hf:PySem.W.findIn K (.ref C) name=some (some (.ref f))) (ht:PySem.W.isFn K (.ref f)=true) (hv:mA name=none) (h:Q (.ref f,[.ref x]) s):
  wpAny (model prog w) A (getMethod (.ref x) name pl) Q E s:=by
 obtain ⟨od,J,hl⟩:=I.look
 exact PySem.W.method_fn X J (PySem.W.plainGet_of hg).1 (PySem.W.plainGet_of hg).2 hf (beq_iff_eq.mp ht) (by show (PySem.W.lookIn name od).map (·.isSome)=some false;rw [hl,hv];rfl) h
theorem J5 {ns:List Str} {Q:Unit→Shared→Prop} (X:K.In s.heap) (I:ObjM s.heap x dx C mA)
  (hs:PySem.W.findIn K (.ref C) "__setattr__"=some (some (.builtin "object.__setattr__"))) (hp:PySem.W.plainOver K C=true) (ht:PySem.W.takerIn K C name=some none) (hh:PySem.W.hasDictIn K C=true)
  (hw:PySem.Within mA ns) (hsz:ns.length≤sizeLine)
  (h:∀ h',ObjM h' x dx C (fun y=>if y=name then some v else mA y)→Heap.SameBut dx s.heap h'→Q () {s with heap:=h',toks:=s.toks + 2}):
  wpAny (model prog w) A (setAttr (.ref x) name v) Q E s:=by
 obtain ⟨od,J,hl⟩:=I.look
 refine PySem.W.set_plain X J hs (PySem.W.osa_open (s:={s with toks:=s.toks + 1}) (r:=none) X J hp ht fun b=>?_)
 obtain ⟨cd,hc,hd'⟩:=PySem.W.any_some hh
 have hx:s.heap.get? x=some ⟨.ref C,some dx,.plain,#[]⟩:=I.obj
 refine wpAny_bind (wpAny_pure (wpAny_bind (wpAny_bind (wpAny_loadPart hx (wpAny_bind (PySem.W.Looks.here (s:={s with toks:=s.toks + 1}) (PySem.W.looks_clsIn X hc) ?_))))))
 rw [hd']
 refine wpAny_pure (a:=some dx) (wpAny_bind (wpAny_pure (wpAny_bind ?_)))
 refine wpAny_nsSet1 (s:={s with toks:=s.toks + 1}) I.ns fun h' hn2 hs2=>?_
 obtain ⟨oD,esD,epD,hoD,hdD,hcD⟩:=hn2.count (PySem.Within.cons name v hw)
 refine wpAny_bind (wpAny_lookBehind hoD (by rw [hdD];exact pastItsLine_dict (Nat.le_trans hcD (by rw [List.length_cons];omega))) ?_)
 exact wpAny_pure (h _ ⟨(hs2.2 _ (Ne.symm I.ne)).trans I.obj,hn2,I.ne⟩ hs2)
theorem HM {R:Result→Shared→Prop} {vs:List Value} {kw:List (Str×Value)} (X:K.In s.heap) (hm:PySem.W.makesIn K C=true)
  (hi:PySem.W.findIn K (.ref C) "__init__"=some (some (.ref f))) (hf:PySem.W.typeIn K (.ref f)=some (.type "function"))
  (h:codeAny (model prog w) (A.under (.builtin "type.__call__" ⟨.ref C::vs,kw⟩)) (.call (.ref f) ⟨.ref (s.heap.objs.size + 1)::vs,kw⟩) (PySem.W.InitBack (s.heap.objs.size + 1) R)
   {s with heap:=(s.heap.push PySem.W.emptyDict).push (PySem.W.instObj C s.heap.objs.size)}):
  codeAny (model prog w) A (.call (.ref C) ⟨vs,kw⟩) R s:=by
 obtain ⟨hh,g,d,t,os⟩:=s
 exact PySem.W.make_core (PySem.W.makes_of X hm) (PySem.W.looks_findIn X hi) (fun self=>PySem.W.bind_fn X self hf) (.inl rfl) h
end
noncomputable def putF (f:Str) (v:V):List (Str×V)→List (Str×V)
 | []=>[(f,v)]
 | (g,x)::r=>if g=f then (g,v)::r else (g,x)::putF f v r
theorem qO (f g:Str) (v:V):∀ fs:List (Str×V),(putF f v fs).lookup g=if g=f then some v else fs.lookup g
 | []=>by
   show List.lookup g [(f,v)]=_
   by_cases h:g=f
   ·have hb:(g == f)=true:=beq_iff_eq.mpr h
    simp only [List.lookup,hb,if_pos h]
   ·have hb:(g == f)=false:=beq_eq_false_iff_ne.mpr h
    simp only [List.lookup,hb,if_neg h]
 | (k,x)::r=>by
   have ih:=qO f g v r
   rw [show putF f v ((k,x)::r)=(if k=f then (k,v)::r else (k,x)::putF f v r) from rfl]
   by_cases hk:k=f
   ·rw [if_pos hk]
    by_cases h:g=k
    ·have hb:(g == k)=true:=beq_iff_eq.mpr h
     simp only [List.lookup,hb,if_pos (h.trans hk)]
    ·have hb:(g == k)=false:=beq_eq_false_iff_ne.mpr h
     simp only [List.lookup,hb,if_neg (fun e:g=f=>h (e.trans hk.symm))]
   ·rw [if_neg hk]
    by_cases h:g=k
    ·have hb:(g == k)=true:=beq_iff_eq.mpr h
     simp only [List.lookup,hb,if_neg (fun e:g=f=>hk (h.symm.trans e))]
    ·have hb:(g == k)=false:=beq_eq_false_iff_ne.mpr h
     simp only [List.lookup,hb]
     exact ih
theorem rc (f:Str) (v:V):∀ fs:List (Str×V),f∈(putF f v fs).map (·.1)∧∀ g,g∈fs.map (·.1)→g∈(putF f v fs).map (·.1)
 | []=>⟨by simp [putF],fun g h=>by simp at h⟩
 | (k,x)::r=>by
   obtain ⟨i1,i2⟩:=rc f v r
   rw [show putF f v ((k,x)::r)=(if k=f then (k,v)::r else (k,x)::putF f v r) from rfl]
   by_cases hk:k=f
   ·rw [if_pos hk]
    subst hk
    exact ⟨by simp,fun g h=>by simpa using h⟩
   ·rw [if_neg hk]
    refine ⟨?_,fun g h=>?_⟩
    ·rw [List.map_cons]
     exact List.mem_cons_of_mem _ i1
    ·rw [List.map_cons] at h ⊢
     rcases List.mem_cons.mp h with e | e
     ·exact List.mem_cons.mpr (.inl e)
     ·exact List.mem_cons_of_mem _ (i2 g e)
theorem qS (f:Str) (v:V):∀ fs:List (Str×V),(putF f v fs).length≤fs.length + 1
 | []=>by simp [putF]
 | (k,x)::r=>by
   have ih:=qS f v r
   rw [show putF f v ((k,x)::r)=(if k=f then (k,v)::r else (k,x)::putF f v r) from rfl]
   by_cases hk:k=f
   ·rw [if_pos hk,List.length_cons,List.length_cons];omega
   ·rw [if_neg hk,List.length_cons,List.length_cons];omega
theorem RelO.some_of {v:V} {o:Option Value} (r:RelO (some v) o):∃ u,o=some u∧RelV v u:=by
 cases o with
 | none=>exact (show False from r).elim
 | some u=>exact ⟨u,rfl,r⟩
theorem RelO.none_of {o:Option Value} (r:RelO none o):o=none:=by
 cases o with
 | none=>rfl
 | some u=>exact (show False from r).elim
theorem FH {v:V} {u:Value} (r:RelV v u):PySem.W.handedIn u=true:=by
 cases v with
 | non=>cases (show u=Value.none from r);rfl
 | bl b=>cases (show u=Value.bool b from r);rfl
 | int i=>obtain ⟨t,e⟩:=(show ∃ t,u=Value.int i t from r);cases e;rfl
 | str x=>obtain ⟨t,e⟩:=(show ∃ t,u=Value.str x t from r);cases e;rfl
 | byt b=>obtain ⟨t,e⟩:=(show ∃ t,u=Value.bytes b t from r);cases e;rfl
 | flt b=>obtain ⟨t,e⟩:=(show ∃ t,u=Value.float b t from r);cases e;rfl
 | ref a=>cases (show u=Value.ref a from r);rfl
 | ty n=>cases (show u=Value.type n from r);rfl
section
variable {P:Program} {w:World} {H H':Hp} {h h':Heap} {a C dx:Addr} {fs fs':List (Str×V)}
theorem z8 (hok:HOk P w H h) (e:H a=some (.ins C dx fs)):∃ mA,ObjM h a dx C mA∧(∀ f,RelO (fs.lookup f) (mA f))∧PySem.Within mA (fs.map (·.1))∧fs.length≤1000∧H dx=some (.own a):=by
 obtain ⟨d,z,ne,ob,mA,n,r,q⟩:=(show eW P w H h a (.ins C dx fs) from hok a _ e)
 exact ⟨mA,⟨ob,n,ne⟩,r,q,z,d⟩
end
structure Cls (K:PySem.W.Frag) (C:Addr):Prop where
 pg:PySem.W.plainGet K C Str.empty=true
 hd:PySem.W.hasDictIn K C=true
 po:PySem.W.plainOver K C=true
 sa:PySem.W.findIn K (.ref C) "__setattr__"=some (some (.builtin "object.__setattr__"))
theorem Cls.get {K:PySem.W.Frag} {C:Addr} (c:Cls K C) (f:Str):PySem.W.plainGet K C f=true:=c.pg
noncomputable def dh (K:PySem.W.Frag) (C:Addr) (f:Str):Prop:=PySem.W.findIn K (.ref C) f=some none
theorem dh.taker {K:PySem.W.Frag} {C:Addr} {f:Str} (n:dh K C f):PySem.W.takerIn K C f=some none:=by
 unfold PySem.W.takerIn
 rw [show PySem.W.findIn K (.ref C) f=some none from n]
 rfl
structure Con (K:PySem.W.Frag) (C:Addr) (f:Str) (v:V) (u:Value):Prop where
 at_:PySem.W.findIn K (.ref C) f=some (some u)
 rel:RelV v u
 get:PySem.W.specialIn K u "__get__"=some none
 cp:PySem.W.copiedNames.contains f=false
structure Meth (K:PySem.W.Frag) (C:Addr) (m:Str) (f:Addr):Prop where
 at_:PySem.W.findIn K (.ref C) m=some (some (.ref f))
 fn:PySem.W.isFn K (.ref f)=true
 kp:PySem.W.keepIn K (.ref f)=true
section
variable {X:Cx} {pins:List (Addr×Obj)} {σ:St} {H:Hp} {s:Shared} {a C dx:Addr} {fs:List (Str×V)} {f:Str} {v:V} {A:Around} {E:Value→Shared→Prop}
theorem CN {b:Bool} {Q:Value→Shared→Prop} (I:Inv X pins σ H s) (e:H a=some (.ins C dx fs)) (c:Cls X.K C) (n:dh X.K C f) (l:fs.lookup f=some v)
  (h:∀ u s',Inv X pins σ H s'→RelV v u→Q u s'):wpAny (model X.prog X.w) A (getAttr (.ref a) f b) Q E s:=by
 obtain ⟨mA,O,r,_,_,_⟩:=z8 I.hok e
 obtain ⟨u,hu,ru⟩:=RelO.some_of (v:=v) (o:=mA f) (by rw [← l];exact r f)
 exact aK I.kIn O (c.get f) c.hd n hu (FH ru) (h u _ (I.tok _) ru)
theorem nJ {m:Str} {g:Addr} {pl:Sem Bool} {Q:Value×List Value→Shared→Prop} (I:Inv X pins σ H s) (e:H a=some (.ins C dx fs)) (c:Cls X.K C) (k:Meth X.K C m g) (l:fs.lookup m=none)
  (h:Q (.ref g,[.ref a]) s):wpAny (model X.prog X.w) A (getMethod (.ref a) m pl) Q E s:=by
 obtain ⟨mA,O,r,_,_,_⟩:=z8 I.hok e
 have hn:mA m=none:=RelO.none_of (by rw [← l];exact r m)
 exact Ie I.kIn O (c.get m) k.at_ k.fn hn h
theorem BU {y:V} {u:Value} {Q:Unit→Shared→Prop} (I:Inv X pins σ H s) (e:H a=some (.ins C dx fs)) (c:Cls X.K C) (n:dh X.K C f) (hl:fs.length < 1000) (ry:RelV y u)
  (h:∀ s',Inv X pins σ (upd H a (.ins C dx (putF f y fs))) s'→Q () s'):wpAny (model X.prog X.w) A (setAttr (.ref a) f u) Q E s:=by
 obtain ⟨mA,O,r,wi,_,ho⟩:=z8 I.hok e
 have hz:(fs.map (·.1)).length≤sizeLine:=by rw [List.length_map,sizeLine_eq];omega
 refine J5 I.kIn O c.sa c.po n.taker c.hd wi hz fun h' O' sb=>h _ ?_
 have hd:∃ o,h'.get? dx=some o:=let ⟨o,_,_,e',_⟩:=O'.ns;⟨o,e'⟩
 refine I.write (x:=a) (e:=dx) (by rw [e];exact True.intro) (.inr ho) (fun b q hb z=>(sb.2 b hb).trans z) hd ?_
 refine ⟨by rw [aJ O.ne];exact ho,?_,O.ne,O'.obj,_,O'.ns,fun g=>?_,fun g hg=>?_⟩
 ·have:=qS f y fs;omega
 ·show RelO ((putF f y fs).lookup g) (if g=f then some u else mA g)
  rw [qO]
  by_cases q:g=f
  ·rw [if_pos q,if_pos q];exact ry
  ·rw [if_neg q,if_neg q];exact r g
 ·by_cases q:g=f
  ·rw [q];exact (rc f y fs).1
  ·refine (rc f y fs).2 g (wi g fun z=>hg ?_)
   show (if g=f then some u else mA g)=none
   rw [if_neg q];exact z
theorem Inv.made (I:Inv X pins σ H s):Inv X pins σ (upd (upd H s.heap.objs.size (.own (s.heap.objs.size + 1))) (s.heap.objs.size + 1) (.ins C s.heap.objs.size []))
  {s with heap:=(s.heap.push PySem.W.emptyDict).push (PySem.W.instObj C s.heap.objs.size)}:=by
 have e1:(s.heap.push PySem.W.emptyDict).get? s.heap.objs.size=some PySem.W.emptyDict:=Heap.get?_push_size s.heap rfl
 have e2:((s.heap.push PySem.W.emptyDict).push (PySem.W.instObj C s.heap.objs.size)).get? (s.heap.objs.size + 1)=some (PySem.W.instObj C s.heap.objs.size):=by
  have:=Heap.get?_push_size (s.heap.push PySem.W.emptyDict) (o:=PySem.W.instObj C s.heap.objs.size) rfl
  rwa [Heap.size_push] at this
 have e3:(s.heap.push PySem.W.emptyDict).Ns s.heap.objs.size (fun _=>none):=⟨PySem.W.emptyDict,#[],_,e1,rfl,(fun e he=>absurd he (by simp)),fun _=>rfl⟩
 have I1:=I.laid (a:=s.heap.objs.size) (o:= .own (s.heap.objs.size + 1)) (h':=s.heap.push PySem.W.emptyDict) (t':=s.toks) (fun b u q=>Heap.get?_push_of_some _ q) (Nat.le_refl _) ⟨_,e1⟩
 refine I1.laid (a:=s.heap.objs.size + 1) (o:= .ins C s.heap.objs.size []) (t':=s.toks) (fun b u q=>Heap.get?_push_of_some _ q) (Nat.le_of_eq (Heap.size_push _ _)) ?_
 have ne:s.heap.objs.size≠s.heap.objs.size + 1:=Nat.ne_of_lt (Nat.lt_succ_self _)
 refine ⟨by rw [aJ ne,bc],Nat.zero_le _,ne,e2,fun _=>none,(Heap.Ns1.of_empty e3).at fun o q=>Heap.get?_push_of_some _ q,fun _=>True.intro,fun y hy=>absurd rfl hy⟩
theorem Lb {prog:Program} {w:World} {env:Env} {e:Expr} {f:Str} {pos:Pos} {s:Shared} {Q:Value→Shared→Prop} (hb:attributeBase e f env (eval e env)=eval e env)
  (h:wpAny (model prog w) A (eval e env) (fun o s₁=>wpAny (model prog w) A (getAttr o f true) Q E s₁) E s):wpAny (model prog w) A (eval (.Attribute e f pos) env) Q E s:=
 Attribute_any_ h (by rw [arm_eval_Attribute,hb])
end
noncomputable def tFld (K:PySem.W.Frag) (ta:TE) (f:Str):TE:=fun σ H Q=>ta σ H fun x H1=>∃ a C dx fs v,x= .ref a∧H1 a=some (.ins C dx fs)∧Cls K C∧dh K C f∧fs.lookup f=some v∧Q v H1
noncomputable def sFld (K:PySem.W.Frag) (ta tv:TE) (f:Str):TS:=fun D σ H=>tv σ H fun y H1=>ta σ H1 fun x H2=>∃ a C dx fs,x= .ref a∧H2 a=some (.ins C dx fs)∧Cls K C∧dh K C f∧fs.length < 1000∧
 D.nx σ (upd H2 a (.ins C dx (putF f y fs)))
section
variable {X:Cx} {o e value:Expr} {f:Str} {pos pos' tpos:Pos} {ta tv:TE}
theorem MA (he:PE X e ta) (hb:attributeBase e f X.env (eval e X.env)=eval e X.env):PE X (.Attribute e f pos) (tFld X.K ta f):=by
 intro pins s σ H Q I h
 refine Lb hb (thn (he pins s σ H _ I h) fun u s1 ⟨x,H1,I1,rx,a,C,dx,fs,v,ex,ea,c,n,l,q⟩=>?_)
 subst ex
 obtain rfl:u=Value.ref a:=rx
 exact CN I1 ea c n l fun u' s2 I2 ru=>⟨v,H1,I2,ru,q⟩
theorem Mt (ha:PE X o ta) (hv:PE X value tv) (hs:swapsWith value (some (.Attribute o f pos')) pos.line X.env=pure false):PS X (.Assign [.Attribute o f pos'] value pos) (sFld X.K ta tv f):=by
 intro pins s σ H D I h
 refine plainObj_wpAny_Assign_Attribute (thn (hv pins s σ H _ I h) fun u s1 ⟨y,H1,I1,ry,q⟩=>thn (ha pins s1 σ H1 _ I1 q) fun ov s2 ⟨x,H2,I2,rx,a,C,dx,fs,ex,ea,c,n,l,q2⟩=>?_) hs
 subst ex
 obtain rfl:ov=Value.ref a:=rx
 exact BU I2 ea c n l ry fun s3 I3=>⟨σ,_,I3,q2⟩
end
section
variable {X:Cx} {pins:List (Addr×Obj)} {σ:St} {H:Hp} {s:Shared} {A:Around} {E:Value→Shared→Prop} {Q:Value→Shared→Prop} {c:Value} {b:Bool}
inductive TyOf (K:PySem.W.Frag) (H:Hp):V→Value→Prop where
 | non:TyOf K H .non (.type "NoneType")
 | bl (x:Bool):TyOf K H (.bl x) (.type "bool")
 | int (i:Int):TyOf K H (.int i) (.type "int")
 | str (x:Str):TyOf K H (.str x) (.type "str")
 | flt (x:UInt64):TyOf K H (.flt x) (.type "float")
 | lst {a:Addr} {xs:List V} (e:H a=some (.lst xs)):TyOf K H (.ref a) (.type "list")
 | frz {a:Addr} {o:Obj} {xs:List V} (e:H a=some (.frz o (.lst xs))):TyOf K H (.ref a) (.type "list")
 | tup {a:Addr} {xs:List V} (e:H a=some (.tup xs)):TyOf K H (.ref a) (.type "tuple")
 | dK {a:Addr} {kvs:List (Key×V)} (e:H a=some (.dK kvs)):TyOf K H (.ref a) (.type "dict")
 | dT {a:Addr} {kvs:List (List Key×V)} (e:H a=some (.dT kvs)):TyOf K H (.ref a) (.type "dict")
 | ins {a C dx:Addr} {fs:List (Str×V)} (e:H a=some (.ins C dx fs)) (cl:Cls K C) (ha:PySem.W.findIn K (.ref C) "__class__"=some (some (.builtin "object.__class__")))
   (hn:PySem.W.specialIn K (.builtin "object.__class__") "__get__"=some (some (.builtin "getset_descriptor.__get__"))) (htk:PySem.W.takesIn K (.builtin "object.__class__")=some true)
   (hm:PySem.W.mroIn K C (.type "object")=some true):TyOf K H (.ref a) (.ref C)
end
structure Room (k:Nat) (A:Around):Prop where
 hd:A.handled=none
 dp:A.depth + 3 * k + 5 < recursionLimit
 un:A.units + 16 * k + 200 < cLine
theorem Room.mono {j k:Nat} {A:Around} (r:Room k A) (h:j≤k):Room j A:=⟨r.hd,by have:=r.dp;omega,by have:=r.un;omega⟩
theorem Room.deeper {k:Nat} {A:Around} (r:Room (k + 1) A) (env:Env):Room k (A.deeper env):=
 ⟨r.hd,by have:=r.dp;show A.depth + 1 + 3 * k + 5 < _;omega,by have:=r.un;show A.units + 3 + 16 * k + 200 < _;omega⟩
theorem Cv {A:Around} {C:Addr} {us:List Value} {kw:List (Str×Value)}:(A.under (.builtin "type.__call__" ⟨.ref C::us,kw⟩)).depth=A.depth + 1:=by
 first | rfl | simp [Around.under,Code.weight,Code.isCreation,Code.isGuard,Code.isCaller,Code.frames,Code.isFrame,guardIds]
theorem Cu {A:Around} {C:Addr} {us:List Value} {kw:List (Str×Value)}:(A.under (.builtin "type.__call__" ⟨.ref C::us,kw⟩)).units=A.units + 1:=by
 first | rfl | simp [Around.under,Code.cUnits,Code.frames,Code.isFrame]
theorem Room.make {k:Nat} {A:Around} (r:Room (k + 1) A) (C:Addr) (us:List Value) (kw:List (Str×Value)):Room k (A.under (.builtin "type.__call__" ⟨.ref C::us,kw⟩)):=
 ⟨r.hd,by have:=r.dp;rw [Cv];omega,by have:=r.un;rw [Cu];omega⟩
theorem Room.depth {k:Nat} {A:Around} (r:Room k A):A.depth < recursionLimit:=by have:=r.dp;omega
theorem Room.units {k:Nat} {A:Around} (r:Room k A):A.units + 64 < cLine:=by have:=r.un;omega
noncomputable def tNil:TA:=fun _ H Q=>Q [] H
noncomputable def LF (ta:TE) (tr:TA):TA:=fun σ H Q=>ta σ H fun x H1=>tr σ H1 fun xs H2=>Q (x::xs) H2
section
variable {X:Cx} {e:Expr} {es:List Expr} {te:TE} {t:TA} {pos:Pos}
theorem af:PA X [] tNil:=fun _ _ _ _ H Q I h=>Calls.spliced_nil ⟨[],H,I,.nil,h⟩
theorem aa (ha:PE X e te) (hr:PA X es t) (hs:starEach (e::es) X.env=(false,eval e X.env)::starEach es X.env:=by rfl):PA X (e::es) (LF te t):=by
 intro pos pins s σ H Q I h
 rw [hs]
 show wpAny _ _ (spliced ((false,eval e X.env)::backTo pos (starEach es X.env))) _ _ s
 refine Calls.spliced_cons (thn (ha pins s σ H _ I h) fun u s1 ⟨x,H1,I1,r1,q1⟩=>?_)
 exact thn (hr pos pins s1 σ H1 _ I1 q1) fun us s2 ⟨xs,H2,I2,r2,q2⟩=>⟨x::xs,H2,I2,.cons r1 r2,q2⟩
noncomputable def tTup (t:TA):TE:=fun σ H Q=>t σ H fun xs H1=>xs.length≤sizeLine∧∀ p,H1 p=none→Q (.ref p) (upd H1 p (.tup xs))
noncomputable def tLst (t:TA):TE:=fun σ H Q=>t σ H fun xs H1=>xs.length≤sizeLine∧∀ p,H1 p=none→Q (.ref p) (upd H1 p (.lst xs))
theorem jp {x1} (h:PA X es t):PE X (.Tuple es x1 pos) (tTup t):=by
 intro pins s σ H Q I hq
 refine wpAny_Tuple_spliced (thn (h pos pins s σ H _ I hq) fun us s1 ⟨xs,H1,I1,r,z,q⟩=>⟨by rw [← r.length];exact z,?_⟩)
 have hf:H1 s1.heap.objs.size=none:=I1.hok.fresh (Nat.le_refl _)
 refine ⟨.ref s1.heap.objs.size,upd H1 s1.heap.objs.size (.tup xs),I1.laid (t':=s1.toks) (fun b u e=>Heap.get?_push_of_some _ e) (Nat.le_refl _) ?_,rfl,q _ hf⟩
 exact ⟨z,us,r,⟨_,Heap.get?_push_size _ rfl,rfl,_,rfl⟩⟩
theorem ek (h:PA X es t):PE X (.List es pos) (tLst t):=by
 intro pins s σ H Q I hq
 refine wpAny_List_spliced (thn (h pos pins s σ H _ I hq) fun us s1 ⟨xs,H1,I1,r,z,q⟩=>⟨by rw [← r.length];exact z,?_⟩)
 have hf:H1 s1.heap.objs.size=none:=I1.hok.fresh (Nat.le_refl _)
 refine ⟨.ref s1.heap.objs.size,upd H1 s1.heap.objs.size (.lst xs),I1.laid (t':=s1.toks) (fun b u e=>Heap.get?_push_of_some _ e) (Nat.le_refl _) ?_,rfl,q _ hf⟩
 exact ⟨z,us,0,r,Heap.get?_push_size _ rfl⟩
end
noncomputable abbrev Sp:=List V→Hp→VK→XK→Prop
noncomputable abbrev CXT:=List Env→Hp→Shared→XK→Value→Shared→Prop
structure Env0 (P:Program) (w:World) (K:PySem.W.Frag) (mg:Str→Option Value) (base:Heap) (A:Around) (outer:List Env) (s:Shared) (H:Hp):Prop where
 frames:A.frames=some outer
 mod:Mod K mg base
 bs:∀ b o,base.get? b=some o→s.heap.get? b=some o∧H b=none
 bsz:base.objs.size≤s.heap.objs.size
 funs:s.heap.FunFrames base outer
 frf:∀ b∈frs outer,H b=none
 hok:HOk P w H s.heap
 bare:AllBare s.gens
noncomputable def CE (outer:List Env) (P:Program) (w:World) (H:Hp) (s:Shared) (Q:VK) (u:Value) (s':Shared):Prop:=
 ∃ v H',s'.os=s.os∧AllBare s'.gens∧Un (frs outer) [] H H' s.heap s'.heap∧HOk P w H' s'.heap∧RelV v u∧Q v H'
noncomputable def CR (CX:CXT) (outer:List Env) (P:Program) (w:World) (H:Hp) (s:Shared) (Q:VK) (E:XK) (r:Result) (s':Shared):Prop:=
 match r with
 | .ok (.ret u)=>CE outer P w H s Q u s'
 | .ok _=>False
 | .error e=>CX outer H s E e s'
structure FnOk (P:Program) (w:World) (K:PySem.W.Frag) (mg:Str→Option Value) (base:Heap) (CX:CXT) (k:Nat) (f:Addr) (fd:FuncData) (ps:List Str) (sp:Sp):Prop where
 len:∀ vs H Q E,sp vs H Q E→vs.length=ps.length
 run:∀ (A:Around) (outer:List Env) (s:Shared) (H:Hp) (args:Args) (us:List Value) (vs:List V) (Q:VK) (E:XK),Room k A→Env0 P w K mg base A outer s H→BindsTo s fd args (ps.zip us)→Vals vs us→sp vs H Q E→
  codeAny (model P w) A (.call (.ref f) args) (CR CX outer P w H s Q E) s
theorem Env0.make {P:Program} {w:World} {K:PySem.W.Frag} {mg:Str→Option Value} {base:Heap} {A:Around} {outer:List Env} {s:Shared} {H:Hp} (e:Env0 P w K mg base A outer s H) (C:Addr) (us:List Value) (kw:List (Str×Value)):
  Env0 P w K mg base (A.under (.builtin "type.__call__" ⟨.ref C::us,kw⟩)) outer s H:=⟨by first | exact e.frames | (simpa [Around.under,Code.envs,Code.isFrame,pushEnvs] using e.frames),e.mod,e.bs,e.bsz,e.funs,e.frf,e.hok,e.bare⟩
section
variable {X:Cx} {pins:List (Addr×Obj)} {σ:St} {H:Hp} {s s':Shared}
theorem Inv.env0 (I:Inv X pins σ H s):Env0 X.prog X.w X.K X.mg X.base X.A X.stack s H:=
 ⟨I.ok.frames,I.ok.mod,I.bs,Nat.le_trans I.ok.bsz I.sz,I.stack,I.stkFree,I.hok,I.bare⟩
theorem Inv.after {Q:VK} {u:Value} (I:Inv X pins σ H s) (h:CE X.stack X.prog X.w H s Q u s'):EP X pins σ Q u s':=by
 obtain ⟨v,H',os,bare,un,hok,r,q⟩:=h
 obtain ⟨hh,g,d,t,os'⟩:=s'
 obtain rfl:os'=s.os:=os
 exact ⟨v,H',I.call (h':=hh) (g':=g) (d':=d) (t':=t) (ch:=[]) un hok bare (fun b z=>absurd z (by simp)),r,q⟩
end
noncomputable def JO (sp:Sp) (dvs:List V) (E:XK) (t:TA):TE:=fun σ H Q=>t σ H fun vs H1=>sp (vs++dvs) H1 Q E
noncomputable def JN (C:Addr) (m:Str) (sp:Sp) (dvs:List V) (E:XK) (ta:TE) (t:TA):TE:=fun σ H Q=>ta σ H fun x H1=>∃ a dx fs,x= .ref a∧H1 a=some (.ins C dx fs)∧fs.lookup m=none∧
 t σ H1 fun vs H2=>sp (x::(vs++dvs)) H2 Q E
noncomputable def LC (C:Addr) (sp:Sp) (dvs:List V) (E:XK) (t:TA):TE:=fun σ H Q=>t σ H fun vs H1=>∀ x dx,H1 x=none→H1 dx=none→dx≠x→
 sp (.ref x::(vs++dvs)) (upd (upd H1 dx (.own x)) x (.ins C dx [])) (fun v H2=>v= .non∧Q (.ref x) H2) E
noncomputable def be (K:PySem.W.Frag) (fd:FuncData) (ps:List Str) (ds:List Value):Prop:=
 ∀ (s:Shared) (us:List Value),K.In s.heap→(us++ds).length=ps.length→BindsTo s fd ⟨us,[]⟩ (ps.zip (us++ds))
theorem be.all {K:PySem.W.Frag} {fd:FuncData} {ps:List Str} (h:∀ us:List Value,us.length=ps.length→bindArgs fd ⟨us,[]⟩=pure (ps.zip us)):be K fd ps []:=fun s us _ hl=>by
 rw [List.append_nil] at hl ⊢
 exact .of_eq (h us hl)
noncomputable def se (CX:CXT) (X:Cx) (E:XK):Prop:=∀ (pins:List (Addr×Obj)) (σ:St) (H:Hp) (s:Shared) (e:Value) (s':Shared),Inv X pins σ H s→CX X.stack H s E e s'→X.xe e s'
section
variable {X:Cx} {CX:CXT} {k:Nat} {f C:Addr} {fd:FuncData} {ps:List Str} {sp:Sp} {dvs:List V} {ds:List Value} {E:XK} {x m:Str} {p pos apos:Pos} {e o:Expr} {es:List Expr} {ta:TE} {t:TA}
theorem EG {pins:List (Addr×Obj)} {σ:St} {H:Hp} {s:Shared} {Q:VK} {us:List Value} {vs:List V} (F:FnOk X.prog X.w X.K X.mg X.base CX k f fd ps sp) (hr:Room k X.A) (hb:be X.K fd ps ds) (hd:Vals dvs ds) (hx:se CX X E)
  (I:Inv X pins σ H s) (r:Vals vs us) (h:sp (vs++dvs) H Q E):wpAny (model X.prog X.w) X.A (call (.ref f) us) (EP X pins σ Q) X.xe s:=by
 have r2:Vals (vs++dvs) (us++ds):=r.append hd
 have hl:(us++ds).length=ps.length:=by rw [← r2.length];exact F.len _ _ _ _ h
 refine wpAny_call (codeAny_mono (F.run X.A X.stack s H ⟨us,[]⟩ (us++ds) (vs++dvs) Q E hr I.env0 (hb s us I.kIn hl) r2 h) fun r s' hq=>?_)
 cases r with
 | error e=>exact hx pins σ H s e s' I hq
 | ok fl=>
   cases fl with
   | ret u=>exact I.after hq
   | next=>exact False.elim hq
   | brk=>exact False.elim hq
   | cont=>exact False.elim hq
theorem aj (F:FnOk X.prog X.w X.K X.mg X.base CX k f fd ps sp) (hr:Room k X.A) (hg:Gl X x) (hm:X.mg x=some (.ref f)) (hk:PySem.W.keepIn X.K (.ref f)=true) (hb:be X.K fd ps ds) (hd:Vals dvs ds) (hx:se CX X E)
  (ha:PA X (e::es) t) (hdb:(x == ("__debug__":Str))=false:=by decide) (he:starEach (e::es) X.env=(false,eval e X.env)::starEach es X.env:=by rfl) (hpl:(backTo pos (starEach es X.env)).any (·.1)=false:=by rfl):
  PE X (.Call (.Name x p) (e::es) [] pos) (JO sp dvs E t):=by
 intro pins s σ H Q I h
 refine wpAny_Call_Name_kw (vw I hg hm ?_ hdb)
 refine PySem.W.callWith_K (h₀:=X.base) I.ok.mod.kin hk (thn (ha pos pins s σ H _ I h) fun us s1 ⟨vs,H1,I1,r,q⟩=>⟨I1.kIn,?_⟩) he hpl
 exact EG F hr hb hd hx I1 r q
theorem uU {pl:Sem Bool} (he:PE X o ta) (c:Cls X.K C) (hm:Meth X.K C m f) (F:FnOk X.prog X.w X.K X.mg X.base CX k f fd ps sp) (hr:Room k X.A) (hb:be X.K fd ps ds) (hd:Vals dvs ds) (hx:se CX X E) (ha:PA X (e::es) t)
  (hst:starEach (e::es) X.env=(false,eval e X.env)::starEach es X.env:=by rfl) (hpl:(backTo pos (starEach es X.env)).any (·.1)=false:=by rfl)
  (ht:eval (.Call (.Attribute o m apos) (e::es) [] pos) X.env=(do
   let ov ← eval o X.env
   standAt apos.atName
   let (f,first) ← holding [ov] (getMethod ov m pl)
   callWith pos f first (backTo pos (starEach (e::es) X.env)) (backToKw pos (keywordEach [] X.env))):=by rfl):
  PE X (.Call (.Attribute o m apos) (e::es) [] pos) (JN C m sp dvs E ta t):=by
 intro pins s σ H Q I h
 refine PySem.W.methodCall_KW (pl:=pl) (thn (he pins s σ H _ I h) fun u s1 ⟨x,H1,I1,rx,a,dx,fs,ex,ea,l,q⟩=>?_) ht
 subst ex
 obtain rfl:u=Value.ref a:=rx
 refine nJ I1 ea c hm l ?_
 refine PySem.W.callWith_K (first:=[.ref a]) (h₀:=X.base) I.ok.mod.kin hm.kp (thn (ha pos pins s1 σ H1 _ I1 q) fun us s2 ⟨vs,H2,I2,r,q2⟩=>⟨I2.kIn,?_⟩) hst hpl
 exact EG (us:= .ref a::us) (vs:= .ref a::vs) F hr hb hd hx I2 (.cons rfl r) q2
theorem fg {pl:Sem Bool} (he:PE X o ta) (c:Cls X.K C) (hm:Meth X.K C m f) (F:FnOk X.prog X.w X.K X.mg X.base CX k f fd ps sp) (hr:Room k X.A) (hb:be X.K fd ps ds) (hd:Vals dvs ds) (hx:se CX X E)
  (ht:eval (.Call (.Attribute o m apos) [] [] pos) X.env=(do
   let ov ← eval o X.env
   standAt apos.atName
   let (f,first) ← holding [ov] (getMethod ov m pl)
   callWith pos f first (backTo pos (starEach [] X.env)) (backToKw pos (keywordEach [] X.env))):=by rfl):
  PE X (.Call (.Attribute o m apos) [] [] pos) (JN C m sp dvs E ta tNil):=by
 intro pins s σ H Q I h
 refine PySem.W.methodCall_KW (pl:=pl) (thn (he pins s σ H _ I h) fun u s1 ⟨x,H1,I1,rx,a,dx,fs,ex,ea,l,q⟩=>?_) ht
 subst ex
 obtain rfl:u=Value.ref a:=rx
 refine nJ I1 ea c hm l ?_
 exact PySem.W.callWith_K0 (first:=[.ref a]) I1.kIn hm.kp (EG (us:=[.ref a]) (vs:=[.ref a]) F hr hb hd hx I1 (.cons rfl .nil) q)
structure Mk (K:PySem.W.Frag) (C f:Addr):Prop where
 makes:PySem.W.makesIn K C=true
 init:PySem.W.findIn K (.ref C) "__init__"=some (some (.ref f))
 fn:PySem.W.isFn K (.ref f)=true
 kp:PySem.W.keepIn K (.ref C)=true
theorem He {pins:List (Addr×Obj)} {σ:St} {H:Hp} {s:Shared} {Q:VK} {us:List Value} {vs:List V} (M:Mk X.K C f) (F:FnOk X.prog X.w X.K X.mg X.base CX k f fd ps sp) (hr:Room (k + 1) X.A) (hb:be X.K fd ps ds) (hd:Vals dvs ds)
  (hx:se CX X E) (I:Inv X pins σ H s) (r:Vals vs us)
  (h:∀ x dx,H x=none→H dx=none→dx≠x→sp (.ref x::(vs++dvs)) (upd (upd H dx (.own x)) x (.ins C dx [])) (fun v H2=>v= .non∧Q (.ref x) H2) E):
  wpAny (model X.prog X.w) X.A (call (.ref C) us) (EP X pins σ Q) X.xe s:=by
 have hq:=h (s.heap.objs.size + 1) s.heap.objs.size (I.hok.fresh (Nat.le_succ _)) (I.hok.fresh (Nat.le_refl _)) (Nat.ne_of_lt (Nat.lt_succ_self _))
 have I2:=Inv.made (C:=C) I
 have r2:Vals (V.ref (s.heap.objs.size + 1)::(vs++dvs)) (Value.ref (s.heap.objs.size + 1)::(us++ds)):= .cons rfl (r.append hd)
 have hl:(Value.ref (s.heap.objs.size + 1)::us++ds).length=ps.length:=by
  have e:=r2.length
  rw [F.len _ _ _ _ hq] at e
  exact e.symm
 refine wpAny_call (HM (f:=f) I.kIn M.makes M.init (beq_iff_eq.mp M.fn) (codeAny_mono (F.run _ X.stack _ _ ⟨Value.ref (s.heap.objs.size + 1)::us,[]⟩ (Value.ref (s.heap.objs.size + 1)::(us++ds)) _ _ E (hr.make C us [])
  (I2.env0.make C us []) (hb _ (Value.ref (s.heap.objs.size + 1)::us) I2.kIn hl) r2 hq) fun r s' hq'=>?_))
 cases r with
 | error e=>exact hx pins σ _ _ e s' I2 hq'
 | ok fl=>
   cases fl with
   | ret u=>
     obtain ⟨v,H',I3,rv,ev,q3⟩:=I2.after hq'
     subst ev
     exact ⟨rv,⟨V.ref (s.heap.objs.size + 1),H',I3,rfl,q3⟩⟩
   | next=>exact False.elim hq'
   | brk=>exact False.elim hq'
   | cont=>exact False.elim hq'
theorem uV (M:Mk X.K C f) (F:FnOk X.prog X.w X.K X.mg X.base CX k f fd ps sp) (hr:Room (k + 1) X.A) (hg:Gl X x) (hm:X.mg x=some (.ref C)) (hb:be X.K fd ps ds) (hd:Vals dvs ds) (hx:se CX X E)
  (ha:PA X (e::es) t) (hdb:(x == ("__debug__":Str))=false:=by decide) (he:starEach (e::es) X.env=(false,eval e X.env)::starEach es X.env:=by rfl) (hpl:(backTo pos (starEach es X.env)).any (·.1)=false:=by rfl):
  PE X (.Call (.Name x p) (e::es) [] pos) (LC C sp dvs E t):=by
 intro pins s σ H Q I h
 refine wpAny_Call_Name_kw (vw I hg hm ?_ hdb)
 refine PySem.W.callWith_K (h₀:=X.base) I.ok.mod.kin M.kp (thn (ha pos pins s σ H _ I h) fun us s1 ⟨vs,H1,I1,r,q⟩=>⟨I1.kIn,?_⟩) he hpl
 exact He M F hr hb hd hx I1 r q
end
section
variable {X:Cx} {CX:CXT} {k:Nat} {f C:Addr} {fd:FuncData} {ps ks:List Str} {sp:Sp} {E:XK} {x m:Str} {p pos apos kpos:Pos} {e o:Expr} {es:List Expr} {kws:List Keyword} {te ta:TE} {t tk:TA} {nm:Option Str}
structure Ob (K:PySem.W.Frag) (fd:FuncData) (ps ks:List Str) (g:List Value→List Value→List Value) (gV:List V→List V→List V):Prop where
 to:∀ (s:Shared) (us ws:List Value),K.In s.heap→(g us ws).length=ps.length→BindsTo s fd ⟨us,ks.zip ws⟩ (ps.zip (g us ws))
 rel:∀ {vs:List V} {us:List Value} {zs:List V} {ws:List Value},Vals vs us→Vals zs ws→Vals (gV vs zs) (g us ws)
variable {g:List Value→List Value→List Value} {gV:List V→List V→List V}
end
structure ay (N P:List Str) (sc:Scope):Prop where
 kind:sc.kind= .function
 co:sc.isCoroutine=false
 gen:sc.isGenerator=false
 nd:N.Nodup
 pre:N.take P.length=P
 par:∀ x∈P,sc.names.lookup x=some .local∨sc.names.lookup x=some .cell
 nofree:∀ y∈sc.names,y.2≠.free
theorem yq {kindOf:Str→Option NameKind} {x:Str}:∀ {binds:List (Str×Value)} {m:Str→Option Value},(∀ v,(x,v)∉binds)→bindL kindOf binds m x=m x
 | [],_,_=>rfl
 | (n,v)::r,m,h=>by
   unfold bindL
   rw [yq fun w hw=>h w (List.mem_cons_of_mem _ hw)]
   split
   ·have:x≠n:=by rintro rfl;exact h v List.mem_cons_self
    simp [this]
   ·rfl
theorem yt {kindOf:Str→Option NameKind} {x:Str}:∀ {binds:List (Str×Value)} {m:Str→Option Value},(∀ v,(x,v)∉binds)→bindC kindOf binds m x=m x
 | [],_,_=>rfl
 | (n,v)::r,m,h=>by
   unfold bindC
   rw [yt fun w hw=>h w (List.mem_cons_of_mem _ hw)]
   split
   ·rfl
   ·have:x≠n:=by rintro rfl;exact h v List.mem_cons_self
    simp [this]
theorem yr {kindOf:Str→Option NameKind} {x:Str} {v:Value}:∀ {P:List Str} {vs:List Value} {i:Nat} {m:Str→Option Value},P.Nodup→P[i]? =some x→vs[i]? =some v→kindOf x=some .local→
  bindL kindOf (P.zip vs) m x=some v
 | [],_,_,_,_,h,_,_=>by simp at h
 | _::_,[],_,_,_,_,h,_=>by simp at h
 | p::P,w::vs,0,m,nd,h1,h2,hk=>by
   simp at h1 h2;subst h1;subst h2
   show bindL kindOf ((p,w)::P.zip vs) m p=_
   unfold bindL
   rw [yq fun v hv=>(List.nodup_cons.mp nd).1 (List.of_mem_zip hv).1,if_pos hk]
   simp
 | p::P,w::vs,i + 1,m,nd,h1,h2,hk=>by
   show bindL kindOf ((p,w)::P.zip vs) m x=_
   unfold bindL
   exact yr (i:=i) (List.nodup_cons.mp nd).2 (by simpa using h1) (by simpa using h2) hk
theorem yu {kindOf:Str→Option NameKind} {x:Str} {v:Value}:∀ {P:List Str} {vs:List Value} {i:Nat} {m:Str→Option Value},P.Nodup→P[i]? =some x→vs[i]? =some v→kindOf x≠some .local→
  bindC kindOf (P.zip vs) m x=some v
 | [],_,_,_,_,h,_,_=>by simp at h
 | _::_,[],_,_,_,_,h,_=>by simp at h
 | p::P,w::vs,0,m,nd,h1,h2,hk=>by
   simp at h1 h2;subst h1;subst h2
   show bindC kindOf ((p,w)::P.zip vs) m p=_
   unfold bindC
   rw [yt fun v hv=>(List.nodup_cons.mp nd).1 (List.of_mem_zip hv).1,if_neg hk]
   simp
 | p::P,w::vs,i + 1,m,nd,h1,h2,hk=>by
   show bindC kindOf ((p,w)::P.zip vs) m x=_
   unfold bindC
   exact yu (i:=i) (List.nodup_cons.mp nd).2 (by simpa using h1) (by simpa using h2) hk
noncomputable def pV (N:List Str) (vs:List V):St:=vs.map some++List.replicate (N.length - vs.length) none
noncomputable def cxOf (CX:CXT) (P:Program) (w:World) (K:PySem.W.Frag) (mg:Str→Option Value) (base:Heap) (N:List Str) (qual:Str) (scope:Scope) (f:Addr) (cd:Value) (A:Around) (outer:List Env) (s:Shared) (H:Hp) (E:XK):Cx where
 prog:=P
 w:=w
 K:=K
 mg:=mg
 base:=base
 A:=A.deeper (envOfC qual scope s.heap.objs.size f cd)
 N:=N
 s₀:=s
 H₀:=H
 env:=envOfC qual scope s.heap.objs.size f cd
 outer:=outer
 stack:=envOfC qual scope s.heap.objs.size f cd::outer
 ex:=[]
 calm:=true
 fn:=fun _=>true
 pn:=[]
 xe:=fun e s'=>wpAny (model P w) (A.deeper (envOfC qual scope s.heap.objs.size f cd)) (leaving (envOfC qual scope s.heap.objs.size f cd) e) (fun _ s''=>CX outer H s E e s'') (fun e' s''=>CX outer H s E e' s'') s'
theorem Bo {sc:Scope} {n:Nat} {x:Str} (h:sc.names.lookup x=some .cell):∃ c,(cellsFrom n sc.names []).lookup x=some c:=by
 have q:=PySem.W.cellsFrom_some sc.names n [] (.inl h)
 exact Option.isSome_iff_exists.mp q
theorem FD {CX:CXT} {P:Program} {w:World} {K:PySem.W.Frag} {mg:Str→Option Value} {base:Heap} {N ps:List Str} {qual:Str} {scope:Scope} {f:Addr} {cd:Value} {A:Around} {outer:List Env} {s s1:Shared} {H:Hp} {E:XK} {us:List Value} {vs:List V}
  (S:ay N ps scope) (hd:A.handled=none) (e0:Env0 P w K mg base A outer s H) (hl:vs.length=ps.length) (r:Vals vs us)
  (x:InCallC s s.heap.objs.size (bindL (envOfC qual scope s.heap.objs.size f cd).kindOf (ps.zip us) fun _=>none) (cellsFrom (s.heap.objs.size + 1) scope.names []) (bindC (envOfC qual scope s.heap.objs.size f cd).kindOf (ps.zip us) fun _=>none) s1):
  Inv (cxOf CX P w K mg base N qual scope f cd A outer s H E) [] (pV N vs) H s1:=by
 have hpl:ps.length≤N.length:=by have:=congrArg List.length S.pre;rw [List.length_take] at this;omega
 obtain ⟨h1,tk,rfl,hk⟩:=x.done
 have noA:∀ b:Addr,b∉(cxOf CX P w K mg base N qual scope f cd A outer s H E).ex:=fun b z=>absurd (show b∈([]:List Addr) from z) (by simp)
 refine ⟨⟨e0.mod,S.kind,rfl,rfl,Nat.le_refl _,fun y z c h1 h2=>?_,fun y hy=>?_,fun y c _ h=>?_,fun _=>hd,Around.frames_deeper e0.frames,.inr ⟨rfl,rfl⟩,fun b z=>absurd z (noA b),e0.bs,e0.bsz,fun b _ _=>noA b,fun b z=>absurd z (noA b),e0.funs,e0.frf⟩,
  rfl,e0.bare,Un.kept hk,⟨_,x.toInCall.ns,fun i y v h1 h2 h3=>?_⟩,fun y c h=>⟨_,x.cell y c h⟩,e0.hok.fresh (Nat.le_refl _),fun y c h=>?_,fun p hp=>absurd (show p∈([]:List (Addr×Obj)) from hp) (by simp),e0.hok.kept hk,?_⟩
 ·exact name_of_addr x.apart (PySem.mem_of_lookup h1) (PySem.mem_of_lookup h2)
 ·have hy:scope.names.lookup y=some .cell∨scope.names.lookup y=some .free:=hy
  rcases hy with hy | hy
  ·exact Bo hy
  ·exact absurd rfl (S.nofree _ (PySem.mem_of_lookup hy))
 ·exact Nat.le_of_lt (x.above y c (PySem.mem_of_lookup h))
 ·have hi:i < vs.length:=by
   unfold pV at h2
   by_cases hi:i < vs.length
   ·exact hi
   ·rw [List.getElem?_append_right (by simpa using hi)] at h2
    rw [List.getElem?_replicate] at h2
    split at h2<;>cases h2
  have ha:vs[i]? =some v:=by
   unfold pV at h2
   rw [List.getElem?_append_left (by simpa using hi),List.getElem?_map] at h2
   cases e:vs[i]? with
   | none=>rw [e] at h2;cases h2
   | some a=>rw [e] at h2;cases h2;rfl
  obtain ⟨u,hu,rv⟩:=r.get ha
  have hp:ps[i]? =some y:=by
   rw [← S.pre,List.getElem?_take_of_lt (by omega)];exact h1
  have ndP:ps.Nodup:=by rw [← S.pre];exact S.nd.sublist (List.take_sublist _ _)
  refine ⟨u,rv,?_⟩
  rcases S.par y (List.mem_of_getElem? hp) with k | k
  ·exact .inl ⟨k,yr ndP hp hu k⟩
  ·obtain ⟨c,e⟩:=Bo (n:=s.heap.objs.size + 1) k
   refine .inr ⟨.inl k,c,e,?_⟩
   have q:=x.cell y c e
   rw [yu ndP hp hu (by show scope.names.lookup y≠_;rw [k];decide)] at q
   exact q
 ·exact e0.hok.fresh (Nat.le_of_lt (x.above y c (PySem.mem_of_lookup h)))
 ·unfold pV
  show _=N.length
  rw [List.length_append,List.length_map,List.length_replicate]
  omega
theorem MX {CX:CXT} {P:Program} {w:World} {K:PySem.W.Frag} {mg:Str→Option Value} {base:Heap} {k:Nat} {f:Addr} {name qual:Str} {params:Arguments} {body:List Stmt} {scope:Scope} {dV kV doc pm cdv ct oc:Value} {an od:Option Addr}
  {osl:Array (Option Value)} {N ps:List Str} {sp:Sp} (lk:K.lookup f=some ⟨oc,od,.func (PySem.W.fnOf name qual params body scope dV kV doc pm an cdv ct),osl⟩) (hcd:PySem.W.codeIn K cdv qual=true) (S:ay N ps scope)
  (len:∀ vs H Q E,sp vs H Q E→vs.length=ps.length)
  (hbody:∀ (A:Around) (outer:List Env) (s:Shared) (H:Hp) (vs:List V) (Q:VK) (E:XK),Room k (A.deeper (envOfC qual scope s.heap.objs.size f cdv))→sp vs H Q E→
   ∃ t,PSs (cxOf CX P w K mg base N qual scope f cdv A outer s H E) body t∧t {nx:=fun _ H'=>Q .non H',rt:=Q} (pV N vs) H):
  FnOk P w K mg base CX (k + 1) f (PySem.W.fnOf name qual params body scope dV kV doc pm an cdv ct) ps sp:=by
 refine ⟨len,fun A outer s H args us vs Q E hr e0 hb r hsp=>?_⟩
 have hl:=len _ _ _ _ hsp
 have KX:K.In s.heap:=e0.mod.kin.keeps fun b o e=>(e0.bs b o e).1
 have lim:s.heap.NoLimit:=e0.mod.nolimit.keeps fun b o e=>(e0.bs b o e).1
 have hkind:∀ y∈ps.zip us,scope.names.lookup y.1=some .local∨(scope.names.lookup y.1=some .cell∧((cellsFrom (s.heap.objs.size + 1) scope.names []).lookup y.1).isSome=true):=fun ⟨n,v⟩ hy=>by
  rcases S.par n (List.of_mem_zip hy).1 with q | q
  ·exact .inl q
  ·exact .inr ⟨q,PySem.W.cellsFrom_some _ _ _ (.inl q)⟩
 refine codeAny_call_function hr.depth (KX _ _ lk) rfl S.co S.gen rfl (PySem.W.codeRec_of KX hcd) (hb _ _ _ _ ?_)
 refine wpAny_newFunctionEnv_cells S.kind hkind fun env he s1 x=>?_
 subst he
 refine ⟨lim.keeps x.toInCall.keep,codeAny_func ?_⟩
 obtain ⟨t,ht,hq⟩:=hbody A outer s H vs Q E (hr.deeper _) hsp
 have I:Inv (cxOf CX P w K mg base N qual scope f cdv A outer s H E) [] (pV N vs) H s1:=FD S hr.hd e0 hl r x
 refine wpAny_mono (ht [] s1 (pV N vs) H _ I hq) (fun fl s' hs=>?_) fun e s' hs=>hs
 have fin:∀ {σ':St} {H':Hp} {v:V} {u:Value},Inv (cxOf CX P w K mg base N qual scope f cdv A outer s H E) [] σ' H' s'→RelV v u→Q v H'→CE outer P w H s Q u s':=
  fun {σ' H' v u} J rv q=>⟨v,H',J.os,J.bare,J.base,J.hok,rv,q⟩
 cases fl with
 | ret u=>
   obtain ⟨v,σ',H',J,rv,q⟩:=hs
   exact fin J rv q
 | next=>
   obtain ⟨σ',H',J,q⟩:=hs
   exact fin (v:=V.non) (u:=Value.none) J rfl q
 | brk=>
   obtain ⟨_,_,_,q⟩:=hs
   exact False.elim q
 | cont=>
   obtain ⟨_,_,_,q⟩:=hs
   exact False.elim q
section
variable {X:Cx} {x:Str} {p pos:Pos} {e:Expr} {es:List Expr} {t:TA} {id T:String} {r:List V→Hp→VK→Prop}
noncomputable def tCB (r:List V→Hp→VK→Prop) (t:TA):TE:=fun σ H Q=>t σ H fun vs H1=>r vs H1 Q
theorem aD (hc:jU X (.builtin id) r) (hg:Gl X x) (hm:X.mg x=none) (hv:bootBuiltins x=some (.builtin id)) (ha:PA X (e::es) t) (hn:x≠"__name__":=by decide) (hdb:(x == ("__debug__":Str))=false:=by decide)
  (he:starEach (e::es) X.env=(false,eval e X.env)::starEach es X.env:=by rfl) (hpl:(backTo pos (starEach es X.env)).any (·.1)=false:=by rfl):PE X (.Call (.Name x p) (e::es) [] pos) (tCB r t):=by
 intro pins s σ H Q I h
 refine wpAny_Call_Name_kw (oy I hg hm hv ?_ hn hdb)
 exact PyProof.Rows.callWith_builtin1 (thn (ha pos pins s σ H _ I h) fun us s1 ⟨vs,H1,I1,r1,q1⟩=>hc pins s1 σ H1 vs us Q I1 r1 q1) he hpl
theorem dn (hc:jU X (.type T) r) (hg:Gl X x) (hm:X.mg x=none) (hv:bootBuiltins x=some (.type T)) (ha:PA X (e::es) t) (hn:x≠"__name__":=by decide) (hdb:(x == ("__debug__":Str))=false:=by decide)
  (he:starEach (e::es) X.env=(false,eval e X.env)::starEach es X.env:=by rfl) (hpl:(backTo pos (starEach es X.env)).any (·.1)=false:=by rfl):PE X (.Call (.Name x p) (e::es) [] pos) (tCB r t):=by
 intro pins s σ H Q I h
 refine wpAny_Call_Name_kw (oy I hg hm hv ?_ hn hdb)
 exact PyProof.Rows.callWith_type1 (thn (ha pos pins s σ H _ I h) fun us s1 ⟨vs,H1,I1,r1,q1⟩=>hc pins s1 σ H1 vs us Q I1 r1 q1) he hpl
end
end L2
namespace HT
open PySem PyProof.Rows
end HT
namespace L2
open PySem PySem.Spec PyProof.Rows
noncomputable abbrev TO:=St→Hp→(Option Int→Hp→Prop)→Prop
noncomputable def ixN (n:Nat) (i:Int):Option Nat:=if 0≤i then (if i < n then some i.toNat else none) else if -(n:Int)≤i then some (i + n).toNat else none
noncomputable def atI {α:Type} (xs:List α) (i:Int):Option α:=(ixN xs.length i).bind fun j=>xs[j]?
theorem KQ {n:Nat} {i:Int} {j:Nat} (h:ixN n i=some j):seqIndex? i n=some j∧j < n∧-(n:Int)≤i∧i < n:=by
 unfold ixN at h
 by_cases h0:0≤i
 ·rw [if_pos h0] at h
  by_cases h1:i < n
  ·rw [if_pos h1] at h
   have e:i.toNat=j:=Option.some.inj h
   exact ⟨by rw [seqIndex_of h0 h1,e],by omega,by omega,h1⟩
  ·rw [if_neg h1] at h;cases h
 ·rw [if_neg h0] at h
  by_cases h1: -(n:Int)≤i
  ·rw [if_pos h1] at h
   have e:(i + n).toNat=j:=Option.some.inj h
   exact ⟨by rw [seqIndex_neg (by omega) h1,e],by omega,h1,by omega⟩
  ·rw [if_neg h1] at h;cases h
theorem Gr {α:Type} {xs:List α} {i:Int} {v:α} (h:atI xs i=some v):∃ j,seqIndex? i xs.length=some j∧xs[j]? =some v∧j < xs.length∧-(xs.length:Int)≤i∧i < xs.length:=by
 unfold atI at h
 cases e:ixN xs.length i with
 | none=>rw [e] at h;cases h
 | some j=>
   rw [e] at h
   obtain ⟨h1,h2,h3,h4⟩:=KQ e
   exact ⟨j,h1,h,h2,h3,h4⟩
theorem nZ {α:Type} {xs:List α} {j:Nat} {v:α} (h:xs[j]? =some v):atI xs (j:Int)=some v:=by
 have hj:j < xs.length:=(List.getElem?_eq_some_iff.mp h).1
 have e:ixN xs.length (j:Int)=some j:=by
  unfold ixN
  rw [if_pos (by omega),if_pos (by omega)];simp
 unfold atI;rw [e];exact h
noncomputable def Lj (b:Expr):Prop:=∀ o i,subscripted b false o i=operate [o,i] (getItem o i)
noncomputable def IxR (X:Cx) (r:R2):Prop:=
 ∀ (value slice:Expr) (pins:List (Addr×Obj)) (s:Shared) (σ:St) (H:Hp) (x y:V) (v u:Value) (Q:VK),Inv X pins σ H s→RelV x v→RelV y u→r x y H Q→
  subscripted slice false v u=operate [v,u] (getItem v u)→wpAny (model X.prog X.w) X.A (subscriptTail value slice v u) (EP X pins σ Q) X.xe s
noncomputable def MtR (X:Cx) (id:String) (r:V→List V→Hp→VK→Prop):Prop:=
 ∀ (pins:List (Addr×Obj)) (s:Shared) (σ:St) (H:Hp) (x:V) (xs:List V) (v:Value) (us:List Value) (Q:VK),Inv X pins σ H s→RelV x v→Vals xs us→r x xs H Q→
  wpAny (model X.prog X.w) X.A (call (.builtin id) (v::us)) (EP X pins σ Q) X.xe s
section
variable {X:Cx} {a b:Expr} {ta tb:TE} {pos:Pos}
theorem aV {r:R2} (hr:IxR X r) (ha:PE X a ta) (hb:PE X b tb) (hs:Lj b):PE X (.Subscript a b pos) (tOp r ta tb):=by
 intro pins s σ H Q I h
 exact Subscript_ (binT ha hb I h fun v u s2 x y H2 I2 rx ry q=>hr a b pins s2 σ H2 x y v u Q I2 rx ry q (hs _ _))
noncomputable def rIxL (K:PySem.W.Frag):R2:=fun x y H Q=>∃ p xs i v,x= .ref p∧y= .int i∧SqL K H p xs∧atI xs i=some v∧Q v H
noncomputable def rIxT (K:PySem.W.Frag):R2:=fun x y H Q=>∃ p xs i v,x= .ref p∧y= .int i∧SqT K H p xs∧atI xs i=some v∧Q v H
theorem KP:IxR X (rIxL X.K):=by
 intro value slice pins s σ H x y v u Q I rx ry h hs
 obtain ⟨p,xs,i,z,rfl,rfl,hq,he,q⟩:=h
 cases rx
 obtain ⟨t,rfl⟩:=ry
 obtain ⟨its,r,pl,hz⟩:=I.list hq
 obtain ⟨j,h1,h2,h3,h4,h5⟩:=Gr he
 obtain ⟨w,ew,rw'⟩:=r.get h2
 have hl:=r.length
 have hn:=Fj
 have fin:EP X pins σ Q w s:=⟨z,H,I,rw',q⟩
 by_cases h0:0≤i
 ·have hj:i.toNat=j:=by
   rw [seqIndex_of h0 h5] at h1
   exact Option.some.inj h1
  exact item_listR pl.isList h0 (by omega) (by rw [hj];simpa using ew) fin hs
 ·have hj:(i + (its.toArray.size:Int)).toNat=j:=by
   rw [seqIndex_neg (by omega) h4] at h1
   rw [List.size_toArray,← hl]
   exact Option.some.inj h1
  exact subscriptTail_builtinR (x:=w) pl.isList.typeIs slot_list_getitem.lookup
   (wpAny_getItem_list_neg (Q:=fun r s'=>r=w∧EP X pins σ Q r s') pl.isList (by omega) (by rw [List.size_toArray]<;>omega) (by omega) (by rw [hj];simpa using ew) ⟨rfl,fin⟩) hs
theorem MU:IxR X (rIxT X.K):=by
 intro value slice pins s σ H x y v u Q I rx ry h hs
 obtain ⟨p,xs,i,z,rfl,rfl,hq,he,q⟩:=h
 cases rx
 obtain ⟨t,rfl⟩:=ry
 obtain ⟨its,r,pl,hz⟩:=I.tuple hq
 obtain ⟨j,h1,h2,h3,h4,h5⟩:=Gr he
 obtain ⟨w,ew,rw'⟩:=r.get h2
 have hl:=r.length
 have hn:=Fj
 have fin:EP X pins σ Q w s:=⟨z,H,I,rw',q⟩
 exact subscriptTail_builtinR (x:=w) pl.typeIs slot_tuple_getitem.lookup
  (getItem_tuple (j:=j) (Q:=fun r s'=>r=w∧EP X pins σ Q r s') pl (by omega) (by omega) (by rw [List.size_toArray,← hl];exact h1) (by simpa using ew) ⟨rfl,fin⟩) hs
noncomputable def rg:V→Bool
 | .non=>true
 | .bl _=>true
 | .int _=>true
 | .str _=>true
 | _=>false
noncomputable def eqV:V→V→Bool
 | .non,.non=>true
 | .bl a,.bl b=>a == b
 | .bl a,.int b=>(if a then 1 else 0) == b
 | .int a,.bl b=>a == (if b then 1 else 0)
 | .int a,.int b=>a == b
 | .str a,.str b=>a == b
 | _,_=>false
theorem M4 {A:Around} {s:Shared} {y x:V} {u v:Value} (ry:RelV y u) (rx:RelV x v) (fy:rg y=true) (fx:rg x=true):SeqAt.EqAt A s u v (eqV y x):=by
 cases y with
 | non=>
   cases ry
   cases x with
   | non=>cases rx;exact SeqAt.EqAt.same _
   | bl b=>cases rx;exact SeqAt.EqAt.none_bool b
   | int b=>obtain ⟨t,rfl⟩:=rx;exact SeqAt.EqAt.none_int b t
   | str b=>obtain ⟨t,rfl⟩:=rx;exact SeqAt.EqAt.none_str b t
   | _=>exact absurd (show false=true from fx) Bool.false_ne_true
 | bl a=>
   cases ry
   cases x with
   | non=>cases rx;exact SeqAt.EqAt.bool_none a
   | bl b=>cases rx;exact SeqAt.EqAt.bool_bool a b
   | int b=>obtain ⟨t,rfl⟩:=rx;exact SeqAt.EqAt.bool_int a b t
   | str b=>obtain ⟨t,rfl⟩:=rx;exact SeqAt.EqAt.bool_str a b t
   | _=>exact absurd (show false=true from fx) Bool.false_ne_true
 | int a=>
   obtain ⟨t',rfl⟩:=ry
   cases x with
   | non=>cases rx;exact SeqAt.EqAt.int_none a t'
   | bl b=>cases rx;exact SeqAt.EqAt.int_bool a t' b
   | int b=>obtain ⟨t,rfl⟩:=rx;exact SeqAt.EqAt.int_int a t' b t
   | str b=>obtain ⟨t,rfl⟩:=rx;exact SeqAt.EqAt.int_str a t' b t
   | _=>exact absurd (show false=true from fx) Bool.false_ne_true
 | str a=>
   obtain ⟨t',rfl⟩:=ry
   cases x with
   | non=>cases rx;exact SeqAt.EqAt.str_none a t'
   | bl b=>cases rx;exact SeqAt.EqAt.str_bool a t' b
   | int b=>obtain ⟨t,rfl⟩:=rx;exact SeqAt.EqAt.str_int a t' b t
   | str b=>obtain ⟨t,rfl⟩:=rx;exact SeqAt.EqAt.str_str a t' b t
   | _=>exact absurd (show false=true from fx) Bool.false_ne_true
 | _=>exact absurd (show false=true from fy) Bool.false_ne_true
theorem yg:jU X (.type "list") (fun xs H Q=>∃ p ys,xs=[.ref p]∧(SqL X.K H p ys∨SqT X.K H p ys)∧∀ l,H l=none→Q (.ref l) (upd H l (.lst ys))):=by
 intro pins s σ H xs us Q I r h
 obtain ⟨p,ys,rfl,hq,q⟩:=h
 obtain ⟨u,rfl,rx⟩:=uq r
 cases rx
 have fin:∀ (its:List Value),Vals ys its→ys.length≤sizeLine→∀ (h':Heap) (c':Nat),(∀ b o',s.heap.get? b=some o'→h'.get? b=some o')→
   h'.get? s.heap.objs.size=some {cls:= .type "list",dict:=none,data:= .seq its.toArray c',slots:=#[]}→EP X pins σ Q (.ref s.heap.objs.size) {s with heap:=h'}:=fun its r' hz h' c' kp e=>
  ⟨.ref s.heap.objs.size,_,I.laid (t':=s.toks) kp (Nat.le_refl _) (show eW X.prog X.w _ h' _ (.lst ys) from ⟨hz,its,c',r',e⟩),rfl,q _ (I.hok.fresh (Nat.le_refl _))⟩
 rcases hq with hq | hq
 ·obtain ⟨its,r',pl,hz⟩:=I.list hq
  have hlen:=r'.length
  obtain ⟨o,ho,hc,n,hd⟩:=pl.isList
  exact call_list_seq p (.inl rfl) ho hc hd (fun h' c' kp e=>fin its r' hz h' c' kp e) (by simp only [List.size_toArray]<;>omega)
 ·obtain ⟨its,r',pl,hz⟩:=I.tuple hq
  have hlen:=r'.length
  obtain ⟨o,ho,hc,n,hd⟩:=pl
  exact call_list_seq p (.inr rfl) ho hc hd (fun h' c' kp e=>fin its r' hz h' c' kp e) (by simp only [List.size_toArray]<;>omega)
theorem wb:jU X (.type "tuple") (fun xs H Q=>∃ p ys,xs=[.ref p]∧((SqL X.K H p ys∧∀ l,H l=none→Q (.ref l) (upd H l (.tup ys)))∨(SqT X.K H p ys∧Q (.ref p) H))):=by
 intro pins s σ H xs us Q I r h
 obtain ⟨p,ys,rfl,h⟩:=h
 obtain ⟨u,rfl,rx⟩:=uq r
 cases rx
 rcases h with ⟨hq,q⟩ | ⟨hq,q⟩
 ·obtain ⟨its,r',pl,hz⟩:=I.list hq
  have hlen:=r'.length
  refine call_tuple_list pl.isList (fun h' kp=>?_) (by simp only [List.size_toArray]<;>omega)
  have I1:Inv X pins σ H {s with heap:=h'}:=I.kept (t':=s.toks) kp
  have I2:Inv X pins σ (upd H h'.objs.size (.tup ys)) {s with heap:=h'.push {cls:= .type "tuple",data:= .seq its.toArray}}:=
   I1.laid (t':=s.toks) (fun b o e=>Heap.get?_push_of_some _ e) (Nat.le_refl _) (show eW X.prog X.w _ _ _ (.tup ys) from ⟨hz,its,r',IsTup.new _ _⟩)
  exact ⟨.ref h'.objs.size,_,I2,rfl,q _ (I1.hok.fresh (Nat.le_refl _))⟩
 ·obtain ⟨its,r',pl,hz⟩:=I.tuple hq
  exact call_tuple_same pl ⟨.ref p,H,I,rfl,q⟩
noncomputable def tyV (K:PySem.W.Frag) (T:String) (x:V) (H:Hp):Prop:=match x with
 | .str _=>T="str"
 | .int _=>T="int"
 | .ref p=>(T="list"∧∃ xs,SqL K H p xs)∨(T="tuple"∧∃ o,K.lookup p=some o∧o.cls= .type "tuple"∧o.dict=none)∨
   (T="dict"∧((∃ kvs,H p=some (.dK kvs))∨∃ kvs,H p=some (.dT kvs)))∨(T="set"∧∃ S n,H p=some (.set S n))
 | _=>False
theorem IJ {pins:List (Addr×Obj)} {σ:St} {H:Hp} {s:Shared} {T:String} {x:V} {v:Value} (I:Inv X pins σ H s) (r:RelV x v) (ty:tyV X.K T x H):
  s.TypeIs v T∧∀ a,v= .ref a→∃ ob,s.heap.get? a=some ob∧ob.dict=none:=by
 cases x with
 | str z=>
   obtain ⟨t,rfl⟩:=r
   cases (show T="str" from ty)
   exact ⟨typeIs_str s z t,fun _ e=>nomatch e⟩
 | int i=>
   obtain ⟨t,rfl⟩:=r
   cases (show T="int" from ty)
   exact ⟨typeIs_int s i t,fun _ e=>nomatch e⟩
 | ref p=>
   cases r
   rcases ty with ⟨rfl,xs,hq⟩ | ⟨rfl,o,hk,hc,hd⟩ | ⟨rfl,hk⟩ | ⟨rfl,S,n,hk⟩
   ·obtain ⟨its,_,pl,_⟩:=I.list hq
    refine ⟨pl.isList.typeIs,fun a e=>?_⟩
    cases e
    obtain ⟨o,n,e,c,hd,_⟩:=pl
    exact ⟨o,e,hd⟩
   ·refine ⟨⟨o,I.kIn p o hk,hc⟩,fun a e=>?_⟩
    cases e
    exact ⟨o,I.kIn _ o hk,hd⟩
   ·have z:∃ o,s.heap.get? p=some o∧o.ExactDict:=by
     rcases hk with ⟨kvs,hk⟩ | ⟨kvs,hk⟩
     ·obtain ⟨_,_,_,_,o,_,_,e,ex,_⟩:=I.hok p _ hk
      exact ⟨o,e,ex⟩
     ·obtain ⟨_,_,_,_,o,_,_,e,ex,_⟩:=I.hok p _ hk
      exact ⟨o,e,ex⟩
    obtain ⟨o,e,ex⟩:=z
    refine ⟨⟨o,e,ex.1⟩,fun a e2=>?_⟩
    cases e2
    exact ⟨o,e,ex.2.1⟩
   ·obtain ⟨o,_,_,_,e,ex,_⟩:=I.hok p _ hk
    refine ⟨⟨o,e,ex.1⟩,fun a e2=>?_⟩
    cases e2
    exact ⟨o,e,ex.2.1⟩
 | _=>exact False.elim ty
noncomputable def tBM0 (K:PySem.W.Frag) (T:String) (r:V→List V→Hp→VK→Prop) (to:TE):TE:=fun σ H Q=>to σ H fun x H1=>tyV K T x H1∧r x [] H1 Q
noncomputable def tBM (K:PySem.W.Frag) (T:String) (r:V→List V→Hp→VK→Prop) (to:TE) (t:TA):TE:=fun σ H Q=>to σ H fun x H1=>tyV K T x H1∧t σ H1 fun xs H2=>r x xs H2 Q
variable {o e:Expr} {es:List Expr} {to:TE} {t:TA} {name:Str} {apos cpos:Pos} {T id:String} {r:V→List V→Hp→VK→Prop}
theorem MB (pa:PlainAttrs T) (slot:Slot T name id) (hty:typeOf (.builtin id)=pure (.type "method_descriptor")) (hm:MtR X id r) (ho:PE X o to)
  (hbase:attributeBase o name X.env (eval o X.env)=eval o X.env:=by rfl) (hline:(apos.endLine == cpos.line)=true:=by rfl):PE X (.Call (.Attribute o name apos) [] [] cpos) (tBM0 X.K T r to):=by
 intro pins s σ H Q I h
 refine wpAny_Call_method0_late hbase hline (thn (ho pins s σ H _ I h) fun v s1 ⟨x,H1,I1,r1,ty,q1⟩=>?_)
 obtain ⟨h1,h2⟩:=IJ I1 r1 ty
 exact ⟨T,id,pa,slot,hty,h1,h2,Calls.callWith_builtin rfl (PySem.evalArgs_none (hm pins s1 σ H1 x [] v [] Q I1 r1 .nil q1))⟩
theorem NV (pa:PlainAttrs T) (slot:Slot T name id) (hty:typeOf (.builtin id)=pure (.type "method_descriptor")) (hm:MtR X id r) (ho:PE X o to) (ha:PA X (e::es) t)
  (hbase:attributeBase o name X.env (eval o X.env)=eval o X.env:=by rfl)
  (hfew:((backTo cpos (starEach (e::es) X.env)).all (fun x=> !x.1)&&(backToKw cpos (keywordEach [] X.env)).all (fun x=>x.1.isSome)
   &&decide ((e::es).length + ([]:List Keyword).length + (if ([]:List Keyword).isEmpty then 0 else 1) < 30))=true:=by rfl)
  (hline:(apos.endLine == cpos.line)=true:=by rfl) (hs:starEach (e::es) X.env=(false,eval e X.env)::starEach es X.env:=by rfl) (hplain:(backTo cpos (starEach es X.env)).any (·.1)=false:=by rfl):
  PE X (.Call (.Attribute o name apos) (e::es) [] cpos) (tBM X.K T r to t):=by
 intro pins s σ H Q I h
 refine wpAny_Call_method_late hbase hfew hline rfl (thn (ho pins s σ H _ I h) fun v s1 ⟨x,H1,I1,r1,ty,q1⟩=>?_)
 obtain ⟨h1,h2⟩:=IJ I1 r1 ty
 refine ⟨T,id,pa,slot,hty,h1,h2,?_⟩
 have hA:=ha cpos pins s1 σ H1 _ I1 q1
 rw [hs] at hA ⊢
 refine Calls.callWith_builtin (by show (false||(backTo cpos (starEach es X.env)).any (·.1))=false;rw [hplain]<;>rfl) (Calls.evalArgs_plain ?_)
 exact thn hA fun us s2 ⟨vs,H2,I2,r2,q2⟩=>hm pins s2 σ H2 x vs v us Q I2 r1 r2 q2
end
noncomputable def MtM (X:Cx) (id:String) (r:V→List V→Hp→VK→Prop):Prop:=
 ∀ (pins:List (Addr×Obj)) (s:Shared) (σ:St) (H:Hp) (x:V) (xs:List V) (v:Value) (us:List Value) (Q:VK),Inv X pins σ H s→RelV x v→Vals xs us→r x xs H Q→
  wpAny (model X.prog X.w) X.A (call (.builtin id) (v::us)) (EP X pins σ Q) X.xe s
theorem Vals.one:∀ {x:V} {us:List Value},Vals [x] us→∃ u,us=[u]∧RelV x u
 | _,_,.cons r .nil=>⟨_,rfl,r⟩
theorem Vals.zero:∀ {us:List Value},Vals [] us→us=[]
 | _,.nil=>rfl
theorem Vals.dropLast {xs:List V} {us:List Value} (h:Vals xs us):Vals xs.dropLast us.dropLast:=by
 induction h with
 | nil=>exact .nil
 | cons r t ih=>
   cases t with
   | nil=>exact .nil
   | cons q t'=>exact .cons r ih
theorem CS {α:Type} (l:List α):l.eraseIdx (l.length - 1)=l.dropLast:=by
 induction l with
 | nil=>rfl
 | cons a r ih=>
   cases r with
   | nil=>rfl
   | cons b r=>
     have e:(a::b::r).length - 1=((b::r).length - 1) + 1:=by
      have h1:(a::b::r).length=r.length + 2:=rfl
      have h2:(b::r).length=r.length + 1:=rfl
      omega
     rw [e,List.eraseIdx_cons_succ,ih]
     all_goals rfl
section
variable {X:Cx} {pins:List (Addr×Obj)} {σ:St} {H:Hp} {s:Shared} {l b:Addr} {xs ys zs:List V}
theorem Inv.lset {its its':List Value} {n:Nat} {f:Array Value→Array Value} {t':Nat} (I:Inv X pins σ H s) (hH:H l=some (.lst xs))
  (e:s.heap.get? l=some {cls:= .type "list",data:= .seq its.toArray n}) (hf:f its.toArray=its'.toArray) (hv:Vals ys its') (hz:ys.length≤sizeLine):
  Inv X pins σ (upd H l (.lst ys)) {s with heap:=s.heap.update l (Obj.mapSeq f),toks:=t'}:=by
 have q:=PySem.IsL.update e f
 rw [hf] at q
 refine I.write (x:=l) (e:=l) (by rw [hH];exact trivial) (.inl rfl) (fun b' u hb hu=>(Heap.get?_update_other s.heap (Obj.mapSeq f) (Ne.symm hb)).trans hu) ⟨_,q⟩ ?_
 exact ⟨hz,its',_,hv,q⟩
theorem Inv.lnew {its:List Value} {t':Nat} (I:Inv X pins σ H s) (hv:Vals ys its) (hz:ys.length≤sizeLine):
  Inv X pins σ (upd H s.heap.objs.size (.lst ys)) {s with heap:=s.heap.push {cls:= .type "list",data:= .seq its.toArray},toks:=t'}:=
 I.laid (fun _ _ q=>Heap.get?_push_of_some _ q) (Nat.le_refl _) ⟨hz,its,0,hv,Heap.get?_push_size _ rfl⟩
theorem Inv.fresh (I:Inv X pins σ H s):H s.heap.objs.size=none:=I.hok.fresh (Nat.le_refl _)
theorem Inv.lstM (I:Inv X pins σ H s) (hH:H l=some (.lst xs)):xs.length≤sizeLine∧∃ (its:List Value) (n:Nat),Vals xs its∧xs.length=its.length∧s.heap.get? l=some {cls:= .type "list",data:= .seq its.toArray n}:=by
 obtain ⟨z,its,n,r,e⟩:=I.hok l _ hH
 exact ⟨z,its,n,r,r.length,e⟩
theorem HG {n:Nat} (h:n≤sizeLine):Builtin.List.listTooLong n=false:=by
 unfold Builtin.List.listTooLong
 exact decide_eq_false (by omega)
end
section
variable {X:Cx}
noncomputable def EM:V→List V→Hp→VK→Prop:=fun x vs H Q=>∃ l xs y,x= .ref l∧vs=[y]∧H l=some (.lst xs)∧xs.length < sizeLine∧Q .non (upd H l (.lst (xs++[y])))
theorem dW:MtM X "list.append" EM:=by
 intro pins s σ H x vs v us Q I rx rv h
 obtain ⟨l,xs,y,rfl,rfl,hH,hz,q⟩:=h
 cases rx
 obtain ⟨u,rfl,ru⟩:=rv.one
 obtain ⟨z,its,n,r,hl,e⟩:=I.lstM hH
 refine call_meets F.slot_list_append ⟨_,e,rfl⟩ F.entry_list_append (F.args_list_append_2 _ _) (PySem.list_append l its.toArray n u (by rw [List.size_toArray];omega)) ⟨e,?_⟩
 refine ⟨.non,_,I.lset (its':=its++[u]) hH e (by simp) (r.append (.cons ru .nil)) ?_,rfl,q⟩
 rw [List.length_append,List.length_singleton]
 omega
noncomputable def EL:V→List V→Hp→VK→Prop:=fun x vs H Q=>∃ l b xs zs,x= .ref l∧vs=[.ref b]∧H l=some (.lst xs)∧H b=some (.lst zs)∧xs.length + zs.length≤sizeLine∧Q .non (upd H l (.lst (xs++zs)))
theorem Fd:MtM X "list.extend" EL:=by
 intro pins s σ H x vs v us Q I rx rv h
 obtain ⟨l,b,xs,zs,rfl,rfl,hH,hB,hz,q⟩:=h
 cases rx
 obtain ⟨u,rfl,ru⟩:=rv.one
 cases ru
 obtain ⟨z,its,n,r,hl,e⟩:=I.lstM hH
 obtain ⟨z2,its2,n2,r2,hl2,e2⟩:=I.lstM hB
 have hsz:its.toArray.size + its2.toArray.size≤sizeLine:=by rw [List.size_toArray,List.size_toArray];omega
 have hlong:¬ (!its.toArray.isEmpty&&Builtin.List.listTooLong (its.toArray.size + its2.toArray.size))=true:=by
  rw [HG hsz,Bool.and_false]
  exact Bool.false_ne_true
 refine call_meets F.slot_list_extend ⟨_,e,rfl⟩ F.entry_list_extend (F.args_list_extend_2 _ _)
  (AutoSeq1.list_extend_list_list_0 l its.toArray n b its2.toArray n2 hlong (by rw [List.size_toArray];omega) (by omega)) ⟨e,e2,?_⟩
 refine ⟨.non,_,I.lset (its':=its++its2) hH e (by simp) (r.append r2) ?_,rfl,q⟩
 rw [List.length_append]
 omega
noncomputable def rPop:V→List V→Hp→VK→Prop:=fun x vs H Q=>∃ l xs y,x= .ref l∧vs=[]∧H l=some (.lst xs)∧xs[xs.length - 1]? =some y∧Q y (upd H l (.lst xs.dropLast))
theorem MM:MtM X "list.pop" rPop:=by
 intro pins s σ H x vs v us Q I rx rv h
 obtain ⟨l,xs,y,rfl,rfl,hH,hy,q⟩:=h
 cases rx
 have hus:=rv.zero
 subst hus
 obtain ⟨z,its,n,r,hl,e⟩:=I.lstM hH
 obtain ⟨u,hu,ru⟩:=r.get hy
 have hy':its.toArray[its.toArray.size - 1]? =some u:=by
  show its.toArray[its.length - 1]? =some u
  rw [← Array.getElem?_toList,← hl]
  exact hu
 refine call_meets F.slot_list_pop ⟨_,e,rfl⟩ F.entry_list_pop (F.args_list_pop_1 _) (MeetsSeq.list_pop_last l its.toArray n u hy' (by rw [List.size_toArray];omega)) ⟨e,?_⟩
 refine ⟨y,_,I.lset (its':=its.dropLast) hH e ?_ r.dropLast ?_,ru,q⟩
 ·show its.toArray.eraseIdxIfInBounds (its.toArray.size - 1)=its.dropLast.toArray
  rw [List.size_toArray,List.eraseIdxIfInBounds_toArray,CS]
 ·rw [List.length_dropLast]
  omega
noncomputable def IZ:V→List V→Hp→VK→Prop:=fun x vs H Q=>∃ l xs,x= .ref l∧vs=[]∧H l=some (.lst xs)∧Q .non (upd H l (.lst []))
theorem Be:MtM X "list.clear" IZ:=by
 intro pins s σ H x vs v us Q I rx rv h
 obtain ⟨l,xs,rfl,rfl,hH,q⟩:=h
 cases rx
 have hus:=rv.zero
 subst hus
 obtain ⟨z,its,n,r,hl,e⟩:=I.lstM hH
 refine call_meets F.slot_list_clear ⟨_,e,rfl⟩ F.entry_list_clear (F.args_list_clear_1 _) (AutoSeq1.list_clear_list_0 l its.toArray n (by rw [List.size_toArray];omega)) ⟨e,?_⟩
 exact ⟨.non,_,I.lset (its':=[]) (ys:=[]) hH e rfl .nil (Nat.zero_le _),rfl,q⟩
noncomputable def rCat:R2:=fun x y H Q=>∃ l b xs zs,x= .ref l∧y= .ref b∧H l=some (.lst xs)∧H b=some (.lst zs)∧xs.length + zs.length≤sizeLine∧∀ p,H p=none→Q (.ref p) (upd H p (.lst (xs++zs)))
theorem E3:OpR X (binaryOp .Add) rCat:=by
 intro pins s σ H x y v u Q I rx ry h
 obtain ⟨l,b,xs,zs,rfl,rfl,hH,hB,hz,q⟩:=h
 cases rx
 cases ry
 obtain ⟨z,its,n,r,hl,e⟩:=I.lstM hH
 obtain ⟨z2,its2,n2,r2,hl2,e2⟩:=I.lstM hB
 refine PySem.P.add_list e e2 ?_ (by rw [List.size_toArray,List.size_toArray];omega)
 have ea:its.toArray++its2.toArray=(its++its2).toArray:=by simp
 rw [ea]
 exact ⟨.ref _,_,I.lnew (t':=s.toks) (r.append r2) (by rw [List.length_append];omega),rfl,q _ I.fresh⟩
end
end L2
namespace Att
open PySem PySem.W PySem.Calls PyProof.Rows
theorem re {P:Params} {h:Heap}:∀ (ns:List Int) (vs:List Value),WellAll P h vs (ns.map WData.int)→IntsAre vs ns:=by
 intro ns
 induction ns with
 | nil=>
   intro vs w
   rw [List.map_nil] at w
   cases w
   exact .nil
 | cons n ns ih=>
   intro vs w
   rw [List.map_cons] at w
   cases w with
   | cons a b=>
     cases a
     exact .cons _ _ (ih _ b)
theorem EB {l:OpenLaw} {n:Nat} (hn:l.most=some n) {P:Params} {h:Heap} {args:List WData} {vals:List Value}
  (hpre:l.row.toRowW.claim.pre args=true) (hwl:WellAll P h vals args):
  ∃ a vs ns,vals=[Value.ref a]∧args=[WData.list (ns.map WData.int)]∧h.get? a=some {cls:= .type "list",data:= .seq vs.toArray}∧IntsAre vs ns∧ns.length≤n:=by
 have hsh:WShape.hasAll [] args [.list .int]=true:=(pre_splitW hpre).1
 have hc:l.pre.holds [] {args:=args}=true:=(pre_splitW hpre).2
 obtain ⟨d,r,rfl,h1,h2⟩:=hasAllW_cons hsh
 obtain rfl:=hasAllW_nil h2
 obtain ⟨xs,rfl,h3⟩:=hasW_list h1
 obtain ⟨ns,rfl⟩:=items_int h3
 have hlen:ns.length≤n:=by
  unfold OpenLaw.pre at hc
  have h4:(WTm.not (.lt (.lit (.int (n:Int))) (.len (.arg 0)))).holds [] {args:=[.list (ns.map .int)]}=true:=by
   have h4:=(holds_andW hc).1
   rw [hn] at h4
   exact h4
  have h5:=condW_of h4 (w_not (w_lt w_lit (w_len_list (w_arg rfl))))
  rw [List.length_map] at h5
  refine Nat.le_of_not_lt fun q=>?_
  have q':(n:Int) < ((ns.length:Nat):Int):=by omega
  first
   | (rw [decide_eq_true q'] at h5;exact absurd h5 (by decide))
   | (simp at h5;omega)
 cases hwl with
 | cons w1 w2=>
   cases w2
   cases w1 with
   | list ho hall=>exact ⟨_,_,ns,rfl,rfl,ho,re ns _ hall,hlen⟩
theorem ER (l:OpenLaw) (args:List WData):l.row.toRowW.claim.post args (.bool true) args=true:=
 postW_of (r:=l.row.toRowW) (X:=(true == true))
  (show WShape.has [] (.bool true) .bool=true by first | rfl | decide | simp [WShape.has,WShape.arms,WShape.armsAll])
  (show (WTm.eq .res (.lit (.bool true))).value [] {args:=args,res:=some (.bool true),after:=args}=some (.bool (true == true)) from w_eq_bool (w_res rfl) w_lit) rfl
theorem attach_call {l:OpenLaw} {n:Nat} {q:Program} {loose:List Str} {XP:(Str→Option Value)→Heap→Prop} {YP:World→Heap→Prop} {d:DefRec}
  (hn:l.most=some n) (hdf:d.params.defaults=[])
  (call:∀ (w:World) (s₀ s₁:Shared) (mg mb:Str→Option Value) (fa:Addr) (o:Obj) (pm cd doc:Value) (a:Addr) (vs:List Value) (ns:List Int),
   Ground q loose [] XP w s₀ mg mb s₁.heap→YP w s₁.heap→
   s₁.heap.get? fa=some o→o.data= .func (docDef d.name d.params d.body d.scope pm cd doc)→s₁.heap.CodeRec cd d.name→mg d.name=some (.ref fa)→
   s₁.heap.get? a=some {cls:= .type "list",data:= .seq vs.toArray}→IntsAre vs ns→ns.length≤n→s₁.gens=#[]→
   codeAny (model l.prog w) callerA (.call (.ref fa) ⟨[.ref a],[]⟩) (fun r s'=>r= .ok (.ret (.bool true))∧OldK s₁.heap s'.heap∧s'.os=s₁.os∧AllBare s'.gens) s₁):
  WalkO q loose XP YP l.row.toRowW d [] (fun f vs=>PySem.call f vs):=by
 intro w s₀ s₁ mg mb G Y fa o pm cd doc dV kV ho hd hcd hD hmg hg args vals as hpre hlay hrd hwl hlo
 obtain rfl:dV= .none:=Dflts.none hD hdf
 obtain rfl:kV= .none:=Dflts.noKw hD
 obtain ⟨a,vs,ns,rfl,rfl,hobj,hints,hlen⟩:=EB hn hpre hwl
 refine enter_call (codeAny_mono (call w s₀ s₁ mg mb fa o pm cd doc a vs ns G Y ho (fd_plain hd) hcd hmg hobj hints hlen hg) fun r s' hq=>?_)
 obtain ⟨rfl,h2,h3,h4⟩:=hq
 exact ⟨.inl ⟨.bool true,.bool true,[],rfl,fun _=>rfl,.bool true,ER l _,fun _=>⟨List.Pairwise.nil,fun _ hm=>(nomatch hm)⟩⟩,h2,h3,h4⟩
section
variable {prog:Program} {w:World} {A:Around} {E:Value→Shared→Prop} {s:Shared} {K:Frag}
noncomputable def Oa (h:Heap):Heap:={h with objs:=#[]}
end
end Att
namespace L2
open PySem PySem.Spec PyProof.Rows
theorem pS:∀ {vs:List Value} {ns:List Int},IntsAre vs ns→Vals (ns.map V.int) vs
 | _,_,.nil=> .nil
 | _,_,.cons n t h=> .cons ⟨t,rfl⟩ (pS h)
noncomputable def Only (H:Hp):Prop:=∀ b,H b=none∨∃ o xs,H b=some (.frz o (.lst xs))
theorem HS {P:Program} {w:World} {K:PySem.W.Frag} {mg mb:Str→Option Value} {CX:CXT} {k:Nat} {fa a:Addr} {fd:FuncData} {x:Str} {sp:Sp} {s₁:Shared} {vs:List Value} {ns:List Int}
  (KX:K.In s₁.heap) (hns:s₁.heap.Ns mainGlobals mg) (hb:s₁.heap.Ns builtinsNs mb) (hbb:∀ x:Str,x≠"__name__"→mb x=bootBuiltins x) (hlim:s₁.heap.NoLimit) (hg:s₁.gens=#[])
  (ha:s₁.heap.get? a=some {cls:= .type "list",data:= .seq vs.toArray}) (hi:IntsAre vs ns) (hl:ns.length≤sizeLine) (hr:Room k callerA)
  (F:∀ base:Heap,K.In base→base.Ns mainGlobals mg→FnOk P w K mg base CX k fa fd [x] sp) (hbind:∀ (s:Shared) (u:Value),BindsTo s fd ⟨[u],[]⟩ [(x,u)])
  (hsp:∀ H:Hp,Only H→SqL K H a (ns.map V.int)→sp [.ref a] H (fun v _=>v= .bl true) fun _ _ _=>False)
  (hCX:∀ H e s',CX [] H s₁ (fun _ _ _=>False) e s'→False):
  codeAny (model P w) callerA (.call (.ref fa) ⟨[.ref a],[]⟩) (fun r s'=>r= .ok (.ret (.bool true))∧OldK s₁.heap s'.heap∧s'.os=s₁.os∧AllBare s'.gens) s₁:=by
 have rv:=pS hi
 have lenV:=hi.length
 have core:∀ H:Hp,Only H→SqL K H a (ns.map V.int)→HOk P w H s₁.heap→(∀ b,H b≠none→b=a)→(H a≠none→K.lookup a=none)→
   codeAny (model P w) callerA (.call (.ref fa) ⟨[.ref a],[]⟩) (fun r s'=>r= .ok (.ret (.bool true))∧OldK s₁.heap s'.heap∧s'.os=s₁.os∧AllBare s'.gens) s₁:=by
  intro H hO hS hok hA hK
  have base_of:∀ {b:Addr} {o:Obj},s₁.heap.get? b=some o→H b=none→(hidT s₁.heap H).get? b=some o:=fun e n=>Ic e n
  have noA:∀ {b:Addr} {o:Obj} {es:Array DictEntry} {ep:Nat},s₁.heap.get? b=some o→o.data= .dict es ep→H b=none:=fun {b o es ep} e d=>by
   cases q:H b with
   | none=>rfl
   | some u=>
     have e':b=a:=hA b (by rw [q];simp)
     subst e'
     rw [ha] at e;cases e
     have d':Data.seq vs.toArray _=Data.dict es ep:=d
     cases d'
  have nsK:∀ {b:Addr} {m:Str→Option Value},s₁.heap.Ns b m→(hidT s₁.heap H).Ns b m:=fun {b m} ⟨o,es,ep,e,d,r⟩=>⟨o,es,ep,base_of e (noA e d),d,r⟩
  have hKb:K.In (hidT s₁.heap H):=fun b o e=>base_of (KX b o e) (by
   cases q:H b with
   | none=>rfl
   | some u=>
     have e':b=a:=hA b (by rw [q];simp)
     subst e'
     rw [hK (by rw [q];simp)] at e;cases e)
  have hM:Mod K mg (hidT s₁.heap H):=⟨hKb,nsK hns,⟨mb,nsK hb,hbb⟩,let ⟨mc,h1,h2⟩:=hlim;⟨mc,nsK h1,h2⟩⟩
  have e0:Env0 P w K mg (hidT s₁.heap H) callerA [] s₁ H:=⟨rfl,hM,fun b o e=>KC e,Nat.le_of_eq (FG _ _),trivial,fun b hb=>absurd (show b∈([]:List Addr) from hb) (by simp),hok,.of_eq hg⟩
  refine codeAny_mono ((F _ hKb (nsK hns)).run callerA [] s₁ H ⟨[.ref a],[]⟩ [.ref a] [.ref a] _ _ hr e0 (hbind s₁ (.ref a)) (.cons rfl .nil) (hsp H hO hS)) fun r s' h=>?_
  cases r with
  | error e=>exact (hCX H e s' h).elim
  | ok fl=>
    cases fl with
    | next=>exact False.elim h
    | brk=>exact False.elim h
    | cont=>exact False.elim h
    | ret u=>
      obtain ⟨v,H',os,bare,un,hok',r',q⟩:=h
      have q':v= .bl true:=q
      subst q'
      obtain rfl:u=Value.bool true:=r'
      refine ⟨rfl,OldK.of_keep fun b o e=>?_,os,bare⟩
      cases q:H b with
      | none=>exact un.keep b o e q (by intro z;exact absurd (show b∈([]:List Addr) from z) (by simp)) (by simp)
      | some u=>
        rcases hO b with z | ⟨ob,xs,z⟩
        ·rw [q] at z;cases z
        ·have z2:=un.frzs b ob _ z
         obtain ⟨e1,_⟩:=hok b _ z
         obtain ⟨e2,_⟩:=hok' b _ z2
         rw [e] at e1;cases e1
         exact e2
 cases hk:K.lookup a with
 | some o=>
   have e:=KX a o hk
   rw [ha] at e
   cases e
   refine core (fun _=>none) (fun _=> .inl rfl) (.inr ⟨_,vs.toArray,_,hk,rfl,rfl,rfl,by rw [List.size_toArray,lenV];exact hl,by simpa using rv⟩) (fun b u z=>by have z':(none:Option HO)=some u:=z;cases z') (fun b z=>absurd rfl z) fun z=>absurd rfl z
 | none=>
   refine core (fun b=>if b=a then some (.frz {cls:= .type "list",data:= .seq vs.toArray} (.lst (ns.map V.int))) else none) (fun b=>?_) (.inl (.inr ⟨{cls:= .type "list",data:= .seq vs.toArray},if_pos rfl⟩)) (fun b u z=>?_) (fun b z=>?_) fun _=>hk
   ·by_cases hb:b=a
    ·exact .inr ⟨_,_,if_pos hb⟩
    ·exact .inl (if_neg hb)
   ·by_cases hb:b=a
    ·have z':=(if_pos hb).symm.trans z
     cases z'
     subst hb
     exact ⟨ha,by rw [List.length_map];exact hl,vs,_,rv,ha⟩
    ·have z':=(if_neg hb).symm.trans z
     cases z'
   ·by_cases hb:b=a
    ·exact hb
    ·exact absurd (if_neg hb) z
theorem walk_of {l:PySem.W.OpenLaw} {n k:Nat} {q:Program} {loose:List Str} {XP:(Str→Option Value)→Heap→Prop} {YP:World→Heap→Prop} {d:DefRec} {K:Params→PySem.W.Frag} {CX:World→CXT} {sp:World→Sp} {x:Str}
  (hn:l.most=some n) (hn2:n≤sizeLine) (hdf:d.params.defaults=[]) (hr:Room k callerA)
  (hY:∀ (w:World) (h:Heap),YP w h→(K w.params).In h)
  (F:∀ (w:World) (mg:Str→Option Value) (fa:Addr) (h:Heap),(K w.params).In h→h.Ns mainGlobals mg→mg d.name=some (.ref fa)→
   ∃ fd:FuncData,(∀ (s:Shared) (u:Value),BindsTo s fd ⟨[u],[]⟩ [(x,u)])∧
     ∀ base:Heap,(K w.params).In base→base.Ns mainGlobals mg→FnOk l.prog w (K w.params) mg base (CX w) k fa fd [x] (sp w))
  (hsp:∀ (w:World) (H:Hp) (a:Addr) (ns:List Int),ns.length≤n→Only H→SqL (K w.params) H a (ns.map V.int)→sp w [.ref a] H (fun v _=>v= .bl true) fun _ _ _=>False)
  (hCX:∀ (w:World) (H:Hp) (s:Shared) (e:Value) (s':Shared),CX w [] H s (fun _ _ _=>False) e s'→False):
  PySem.W.WalkO q loose XP YP l.row.toRowW d [] (fun f vs=>PySem.call f vs):=by
 refine Att.attach_call hn hdf fun w s₀ s₁ mg mb fa o pm cd doc a vs ns G Y ho hd hcd hmg hobj hints hlen hg=>?_
 have KX:=hY w _ Y
 obtain ⟨fd,hb,hF⟩:=F w mg fa _ KX G.T.g hmg
 exact HS KX G.T.g G.T.b G.T.builtins G.T.nolimit hg hobj hints (Nat.le_trans hlen hn2) hr hF hb (fun H hO hS=>hsp w H a ns hlen hO hS) fun H e s'=>hCX w H s₁ e s'
noncomputable def gt (s:Stmt) (j:Nat):Stmt:=match s with
 | .ClassDef _ _ _ body _ _ _ _ _ _ _=>body.getD j (.Pass ⟨0,0,0,0⟩)
 | _=> .Pass ⟨0,0,0,0⟩
noncomputable def ax (s:Stmt):Arguments:=match s with
 | .FunctionDef _ a _ _ _ _ _ _ _ _=>a
 | _=>{posonlyargs:=[],args:=[],vararg:=none,kwonlyargs:=[],kw_defaults:=[],kwarg:=none,defaults:=[]}
noncomputable def aw (s:Stmt):List Stmt:=match s with
 | .FunctionDef _ _ b _ _ _ _ _ _ _=>b
 | _=>[]
noncomputable def ad (s:Stmt):Scope:=match s with
 | .FunctionDef _ _ _ _ _ _ sc _ _ _=>sc
 | _=>{kind:= .function,names:=[],isGenerator:=false,isCoroutine:=false}
noncomputable abbrev CX0:CXT:=fun _ _ _ _ _ _=>False
noncomputable abbrev E0:XK:=fun _ _ _=>False
theorem az {X:Cx}:se CX0 X E0:=fun _ _ _ _ _ _ _ h=>h.elim
structure Fun (K:PySem.W.Frag) (x qual:Str) (st:Stmt) (f:Addr) (fd:FuncData):Prop where
 ex:∃ (oc:Value) (od:Option Addr) (kV doc pm:Value) (an:Option Addr) (cdv ct:Value) (osl:Array (Option Value)),
  fd=PySem.W.fnOf x qual (ax st) (aw st) (ad st) .none kV doc pm an cdv ct∧K.lookup f=some ⟨oc,od,.func fd,osl⟩∧PySem.W.codeIn K cdv qual=true
 kp:PySem.W.keepIn K (.ref f)=true
section
variable {P:Program} {w:World} {K:PySem.W.Frag} {mg:Str→Option Value} {base:Heap}
theorem Fun.ok {x qual:Str} {st:Stmt} {f:Addr} {fd:FuncData} {N ps:List Str} {k:Nat} {sp:Sp} (F:Fun K x qual st f fd) (S:ay N ps (ad st)) (len:∀ vs H Q E,sp vs H Q E→vs.length=ps.length)
  (hbody:∀ (cdv:Value) (A:Around) (outer:List Env) (s:Shared) (H:Hp) (vs:List V) (Q:VK) (E:XK),Room k (A.deeper (envOfC qual (ad st) s.heap.objs.size f cdv))→sp vs H Q E→
   ∃ t,PSs (cxOf CX0 P w K mg base N qual (ad st) f cdv A outer s H E).nox (aw st) t∧t {nx:=fun _ H'=>Q .non H',rt:=Q} (pV N vs) H):FnOk P w K mg base CX0 (k + 1) f fd ps sp:=by
 obtain ⟨oc,od,kV,doc,pm,an,cdv,ct,osl,rfl,lk,hcd⟩:=F.ex
 refine MX lk hcd S len fun A outer s H vs Q E hr hsp=>?_
 obtain ⟨t,h,q⟩:=hbody cdv A outer s H vs Q E hr hsp
 exact ⟨t,h.nox,q⟩
theorem Fun.binds {x qual:Str} {st:Stmt} {f:Addr} {fd:FuncData} {ps:List Str} (F:Fun K x qual st f fd)
  (h:∀ (kV doc pm:Value) (an:Option Addr) (cdv ct:Value) (us:List Value),us.length=ps.length→bindArgs (PySem.W.fnOf x qual (ax st) (aw st) (ad st) .none kV doc pm an cdv ct) ⟨us,[]⟩=pure (ps.zip us)):be K fd ps []:=by
 obtain ⟨oc,od,kV,doc,pm,an,cdv,ct,osl,rfl,lk,hcd⟩:=F.ex
 exact .all (h kV doc pm an cdv ct)
theorem aP {x qual:Str} {st:Stmt} {f:Addr} {oc:Value} {od an:Option Addr} {osl:Array (Option Value)} {kV doc pm cdv ct:Value} (l:K.lookup f=some ⟨oc,od,.func (PySem.W.fnOf x qual (ax st) (aw st) (ad st) .none kV doc pm an cdv ct),osl⟩)
  (c:PySem.W.codeIn K cdv qual=true) (k:PySem.W.keepIn K (.ref f)=true):Fun K x qual st f (PySem.W.fnOf x qual (ax st) (aw st) (ad st) .none kV doc pm an cdv ct):=⟨⟨oc,od,kV,doc,pm,an,cdv,ct,osl,rfl,l,c⟩,k⟩
end
theorem Ib {A:Around} {k:Nat} (hr:Room k A):A.units + 1 < cLine:=Nat.lt_of_le_of_lt (Nat.add_le_add_left (by decide:1≤64) _) hr.units
theorem dk {n:Nat} (h:n≤1000):n < sizeLine:=Nat.lt_of_le_of_lt h (by decide)
section
variable {X:Cx}
theorem pv (i:Nat) {x:Str} {pos:Pos} (hN:X.N[i]? =some x:=by rfl) (hv:Vis X.env.scope x:=by first | exact Or.inl rfl | exact Or.inr (Or.inl rfl) | exact Or.inr (Or.inr rfl)) (hd:(x == ("__debug__":Str))=false:=by decide)
  (hcd:(x == ("__classdict__":Str))=false:=by decide):PE X (.Name x pos) (tVar i):=Mz hN hv hd hcd
end
theorem ite2 {c A B:Prop} [Decidable c] (h1:c→A) (h2:¬ c→B):if c then A else B:=by
 by_cases h:c
 ·rw [if_pos h]
  exact h1 h
 ·rw [if_neg h]
  exact h2 h
noncomputable def Same (H H':Hp):Prop:=∀ b o,H b=some o→H' b=some o
theorem Same.refl (H:Hp):Same H H:=fun _ _ h=>h
theorem Same.trans {H H1 H2:Hp} (a:Same H H1) (b:Same H1 H2):Same H H2:=fun c o h=>b c o (a c o h)
theorem Same.free {H H':Hp} (e:Same H H') {l:Addr} (h:H' l=Option.none):H l=Option.none:=by
 cases q:H l with
 | none=>rfl
 | some o=>
   rw [e l o q] at h
   cases h
theorem Same.seq {K:PySem.W.Frag} {H H':Hp} {a:Addr} {xs:List V} (e:Same H H') (h:SqL K H a xs):SqL K H' a xs:=by
 rcases h with (h | ⟨o,h⟩) | h
 ·exact .inl (.inl (e _ _ h))
 ·exact .inl (.inr ⟨o,e _ _ h⟩)
 ·exact .inr h
section
variable {κ:Type} [DecidableEq κ]
noncomputable def valV (kvs:List (κ×V)) (k:κ):Option V:=(kvs.find? fun kv=>decide (kv.1=k)).map (·.2)
noncomputable def putK (kvs:List (κ×V)) (k:κ) (v:V):List (κ×V):=
 if (kvs.any fun kv=>decide (kv.1=k))=true then kvs.map (fun kv=>if kv.1=k then (kv.1,v) else kv) else kvs++[(k,v)]
theorem pF {p:κ×V} {r:List (κ×V)} {k:κ} (e:p.1=k):valV (p::r) k=some p.2:=by simp [valV,List.find?_cons,e]
theorem pG {p:κ×V} {r:List (κ×V)} {k:κ} (e:¬ p.1=k):valV (p::r) k=valV r k:=by simp [valV,List.find?_cons,e]
theorem ur (k:κ):∀ kvs:List (κ×V),(kvs.any fun kv=>decide (kv.1=k))=(valV kvs k).isSome
 | []=>rfl
 | p::r=>by
   rw [List.any_cons]
   by_cases e:p.1=k
   ·simp only [pF e,decide_eq_true e,Bool.true_or,Option.isSome_some]
   ·rw [pG e,decide_eq_false e,Bool.false_or];exact ur k r
theorem qR (kvs:List (κ×V)) (k:κ) (v:V):(putK kvs k v).length≤kvs.length + 1:=by
 unfold putK
 split
 ·rw [List.length_map];omega
 ·rw [List.length_append,List.length_cons,List.length_nil];omega
theorem RelO.isSome_eq {o:Option V} {u:Option Value} (r:RelO o u):o.isSome=u.isSome:=by
 cases o with
 | none=>cases u with
   | none=>rfl
   | some _=>exact (show False from r).elim
 | some _=>cases u with
   | none=>exact (show False from r).elim
   | some _=>rfl
theorem KV.val {kvs:List (κ×V)} {vs:List (κ×Value)} (r:KV kvs vs) (k:κ):RelO (valV kvs k) (valueAt vs k):=by
 unfold KV at r
 induction r with
 | nil=>exact True.intro
 | @cons p q ps qs h t ih=>
   obtain ⟨h1,h2⟩:=h
   by_cases e:p.1=k
   ·have e':q.1=k:=h1.symm.trans e
    have b:valueAt (q::qs) k=some q.2:=by simp [valueAt,List.find?_cons,e']
    rw [pF e,b];exact h2
   ·have e':¬ q.1=k:=fun z=>e (h1.trans z)
    have b:valueAt (q::qs) k=valueAt qs k:=by simp [valueAt,List.find?_cons,e']
    rw [pG e,b];exact ih
theorem KV.any {kvs:List (κ×V)} {vs:List (κ×Value)} (r:KV kvs vs) (k:κ):(kvs.any fun kv=>decide (kv.1=k))=vs.any fun kv=>decide (kv.1=k):=by
 unfold KV at r
 induction r with
 | nil=>rfl
 | cons h t ih=>rw [List.any_cons,List.any_cons,ih,h.1]
theorem KV.repl {kvs:List (κ×V)} {vs:List (κ×Value)} (r:KV kvs vs) (k:κ) {y:V} {u:Value} (ry:RelV y u):
  KV (kvs.map fun kv=>if kv.1=k then (kv.1,y) else kv) (vs.map fun kv=>if kv.1=k then (kv.1,u) else kv):=by
 unfold KV at r ⊢
 induction r with
 | nil=>exact .nil
 | @cons p q ps qs h t ih=>
   rw [List.map_cons,List.map_cons]
   refine .cons ?_ ih
   obtain ⟨h1,h2⟩:=h
   by_cases e:p.1=k
   ·rw [if_pos e,if_pos (h1.symm.trans e)];exact ⟨h1,ry⟩
   ·rw [if_neg e,if_neg (fun z=>e (h1.trans z))];exact ⟨h1,h2⟩
theorem KV.put {kvs:List (κ×V)} {vs:List (κ×Value)} (r:KV kvs vs) (k:κ) {y:V} {u:Value} (ry:RelV y u):KV (putK kvs k y) (stored vs k u):=by
 unfold putK stored
 rw [r.any k]
 by_cases e:(vs.any fun kv=>decide (kv.1=k))=true
 ·rw [if_pos e,if_pos e];exact r.repl k ry
 ·rw [if_neg e,if_neg e];exact Paired.snoc r ⟨rfl,ry⟩
theorem KV.keys {kvs:List (κ×V)} {vs:List (κ×Value)} (r:KV kvs vs):kvs.map (·.1)=vs.map (·.1):=by
 unfold KV at r
 induction r with
 | nil=>rfl
 | cons h t ih=>rw [List.map_cons,List.map_cons,ih,h.1]
theorem KV.length {kvs:List (κ×V)} {vs:List (κ×Value)} (r:KV kvs vs):kvs.length=vs.length:=Paired.length r
end
theorem HZ {P:Program} {w:World} {k:Key} {u:Value} (r:RelV (kV k) u):(cT P w).is k u=true:=by
 cases k with
 | inl i=>obtain ⟨t,e⟩:=(show ∃ t,u=Value.int i t from r);subst e;exact zN P w i t
 | inr x=>obtain ⟨t,e⟩:=(show ∃ t,u=Value.str x t from r);subst e;exact zM P w x t
theorem xM {P:Program} {w:World}:∀ {ks:List Key} {us:List Value},Vals (ks.map kV) us→ItemsAre (cT P w) ks us
 | [],_,r=>by rw [List.map_nil] at r;cases r;exact .nil
 | k::ks,_,r=>by
   rw [List.map_cons] at r
   cases r with
   | cons h t=>exact .cons (HZ h) (xM t)
noncomputable abbrev KT (H:Hp):List (List Key×V)→List (List Key×Addr×Value)→Prop:=Paired fun p q=>p.1=q.1∧H q.2.1=some (.tup (p.1.map kV))∧RelV p.2 q.2.2
theorem KT.val {H:Hp} {kvs:List (List Key×V)} {xs:List (List Key×Addr×Value)} (r:KT H kvs xs) (k:List Key):RelO (valV kvs k) ((atKey xs k).map (·.2)):=by
 induction r with
 | nil=>exact True.intro
 | @cons p q ps qs h t ih=>
   obtain ⟨h1,_,h2⟩:=h
   by_cases e:p.1=k
   ·have e':q.1=k:=h1.symm.trans e
    have b:atKey (q::qs) k=some q.2:=by simp [atKey,List.find?_cons,e']
    rw [pF e,b];exact h2
   ·have e':¬ q.1=k:=fun z=>e (h1.trans z)
    have b:atKey (q::qs) k=atKey qs k:=by simp [atKey,List.find?_cons,e']
    rw [pG e,b];exact ih
theorem KT.repl {H:Hp} {kvs:List (List Key×V)} {xs:List (List Key×Addr×Value)} (r:KT H kvs xs) (k:List Key) {y:V} {u:Value} (ry:RelV y u):
  KT H (kvs.map fun kv=>if kv.1=k then (kv.1,y) else kv) (xs.map (putAt k u)):=by
 induction r with
 | nil=>exact .nil
 | @cons p q ps qs h t ih=>
   rw [List.map_cons,List.map_cons]
   refine .cons ?_ ih
   obtain ⟨h1,h2,h3⟩:=h
   unfold putAt
   by_cases e:p.1=k
   ·rw [if_pos e,if_pos (h1.symm.trans e)];exact ⟨h1,h2,ry⟩
   ·rw [if_neg e,if_neg (fun z=>e (h1.trans z))];exact ⟨h1,h2,h3⟩
theorem KT.put {H:Hp} {kvs:List (List Key×V)} {xs:List (List Key×Addr×Value)} (r:KT H kvs xs) (k:List Key) {b:Addr} {y:V} {u:Value} (hb:H b=some (.tup (k.map kV))) (ry:RelV y u):
  KT H (putK kvs k y) (storedH xs k b u):=by
 have e:(kvs.any fun kv=>decide (kv.1=k))=(atKey xs k).isSome:=by
  rw [ur,(r.val k).isSome_eq,Option.isSome_map]
 unfold putK storedH
 rw [e]
 by_cases q:(atKey xs k).isSome=true
 ·rw [if_pos q,if_pos q];exact r.repl k ry
 ·rw [if_neg q,if_neg q];exact Paired.snoc r ⟨rfl,hb,ry⟩
theorem KT.keeps {H H':Hp} {kvs:List (List Key×V)} {xs:List (List Key×Addr×Value)} (r:KT H kvs xs) (ht:∀ b ys,H b=some (.tup ys)→H' b=some (.tup ys)):KT H' kvs xs:=
 Paired.mapP r fun _ _ z=>⟨z.1,ht _ _ z.2.1,z.2.2⟩
section
variable {P:Program} {w:World} {H:Hp} {h:Heap} {a:Addr}
theorem Mm {u:HO} (ok:HOk P w H h) (e:Rd H a u):eW P w H h a u:=e.ok ok
theorem Ir {kvs:List (Key×V)} (ok:HOk P w H h) (e:Rd H a (.dK kvs)):kvs.length≤sizeLine∧(a == sysModules)=false∧∃ vs,KV kvs vs∧h.DictOf (cT P w) a vs:=
 show eW P w H h a (.dK kvs) from Mm ok e
theorem M5 {kvs:List (Key×V)} (ok:HOk P w H h) (e:H a=some (.dK kvs)):kvs.length≤sizeLine∧(a == sysModules)=false∧∃ vs,KV kvs vs∧h.DictOf (cT P w) a vs:=Ir ok (.inl e)
theorem Bg {ks:List Key} (ok:HOk P w H h) (e:H a=some (.tup (ks.map kV))):(tupleKind (cT P w)).is h ks a:=by
 obtain ⟨_,its,r,o,h1,h2,n,h3⟩:=(show eW P w H h a (.tup (ks.map kV)) from ok a _ e)
 exact ⟨o,its.toArray,n,h1,h2,h3,by simpa using xM r⟩
theorem Iq {kvs:List (List Key×V)} (ok:HOk P w H h) (e:Rd H a (.dT kvs)):kvs.length≤sizeLine∧(a == sysModules)=false∧
  ∃ xs,KT H kvs xs∧h.DictOfH (tupleKind (cT P w)) a xs:=by
 obtain ⟨z,y,xs,r,o,es,ep,h1,h2,h3,h4,h5⟩:=(show eW P w H h a (.dT kvs) from Mm ok e)
 refine ⟨z,y,xs,r,o,es,ep,h1,h2,h3,h4,fun x hx=>?_,h5⟩
 have all:∀ {l:List (List Key×V)} {m:List (List Key×Addr×Value)},KT H l m→∀ x∈m,(tupleKind (cT P w)).is h x.1 x.2.1:=by
  intro l m q
  induction q with
  | nil=>intro x hx;exact nomatch hx
  | @cons p q ps qs hq t ih=>
    intro x hx
    rcases List.mem_cons.mp hx with e | hx
    ·subst e
     exact Bg ok (by rw [← hq.1];exact hq.2.1)
    ·exact ih x hx
 exact all r x hx
theorem N5 {kvs:List (List Key×V)} (ok:HOk P w H h) (e:H a=some (.dT kvs)):kvs.length≤sizeLine∧(a == sysModules)=false∧
  ∃ xs,KT H kvs xs∧h.DictOfH (tupleKind (cT P w)) a xs:=Iq ok (.inl e)
end
noncomputable def DGet (H:Hp) (a:Addr) (y:V) (r:Option V):Prop:=
 (∃ kvs k,Rd H a (.dK kvs)∧y=kV k∧r=valV kvs k)∨∃ kvs k b,Rd H a (.dT kvs)∧y= .ref b∧H b=some (.tup (k.map kV))∧r=valV kvs k
noncomputable def DPut (H:Hp) (a:Addr) (y v:V) (H':Hp):Prop:=
 (∃ kvs k,H a=some (.dK kvs)∧y=kV k∧kvs.length < sizeLine∧H'=upd H a (.dK (putK kvs k v)))∨
 ∃ kvs k b,H a=some (.dT kvs)∧y= .ref b∧H b=some (.tup (k.map kV))∧kvs.length < sizeLine∧H'=upd H a (.dT (putK kvs k v))
theorem DGet.k {H:Hp} {a:Addr} {kvs:List (Key×V)} {k:Key} (e:H a=some (.dK kvs)):DGet H a (kV k) (valV kvs k):= .inl ⟨kvs,k,.inl e,rfl,rfl⟩
theorem DPut.k {H:Hp} {a:Addr} {kvs:List (Key×V)} {k:Key} {v:V} (e:H a=some (.dK kvs)) (hl:kvs.length < sizeLine):DPut H a (kV k) v (upd H a (.dK (putK kvs k v))):= .inl ⟨kvs,k,e,rfl,hl,rfl⟩
section
variable {X:Cx} {pins:List (Addr×Obj)} {σ:St} {H:Hp} {s:Shared} {a:Addr} {y v:V} {u r:Value} {o:Option V} {A:Around} {E:Value→Shared→Prop}
theorem Inv.big (I:Inv X pins σ H s):sysModules < s.heap.objs.size:=by
 have h:mainGlobals < s.heap.objs.size:=(I.mod.glob.keeps I.bk).lt
 exact Nat.lt_trans (by decide) h
theorem F4 {Q:Value→Shared→Prop} (hu:A.units + 1 < cLine) (I:Inv X pins σ H s) (g:DGet H a y (some v)) (ry:RelV y u) (h:∀ w' s',Inv X pins σ H s'→RelV v w'→Q w' s'):
  wpAny (model X.prog X.w) A (getItem (.ref a) u) Q E s:=by
 rcases g with ⟨kvs,k,e,ey,l⟩ | ⟨kvs,k,b,e,ey,eb,l⟩
 ·subst ey
  obtain ⟨z,hd,vs,rel,dd⟩:=Ir I.hok e
  obtain ⟨w',hw,rw'⟩:=RelO.some_of (v:=v) (o:=valueAt vs k) (by rw [l];exact rel.val k)
  exact wpAny_getItem_of (HZ ry) dd.mapOf hw (h w' _ (I.tok _) rw')
 ·subst ey
  cases (show u=Value.ref b from ry)
  obtain ⟨z,hd,xs,rel,dd⟩:=Iq I.hok e
  obtain ⟨w',hw,rw'⟩:=RelO.some_of (v:=v) (o:=(atKey xs k).map (·.2)) (by rw [l];exact rel.val k)
  obtain ⟨p,hp,hp2⟩:=Option.map_eq_some_iff.mp hw
  refine wpAny_getItem_heap (tupleKind_room_in1 hu) (Bg I.hok eb) dd hp ?_
  rw [hp2]
  exact h w' _ (I.tok _) rw'
theorem d_in {Q:Value→Shared→Prop} (hu:A.units + 1 < cLine) (I:Inv X pins σ H s) (g:DGet H a y o) (ry:RelV y u) (h:∀ s',Inv X pins σ H s'→Q (.bool o.isSome) s'):
  wpAny (model X.prog X.w) A (compareOp .In u (.ref a)) Q E s:=by
 rcases g with ⟨kvs,k,e,ey,l⟩ | ⟨kvs,k,b,e,ey,eb,l⟩
 ·subst ey
  obtain ⟨z,hd,vs,rel,dd⟩:=Ir I.hok e
  refine wpAny_in_of (HZ ry) hd dd.mapOf ?_
  rw [← (rel.val k).isSome_eq,← l]
  exact h _ (I.tok _)
 ·subst ey
  cases (show u=Value.ref b from ry)
  obtain ⟨z,hd,xs,rel,dd⟩:=Iq I.hok e
  refine wpAny_in_heap (tupleKind_room_in1 hu) (Bg I.hok eb) hd dd ?_
  have q:=(rel.val k).isSome_eq
  rw [Option.isSome_map] at q
  rw [← q,← l]
  exact h _ (I.tok _)
theorem F0 {h':Heap} {t':Nat} {ob:HO} (I:Inv X pins σ H s) (mu:Mut (H a)) (hs:Heap.SameBut a s.heap h') (he:∃ q,h'.get? a=some q) (new:eW X.prog X.w (upd H a ob) h' a ob):
  Inv X pins σ (upd H a ob) {s with heap:=h',toks:=t'}:=
 I.write (x:=a) (e:=a) mu (.inl rfl) (fun b q hb z=>(hs.2 b hb).trans z) he new
theorem M6 {P:Program} {w:World} {H':Hp} {h':Heap} {kvs:List (Key×V)} {vs:List (Key×Value)} (z:kvs.length≤sizeLine) (hd:(a == sysModules)=false) (rel:KV kvs vs) (dd:h'.DictOf (cT P w) a vs):
  eW P w H' h' a (.dK kvs):=⟨z,hd,vs,rel,dd⟩
theorem F3 {H':Hp} {Q:Unit→Shared→Prop} (hu:A.units + 1 < cLine) (I:Inv X pins σ H s) (g:DPut H a y v H') (ry:RelV y u) (rv:RelV v r) (h:∀ s',Inv X pins σ H' s'→Q () s'):
  wpAny (model X.prog X.w) A (setItem (.ref a) u r) Q E s:=by
 rcases g with ⟨kvs,k,e,ey,l,eH⟩ | ⟨kvs,k,b,e,ey,eb,l,eH⟩
 ·subst ey eH
  obtain ⟨z,hd,vs,rel,dd⟩:=M5 I.hok e
  have hz:vs.length≤sizeLine:=by rw [← rel.length];exact z
  have hl:(putK kvs k v).length≤sizeLine:=by have:=qR kvs k v;omega
  refine wpAny_setItem_pairs (hsz:=hz) (HZ ry) dd fun h' dd' hs=>h _ ?_
  have he:∃ q,h'.get? a=some q:=let ⟨q,_,_,hq,_⟩:=dd';⟨q,hq⟩
  exact F0 I (by rw [e];exact True.intro) hs he (M6 hl hd (rel.put k rv) dd')
 ·subst ey eH
  cases (show u=Value.ref b from ry)
  obtain ⟨z,hd,xs,rel,dd⟩:=N5 I.hok e
  have hz:xs.length≤sizeLine:=by rw [← Paired.length rel];exact z
  have hl:(putK kvs k v).length≤sizeLine:=by have:=qR kvs k v;omega
  refine wpAny_setItem_heap (hsz:=hz) (tupleKind_room_in1 hu) (Bg I.hok eb) dd fun h' dd' hs=>h _ ?_
  obtain ⟨q,es,ep,hq,h2,h3,h4,_,h5⟩:=dd'
  refine F0 I (by rw [e];exact True.intro) hs ⟨q,hq⟩ ⟨hl,hd,_,(rel.put k eb rv).keeps fun c ys ec=>?_,q,es,ep,hq,h2,h3,h4,h5⟩
  rw [aJ (iN ec e (fun z=>nomatch z))]
  exact ec
end
noncomputable def NoSl (i:Expr):Prop:=∀ ov iv,subscripted i false ov iv=operate [ov,iv] (getItem ov iv)
theorem JP {prog:Program} {w:World} {A:Around} {E:Value→Shared→Prop} {s:Shared} {env:Env} {value slice:Expr} {pos:Pos} {T id:String} {Q:Value→Shared→Prop}
  (hl:typeLookup (.type T) "__getitem__"=pure (some (.builtin id))) (hs:NoSl slice)
  (h:wpAny (model prog w) A (eval value env) (fun o s₁=>wpAny (model prog w) A (eval slice env) (fun i s₂=>s₂.TypeIs o T∧wpAny (model prog w) A (getItem o i) Q E s₂) E s₁) E s):
  wpAny (model prog w) A (eval (.Subscript value slice pos) env) Q E s:=by
 refine Subscript_ (wpAny_mono h (fun o s₁ h₁=>wpAny_mono h₁ (fun i s₂ h₂=>?_) fun _ _ x=>x) fun _ _ x=>x)
 obtain ⟨hT,h₂⟩:=h₂
 unfold subscriptTail
 refine wpAny_bind ?_
 rw [getitemInPython_of_ne hT.not_modules]
 refine wpAny_bind (wpAny_specialOf hT hl ?_)
 have fin:wpAny (model prog w) A (subscripted slice false o i) (fun r s₃=>wpAny (model prog w) A (letTemporaryGo value o r >>=fun _=>pure r) Q E s₃) E s₂:=by
  rw [hs o i]
  exact wpAny_operating (wpAny_mono h₂ (fun r s₃ h₃=>wpAny_bind (wpAny_letTemporaryGo (wpAny_pure h₃))) fun _ _ x=>x)
 first
  | exact wpAny_pure (wpAny_bind fin)
  | exact wpAny_bind (wpAny_pure (wpAny_bind fin))
  | exact wpAny_bind fin
theorem Af {X:Cx} {pins:List (Addr×Obj)} {σ:St} {H:Hp} {s:Shared} {a:Addr} {y:V} {o:Option V} (I:Inv X pins σ H s) (g:DGet H a y o):s.TypeIs (.ref a) "dict":=by
 rcases g with ⟨kvs,k,e,_,_⟩ | ⟨kvs,k,b,e,_,_,_⟩
 ·obtain ⟨_,_,vs,_,dd⟩:=Ir I.hok e
  exact dd.typeIs
 ·obtain ⟨_,_,xs,_,dd⟩:=Iq I.hok e
  exact dd.typeIs
noncomputable def LE (td ty:TE):TE:=fun σ H Q=>td σ H fun x H1=>ty σ H1 fun y H2=>∃ a v,x= .ref a∧DGet H2 a y (some v)∧Q v H2
noncomputable def tDIn (ty td:TE):TE:=fun σ H Q=>ty σ H fun y H1=>td σ H1 fun x H2=>∃ a o,x= .ref a∧DGet H2 a y o∧Q (.bl o.isSome) H2
noncomputable def Ml (td ty tv:TE):TS:=fun D σ H=>tv σ H fun v H1=>td σ H1 fun x H2=>ty σ H2 fun y H3=>∃ a H4,x= .ref a∧DPut H3 a y v H4∧D.nx σ H4
section
variable {X:Cx} {o i e value:Expr} {pos pos' tpos:Pos} {td ty tv:TE}
theorem EW (hu:X.A.units + 1 < cLine) (ho:PE X o td) (hi:PE X i ty) (hs:NoSl i):PE X (.Subscript o i pos) (LE td ty):=by
 intro pins s σ H Q I h
 refine JP PySem.F.slot_dict_getitem.lookup hs (thn (ho pins s σ H _ I h) fun u s1 ⟨x,H1,I1,rx,q1⟩=>thn (hi pins s1 σ H1 _ I1 q1) fun iv s2 ⟨y,H2,I2,ry,a,v,ex,g,q2⟩=>?_)
 subst ex
 obtain rfl:u=Value.ref a:=rx
 exact ⟨Af I2 g,F4 hu I2 g ry fun w' s3 I3 rw'=>⟨v,H2,I3,rw',q2⟩⟩
theorem MC (hu:X.A.units + 1 < cLine) (hi:PE X i ty) (ho:PE X o td):PC X .In i o (tDIn ty td):=by
 intro pins s σ H Q I h
 refine thn (hi pins s σ H _ I h) fun iv s1 ⟨y,H1,I1,ry,q1⟩=>thn (ho pins s1 σ H1 _ I1 q1) fun u s2 ⟨x,H2,I2,rx,a,ov,ex,g,q2⟩=>?_
 subst ex
 obtain rfl:u=Value.ref a:=rx
 exact d_in hu I2 g ry fun s3 I3=>⟨.bl ov.isSome,H2,I3,rfl,q2⟩
theorem Kt (hu:X.A.units + 1 < cLine) (ho:PE X o td) (hi:PE X i ty) (hv:PE X value tv) (hs:swapsWith value (some (.Subscript o i pos')) pos.line X.env=pure false):
  PS X (.Assign [.Subscript o i pos'] value pos) (Ml td ty tv):=by
 intro pins s σ H D I h
 refine wpAny_Assign_Subscript (thn (hv pins s σ H _ I h) fun r s1 ⟨v,H1,I1,rv,q1⟩=>thn (ho pins s1 σ H1 _ I1 q1) fun u s2 ⟨x,H2,I2,rx,q2⟩=>thn (hi pins s2 σ H2 _ I2 q2) fun iv s3 ⟨y,H3,I3,ry,a,H4,ex,g,q3⟩=>?_) hs
 subst ex
 obtain rfl:u=Value.ref a:=rx
 exact F3 hu I3 g ry rv fun s4 I4=>⟨σ,H4,I4,q3⟩
end
theorem Is {P:Program} {w:World} {H:Hp} (h:Heap) (hb:sysModules < h.objs.size):eW P w H (h.push {cls:= .type "dict",data:= .dict #[]}) h.objs.size (.dK []):=
 ⟨Nat.zero_le _,beq_eq_false_iff_ne.mpr (Ne.symm (Nat.ne_of_lt hb)),[],.nil,Heap.DictOf.new h⟩
noncomputable def IN:TE:=fun _ H Q=>∀ p,H p=none→Q (.ref p) (upd H p (.dK []))
section
variable {X:Cx} {pos:Pos}
theorem Hq:PE X (.Dict [] [] pos) IN:=fun pins s σ H Q I h=>
 wpAny_Dict_empty ⟨.ref s.heap.objs.size,_,I.laid (a:=s.heap.objs.size) (o:= .dK []) (t':=s.toks) (fun _ _ q=>Heap.get?_push_of_some _ q) (Nat.le_refl _) (Is s.heap I.big),rfl,h _ (I.hok.fresh (Nat.le_refl _))⟩
end
structure M1 (X:Cx) (o:Expr) (m:Str) (apos:Pos) (e:Expr) (cpos:Pos):Prop where
 base:attributeBase o m X.env (eval o X.env)=eval o X.env
 few:((backTo cpos (starEach [e] X.env)).all (fun x=> !x.1)&&(backToKw cpos (keywordEach [] X.env)).all (fun x=>x.1.isSome)
  &&decide (([e]:List Expr).length + ([]:List Keyword).length + (if ([]:List Keyword).isEmpty then 0 else 1) < 30))=true
 line:(apos.endLine == cpos.line)=true
 trees:backTo cpos (starEach [e] X.env)=[(false,eval e X.env)]
structure M2 (X:Cx) (o:Expr) (m:Str) (apos:Pos) (e f:Expr) (cpos:Pos):Prop where
 base:attributeBase o m X.env (eval o X.env)=eval o X.env
 few:((backTo cpos (starEach [e,f] X.env)).all (fun x=> !x.1)&&(backToKw cpos (keywordEach [] X.env)).all (fun x=>x.1.isSome)
  &&decide (([e,f]:List Expr).length + ([]:List Keyword).length + (if ([]:List Keyword).isEmpty then 0 else 1) < 30))=true
 line:(apos.endLine == cpos.line)=true
 trees:backTo cpos (starEach [e,f] X.env)=[(false,eval e X.env),(false,eval f X.env)]
end L2
set_option maxHeartbeats 4000000
namespace L2
open PySem PySem.Spec PyProof.Rows
section
variable {P0:Program} {w0:World} {A0:Around} {R0:Result→Shared→Prop} {t0:Shared}
theorem Da {elt tg iter:Expr} {ifs:List Expr} {sc:Scope} {pos:Pos} {it acc:Value} {ce:Env} (J:Nat→Shared→Prop)
  (turn:∀ n s,J n s→wpAny (model P0 w0) A0 (pyNext it) (fun r s₁=>match r with
   | none=>R0 (.ok .next) s₁
   | some v=>wpAny (model P0 w0) A0 (letOwnedTupleGo tg it v) (fun _ s₂=>wpAny (model P0 w0) A0 (assign tg ce v) (fun _ s₃=>
     wpAny (model P0 w0) A0 (forIn ifs true fun c r=>if r=true then do let ok ← isTrue c ce (eval c ce);pure (ForInStep.yield ok) else pure (ForInStep.yield r)) (fun ok s₄=>
      if ok=true then wpAny (model P0 w0) A0 (eval elt ce) (fun x s₅=>
       wpAny (model P0 w0) A0 (call (.builtin "list.append") [acc,x]) (fun _ s₆=>∃ m,m < n∧J m s₆) (fun _ _=>False) s₅) (fun _ _=>False) s₄
      else ∃ m,m < n∧J m s₄) (fun _ _=>False) s₃) (fun _ _=>False) s₂) (fun _ _=>False) s₁) (fun _ _=>False) s)
  (n:Nat) (h:J n t0):
  codeAny (model P0 w0) A0 (.compLoop (.ListComp elt [⟨tg,iter,ifs,0⟩] sc pos) 0 it acc ce) R0 t0:=by
 have no:∀ {α:Type} {t:Sem α} {Q:α→Shared→Prop} {E:Value→Shared→Prop} {s:Shared},wpAny (model P0 w0) A0 t Q (fun _ _=>False) s→wpAny (model P0 w0) A0 t Q E s:=
  fun h=>wpAny_mono h (fun _ _ q=>q) fun _ _ z=>z.elim
 refine codeAny_loop rfl J (fun n s hJ=>?_) n h
 show wpAny _ A0 ((compTurn (.ListComp elt [⟨tg,iter,ifs,0⟩] sc pos) 0 it acc ce).onRaise (fun x=>do noteFrame x ce;theTreesLotGoes x)) _ _ s
 refine wpAny_noted ?_
 rw [compTurn_list]
 refine wpAny_bind (wpAny_standAt (wpAny_bind (thn (no (turn n s hJ)) fun r s₁ h₁=>?_)))
 cases r with
 | none=>exact wpAny_pure h₁
 | some v=>
   refine wpAny_bind (thn (no h₁) fun _ s₂ h₂=>?_)
   refine wpAny_bind (thn (no h₂) fun _ s₃ h₃=>wpAny_bind (thn (no h₃) fun ok s₄ h₄=>?_))
   cases ok with
   | false=>exact wpAny_pure ⟨rfl,h₄⟩
   | true=>
     rw [if_pos rfl] at h₄
     refine wpAny_bind (wpAny_bind (thn (no h₄) fun x s₅ h₅=>?_))
     refine wpAny_bind (thn (no h₅) fun _ s₆ h₆=>?_)
     exact wpAny_pure (wpAny_pure ⟨rfl,h₆⟩)
end
theorem nV (env:Env):∀ (l:List (Str×NameKind)) (cs:List (Str×Addr)),(∀ y∈l,y.2= .free→∃ c,env.cells.lookup y.1=some c)→
  ∃ r:List (Str×Addr),(forIn l cs (fun (x:Str×NameKind) (r:List (Str×Addr))=>if x.2 == NameKind.free then (do let c ← cellOf env x.1;pure (ForInStep.yield ((x.1,c)::r))) else pure (ForInStep.yield r)):Sem (List (Str×Addr)))=pure r∧
   (∀ p∈r,p∈cs∨env.cells.lookup p.1=some p.2)∧(∀ p∈cs,p∈r)∧(∀ y∈l,y.2= .free→∃ c,(y.1,c)∈r)
 | [],cs,_=>⟨cs,rfl,fun p hp=> .inl hp,fun p hp=>hp,fun y hy=>nomatch hy⟩
 | (x,k)::l,cs,h=>by
   by_cases hk:k= .free
   ·subst hk
    obtain ⟨c,hc⟩:=h (x,.free) List.mem_cons_self rfl
    obtain ⟨r,e,h1,h2,h3⟩:=nV env l ((x,c)::cs) fun y hy=>h y (List.mem_cons_of_mem _ hy)
    refine ⟨r,?_,fun p hp=>?_,fun p hp=>h2 p (List.mem_cons_of_mem _ hp),fun y hy hf=>?_⟩
    ·rw [List.forIn_cons]
     have e2:cellOf env x=pure c:=by unfold cellOf;rw [hc]
     simp only [beq_self_eq_true,if_true,e2,pure_bind]
     exact e
    ·rcases h1 p hp with q | q
     ·rcases List.mem_cons.mp q with z | z
      ·subst z;exact .inr hc
      ·exact .inl z
     ·exact .inr q
    ·rcases List.mem_cons.mp hy with z | z
     ·subst z;exact ⟨c,h2 _ List.mem_cons_self⟩
     ·exact h3 y z hf
   ·obtain ⟨r,e,h1,h2,h3⟩:=nV env l cs fun y hy=>h y (List.mem_cons_of_mem _ hy)
    refine ⟨r,?_,h1,h2,fun y hy hf=>?_⟩
    ·rw [List.forIn_cons]
     have hb:(k == NameKind.free)=false:=by cases k<;>first | rfl | exact absurd rfl hk
     simp only [hb,Bool.false_eq_true,if_false,pure_bind]
     exact e
    ·rcases List.mem_cons.mp hy with z | z
     ·subst z;exact absurd hf hk
     ·exact h3 y z hf
theorem uf (sc:Scope) (env:Env) (h:∀ y∈sc.names,y.2= .free→∃ c,env.cells.lookup y.1=some c):
  ∃ cl,closureFor sc env=pure cl∧(∀ p∈cl,env.cells.lookup p.1=some p.2)∧∀ y∈sc.names,y.2= .free→∃ c,(y.1,c)∈cl:=by
 obtain ⟨r,e,h1,h2,h3⟩:=nV env sc.names [] h
 refine ⟨r,?_,fun p hp=>(h1 p hp).resolve_left (fun z=>nomatch z),h3⟩
 unfold closureFor
 have:=e
 simp only [bind_pure] at *
 exact e
theorem vu {κ β:Type} [BEq κ] [LawfulBEq κ]:∀ {l:List (κ×β)} {x:κ} {c:β},(x,c)∈l→∃ c',l.lookup x=some c'
 | [],_,_,h=>nomatch h
 | (y,d)::l,x,c,h=>by
   by_cases e:x=y
   ·subst e;exact ⟨d,by simp [List.lookup_cons]⟩
   ·have hb:(x == y)=false:=beq_eq_false_iff_ne.mpr e
    rcases List.mem_cons.mp h with z | z
    ·exact absurd (congrArg Prod.fst z) e
    ·obtain ⟨c',q⟩:=vu z
     exact ⟨c',by rw [List.lookup_cons,hb];exact q⟩
theorem lJ {env:Env}:∀ {names:List (Str×NameKind)} {x:Str} {k':NameKind},
  (names.map fun (n,k)=>if (k == NameKind.free&&env.scope.kind == .function&&env.kindOf n == some .cell) then (n,NameKind.cell) else (n,k)).lookup x=some k'→∃ k,(x,k)∈names∧(k'=k∨k= .free)
 | [],_,_,h=>by cases h
 | (y,k)::l,x,k',h=>by
   rw [List.map_cons,List.lookup_cons] at h
   by_cases e:x=y
   ·subst e
    by_cases hc:(k == NameKind.free&&env.scope.kind == .function&&env.kindOf x == some .cell)=true
    ·refine ⟨k,List.mem_cons_self,.inr ?_⟩
     rw [Bool.and_eq_true,Bool.and_eq_true] at hc
     exact eq_of_beq hc.1.1
    ·refine ⟨k,List.mem_cons_self,.inl ?_⟩
     simp only [if_neg hc,beq_self_eq_true] at h
     exact (Option.some.inj h).symm
   ·have hb:(x == y)=false:=beq_eq_false_iff_ne.mpr e
    have h':(l.map fun (n,k)=>if (k == NameKind.free&&env.scope.kind == .function&&env.kindOf n == some .cell) then (n,NameKind.cell) else (n,k)).lookup x=some k':=by
     by_cases hc:(k == NameKind.free&&env.scope.kind == .function&&env.kindOf y == some .cell)=true
     ·simp only [if_pos hc,hb] at h;exact h
     ·simp only [if_neg hc,hb] at h;exact h
    obtain ⟨q,hm,z⟩:=lJ h'
    exact ⟨q,List.mem_cons_of_mem _ hm,z⟩
theorem n8 {env:Env}:∀ {names:List (Str×NameKind)} {x:Str},names.lookup x=some .free→
  (names.map fun (n,k)=>if (k == NameKind.free&&env.scope.kind == .function&&env.kindOf n == some .cell) then (n,NameKind.cell) else (n,k)).lookup x=some .cell∨
  (names.map fun (n,k)=>if (k == NameKind.free&&env.scope.kind == .function&&env.kindOf n == some .cell) then (n,NameKind.cell) else (n,k)).lookup x=some .free
 | [],_,h=>by cases h
 | (y,k)::l,x,h=>by
   rw [List.lookup_cons] at h
   rw [List.map_cons,List.lookup_cons]
   by_cases e:x=y
   ·subst e
    simp only [beq_self_eq_true] at h
    cases h
    by_cases hc:(NameKind.free == NameKind.free&&env.scope.kind == .function&&env.kindOf x == some .cell)=true
    ·refine .inl ?_
     rw [if_pos hc]
     simp only [beq_self_eq_true]
    ·refine .inr ?_
     rw [if_neg hc]
     simp only [beq_self_eq_true]
   ·have hb:(x == y)=false:=beq_eq_false_iff_ne.mpr e
    simp only [hb] at h
    have q:=n8 (env:=env) h
    by_cases hc:(k == NameKind.free&&env.scope.kind == .function&&env.kindOf y == some .cell)=true
    ·simp only [if_pos hc,hb];exact q
    ·simp only [if_neg hc,hb];exact q
structure iI (osc:Scope) (ON N:List Str) (n:Nat) (fx:List Nat) (sc:Scope):Prop where
 kind:sc.kind= .function
 noc:∀ y∈sc.names,y.2≠.cell
 own:∀ y∈sc.names,y.2= .local→sc.names.lookup y.1=some .local
 fre:∀ y∈sc.names,y.2= .free→osc.names.lookup y.1=some .cell∨osc.names.lookup y.1=some .free
 len:N.length=n + fx.length
 frn:∀ k,k < fx.length→∃ x j,N[n + k]? =some x∧fx[k]? =some j∧ON[j]? =some x∧sc.names.lookup x=some .free
noncomputable def Ih (ON:List Str) (sc:Scope):List Str→List Nat→Bool
 | [],[]=>true
 | x::xs,j::js=>decide (ON[j]? =some x)&&decide (sc.names.lookup x=some .free)&&Ih ON sc xs js
 | _,_=>false
theorem xV {ON:List Str} {sc:Scope}:∀ {xs:List Str} {js:List Nat},Ih ON sc xs js=true→xs.length=js.length∧∀ k,k < js.length→∃ x j,xs[k]? =some x∧js[k]? =some j∧ON[j]? =some x∧sc.names.lookup x=some .free
 | [],[],_=>⟨rfl,fun k h=>absurd h (Nat.not_lt_zero k)⟩
 | [],_::_,h=>by cases h
 | _::_,[],h=>by cases h
 | x::xs,j::js,h=>by
   simp only [Ih,Bool.and_eq_true,decide_eq_true_eq] at h
   obtain ⟨l,q⟩:=xV h.2
   refine ⟨congrArg Nat.succ l,fun k hk=>?_⟩
   cases k with
   | zero=>exact ⟨x,j,rfl,rfl,h.1.1,h.1.2⟩
   | succ k=>
     obtain ⟨x',j',a,b,c⟩:=q k (Nat.lt_of_succ_lt_succ hk)
     exact ⟨x',j',by simpa using a,by simpa using b,c⟩
noncomputable def Bn (osc:Scope) (ON N:List Str) (n:Nat) (fx:List Nat) (sc:Scope):Bool:=
 decide (sc.kind= .function)&&decide (∀ y∈sc.names,y.2≠.cell)&&decide (∀ y∈sc.names,y.2= .local→sc.names.lookup y.1=some .local)&&
 decide (∀ y∈sc.names,y.2= .free→osc.names.lookup y.1=some .cell∨osc.names.lookup y.1=some .free)&&decide (n≤N.length)&&Ih ON sc (N.drop n) fx
theorem iI.of {osc:Scope} {ON N:List Str} {n:Nat} {fx:List Nat} {sc:Scope} (h:Bn osc ON N n fx sc=true):iI osc ON N n fx sc:=by
 simp only [Bn,Bool.and_eq_true,decide_eq_true_eq] at h
 obtain ⟨⟨⟨⟨⟨h1,h2⟩,h3⟩,h4⟩,h5⟩,h6⟩:=h
 obtain ⟨l,q⟩:=xV h6
 refine ⟨h1,h2,h3,h4,?_,fun k hk=>?_⟩
 ·rw [List.length_drop] at l;omega
 ·obtain ⟨x,j,a,b⟩:=q k hk
  exact ⟨x,j,by rw [List.getElem?_drop] at a;exact a,b⟩
noncomputable def i6 (X:Cx) (N:List Str) (sc:Scope) (cl:List (Str×Addr)) (C:Addr) (fp:List Addr) (s:Shared) (H:Hp):Cx where
 prog:=X.prog
 w:=X.w
 K:=X.K
 mg:=X.mg
 base:=X.base
 A:=X.A
 N:=N
 s₀:=s
 H₀:=H
 env:=compEnvC sc cl C X.env
 outer:=X.stack
 stack:=X.stack
 ex:=fp
 fn:=fun _=>false
 calm:=X.calm
 pn:=[]
 xe:=fun _ _=>False
noncomputable def df (n:Nat) (fx:List Nat) (σ:St):St:=List.replicate n none++fx.map fun j=>(σ[j]?).join
noncomputable def DU (n:Nat) (g:TG):Prop:=∀ v σ H (Q Q':St→Hp→Prop),(∀ σ' H',Q σ' H'→σ'.drop n=σ.drop n→σ'.length=σ.length→Q' σ' H')→g v σ H Q→g v σ H Q'
noncomputable def Bu (n:Nat) (g:TGs):Prop:=∀ vs σ H (Q Q':St→Hp→Prop),(∀ σ' H',Q σ' H'→σ'.drop n=σ.drop n→σ'.length=σ.length→Q' σ' H')→g vs σ H Q→g vs σ H Q'
theorem aW {n i:Nat} (h:i < n):DU n (FO i):=fun v σ H Q Q' k q=>k _ _ q (by rw [List.drop_set_of_lt h]) (by rw [List.length_set])
theorem rf {n:Nat}:Bu n gNil:=fun vs σ H Q Q' k ⟨e,q⟩=>⟨e,k _ _ q rfl rfl⟩
theorem fh {n:Nat} {t:TG} {u:TGs} (ht:DU n t) (hu:Bu n u):Bu n (KY t u):=fun vs σ H Q Q' k ⟨v,r,e,q⟩=>
 ⟨v,r,e,ht v σ H _ _ (fun σ1 H1 q1 e1 l1=>hu r σ1 H1 Q Q' (fun σ2 H2 q2 e2 l2=>k σ2 H2 q2 (e2.trans e1) (l2.trans l1)) q1) q⟩
theorem xN {K:PySem.W.Frag} {n m:Nat} {t:TGs} (h:Bu n t):DU n (gTup K m t):=fun v σ H Q Q' k ⟨a,xs,e,hs,hl,q⟩=>⟨a,xs,e,hs,hl,h xs σ H Q Q' k q⟩
noncomputable def PTs (X:Cx) (ifs:List Expr) (t:TT):Prop:=
 ∀ (pins:List (Addr×Obj)) (s:Shared) (σ:St) (H:Hp) (Q:Bool→Hp→Prop),Inv X pins σ H s→t σ H Q→
  wpAny (model X.prog X.w) X.A (forIn ifs true fun c r=>if r=true then do let ok ← isTrue c X.env (eval c X.env);pure (ForInStep.yield ok) else pure (ForInStep.yield r)) (TP X pins σ Q) X.xe s
noncomputable def tYes:TT:=fun _ H Q=>Q true H
theorem bL {X:Cx}:PTs X [] tYes:=fun _ _ _ H _ I h=>wpAny_tests_nil ⟨H,I,h⟩
theorem uJ {X:Cx} {c:Expr} {t:TT} (h:PT X c t):PTs X [c] t:=fun pins s σ H Q I q=>wpAny_tests_one (h pins s σ H Q I q)
noncomputable def GW (n:Nat) (fx:List Nat) (wi:TI) (g:TG) (tc:TT) (te:TE):TE:=fun σ H Q=>wi σ H fun J H1=>∀ D,H1 D=none→
 ∃ W:Nat→Nat→List V→Hp→Prop,(∃ m,W 0 m [] (upd H1 D (.lst [])))∧∀ i m ys H2,W i m ys H2→(J.stop i H2∧Q (.ref D) H2)∨
   (J.go i H2∧∃ N:List V→Hp→Prop,(∀ ys' H',N ys' H'→∃ m',m' < m∧W (i + 1) m' ys' H')∧∀ x H3,J.yld i H2 x H3→g x (df n fx σ) H3 fun σ4 H4=>tc σ4 H4 fun b H5=>
    if b=true then te σ4 H5 fun v H6=>H6 D=some (.lst ys)∧ys.length < sizeLine∧N (ys++[v]) (upd H6 D (.lst (ys++[v]))) else N ys H5)
section
variable {X:Cx} {pins:List (Addr×Obj)} {σ:St} {H:Hp} {s:Shared}
theorem Dc {n:Nat} {fx:List Nat}:(df n fx σ).length=n + fx.length:=by unfold df;simp
theorem ue {n:Nat} {fx:List Nat} {i:Nat} {v:V} (e:(df n fx σ)[i]? =some (some v)):∃ k j,i=n + k∧fx[k]? =some j∧σ[j]? =some (some v):=by
 unfold df at e
 by_cases h:i < n
 ·rw [List.getElem?_append_left (by simpa using h),List.getElem?_replicate,if_pos h] at e
  cases e
 ·rw [List.getElem?_append_right (by simpa using h),List.length_replicate,List.getElem?_map] at e
  cases q:fx[i - n]? with
  | none=>rw [q] at e;cases e
  | some j=>
    rw [q] at e
    have e':(σ[j]?).join=some v:=Option.some.inj e
    refine ⟨i - n,j,by omega,q,?_⟩
    cases z:σ[j]? with
    | none=>rw [z] at e';cases e'
    | some o=>rw [z] at e';have:o=some v:=e';rw [this]
theorem Iy {osc:Scope} {ON N:List Str} {n:Nat} {fx:List Nat} {sc:Scope} {cl:List (Str×Addr)} {fp:List Addr} {h4:Heap} {tk:Nat}
  (ho:X.env.scope=osc) (hN:X.N=ON) (S:iI osc ON N n fx sc)
  (hcl1:∀ p∈cl,X.env.cells.lookup p.1=some p.2) (hcl2:∀ y∈sc.names,y.2= .free→∃ c,(y.1,c)∈cl)
  (I:Inv X pins σ H s) (hf:∀ b∈fp,FpOk X pins H b) (hfo:∀ b∈fp,b < s.heap.objs.size)
  (hns:∃ m,h4.Ns s.heap.objs.size m) (old:∀ b o,s.heap.get? b=some o→h4.get? b=some o):
  Inv (i6 X N sc cl s.heap.objs.size fp s H) [] (df n fx σ) H {s with heap:=h4,toks:=tk}:=by
 have look:∀ {x:Str} {c:Addr},cl.lookup x=some c→X.env.cells.lookup x=some c:=fun {x c} e=>hcl1 (x,c) (PySem.mem_of_lookup e)
 have ok:(i6 X N sc cl s.heap.objs.size fp s H).Ok:=by
  refine ⟨I.ok.mod,S.kind,I.ok.glob,I.ok.blt,Nat.le_refl _,fun x y c h1 h2=>I.ok.inj x y c (look h1) (look h2),fun x hx=>?_,fun x c z=>(by cases z),I.ok.hd,I.ok.frames,.inl rfl,fun b hb=>⟨Nat.ne_of_lt (hfo b hb),fun x c e=>(hf b hb).2.2.2.2.1 x c (look e)⟩,
   I.bs,Nat.le_trans I.ok.bsz I.sz,fun b o e hb=>?_,fun b hb z=>?_,I.stack,I.stkFree⟩
  ·have hx':∃ k',(k'=NameKind.cell∨k'=NameKind.free)∧(sc.names.map fun (n,k)=>if (k == NameKind.free&&X.env.scope.kind == .function&&X.env.kindOf n == some .cell) then (n,NameKind.cell) else (n,k)).lookup x=some k':=by
    rcases hx with hx | hx
    ·exact ⟨_,.inl rfl,hx⟩
    ·exact ⟨_,.inr rfl,hx⟩
   obtain ⟨k',hk,e⟩:=hx'
   obtain ⟨k,hm,z⟩:=lJ e
   have kf:k= .free:=by
    rcases z with z | z
    ·subst z
     rcases hk with q | q
     ·exact absurd q (S.noc _ hm)
     ·exact q
    ·exact z
   subst kf
   obtain ⟨c,hc⟩:=hcl2 _ hm rfl
   exact vu hc
  ·rcases (hf b hb).2.2.2.1 with z | z
   ·exact I.ok.noex b o e z
   ·exact absurd (Nat.lt_of_lt_of_le (Heap.lt_size (I.ok.bs b o e).1) z) (Nat.lt_irrefl _)
  ·rcases List.mem_cons.mp (I.stkSub b z) with q | q
   ·exact (hf b hb).2.1 q
   ·exact (hf b hb).2.2.1 q
 obtain ⟨m,hns⟩:=hns
 refine ⟨ok,rfl,I.bare,Un.kept old,⟨m,hns,fun i x v e1 e2 e3=>?_⟩,fun x c e=>?_,I.hok.fresh (Nat.le_refl _),fun x c e=>I.freeC x c (look e),fun p hp=>absurd (show p∈([]:List (Addr×Obj)) from hp) (by simp),I.hok.kept old,?_⟩
 ·obtain ⟨k,j,rfl,hj,hv⟩:=ue e2
  obtain ⟨x',j',a1,a2,a3,a4⟩:=S.frn k (List.getElem?_eq_some_iff.mp hj).1
  have ex:x'=x:=Option.some.inj (a1.symm.trans e1)
  have ej:j'=j:=Option.some.inj (a2.symm.trans hj)
  subst ex;subst ej
  obtain ⟨m',_,hl⟩:=I.loc
  have hk:X.env.scope.names.lookup x'=some .cell∨X.env.scope.names.lookup x'=some .free:=by rw [ho];exact S.fre _ (PySem.mem_of_lookup a4) rfl
  have vis:Vis X.env.scope x':=by rcases hk with z | z;exact .inr (.inl z);exact .inr (.inr z)
  obtain ⟨u,r,q⟩:=hl j' x' v (by rw [hN];exact a3) hv vis
  rcases q with ⟨z,_⟩ | ⟨_,c,ec,ic⟩
  ·have z':X.env.scope.names.lookup x'=some .local:=z
   rcases hk with q | q<;>(rw [q] at z';cases z')
  ·refine ⟨u,r,.inr ⟨n8 a4,c,?_,ic.keeps old⟩⟩
   obtain ⟨c0,hc0⟩:=hcl2 _ (PySem.mem_of_lookup a4) rfl
   obtain ⟨c1,hc1⟩:=vu hc0
   have:=look hc1
   rw [ec] at this
   cases this
   exact hc1
 ·obtain ⟨v,q⟩:=I.cell x c (look e)
  exact ⟨v,q.keeps old⟩
 ·show _=N.length
  rw [Dc,S.len]
theorem yd {osc:Scope} {ON N:List Str} {n:Nat} {fx:List Nat} {sc:Scope} {cl:List (Str×Addr)} {elt tg iter:Expr} {ifs:List Expr} {pos:Pos} {wi:TI} {g:TG} {tc:TT} {te:TE} {Q:VK} {RR:Value→Addr→Result→Shared→Prop}
  (hcalm:X.calm=true) (ho:X.env.scope=osc) (hN:X.N=ON) (S:iI osc ON N n fx sc)
  (hcl1:∀ p∈cl,X.env.cells.lookup p.1=some p.2) (hcl2:∀ y∈sc.names,y.2= .free→∃ c,(y.1,c)∈cl)
  (hi:PI X tg iter wi) (gk:DU n g) (hb:∀ cl C fp s H,PG (i6 X N sc cl C fp s H) tg g∧PTs (i6 X N sc cl C fp s H) ifs tc∧PE (i6 X N sc cl C fp s H) elt te)
  (I:Inv X pins σ H s) (h:GW n fx wi g tc te σ H Q)
  (hRR:∀ D C H' s',Inv X pins σ H' s'→(∃ m,s'.heap.Ns C m)→FpOk X pins H' C→Q (.ref D) H'→RR (.ref D) C (.ok .next) s'):
  wpAny (model X.prog X.w) X.A (eval iter X.env) (fun x s₁=>wpAny (model X.prog X.w) X.A (pyIter x) (fun it s₂=>wpAny (model X.prog X.w) X.A (newList []) (fun acc s₃=>
   wpAny (model X.prog X.w) X.A (newFunctionEnv sc X.env.globals cl [] X.env.qual none .none (some X.env)) (fun cenv s₄=>
    codeAny (model X.prog X.w) X.A (.compStart (.ListComp elt [⟨tg,iter,ifs,0⟩] sc pos) 0 it acc {cenv with scope:=relabel sc X.env}) (RR acc cenv.locals) s₄) X.xe s₃) X.xe s₂) X.xe s₁) X.xe s:=by
 refine thn (hi pins s σ H _ I h) fun v s1 h1=>thn h1 fun itv s2 h2=>?_
 obtain ⟨it,fp,tn,J,H2,e2,I2,T,st2,f2,hW⟩:=h2
 subst e2
 obtain ⟨W,⟨m0,w0⟩,hturn⟩:=hW s2.heap.objs.size I2.fresh
 refine wpAny_newObj_type ?_
 have I3:Inv X pins σ (upd H2 s2.heap.objs.size (.lst [])) {s2 with heap:=s2.heap.push {cls:= .type "list",data:= .seq ([]:List Value).toArray}}:=I2.lnew (t':=s2.toks) (its:=[]) .nil (Nat.zero_le _)
 have f3:∀ b∈fp,FpOk X pins (upd H2 s2.heap.objs.size (.lst [])) b∧b < s2.heap.objs.size:=fun b hb=>by
  obtain ⟨o,e,_⟩:=T.obj _ _ st2 b hb
  have l:=Heap.lt_size e
  obtain ⟨a1,a2⟩:=f2 b hb
  exact ⟨⟨by rw [aJ (Nat.ne_of_lt l)];exact a1,a2⟩,l⟩
 have sz:({s2 with heap:=s2.heap.push {cls:= .type "list",data:= .seq ([]:List Value).toArray}}:Shared).heap.objs.size=s2.heap.objs.size + 1:=Heap.size_push ..
 generalize hs3:({s2 with heap:=s2.heap.push {cls:= .type "list",data:= .seq ([]:List Value).toArray}}:Shared)=s3 at I3 sz ⊢
 generalize hH3:upd H2 s2.heap.objs.size (.lst [])=H3 at I3 f3 w0
 have old3:∀ b o,s2.heap.get? b=some o→s3.heap.get? b=some o:=fun b o e=>by rw [← hs3];exact Heap.get?_push_of_some _ e
 refine wpAny_newFunctionEnv (fun y hy=>S.noc y hy) (fun y hy=>nomatch hy) (fun h4 hns hsb=>?_) S.kind
 have old4:∀ b o,s3.heap.get? b=some o→h4.get? b=some o:=fun b o e=>hsb.extBut b o (Nat.ne_of_lt (Heap.lt_size e)) (Heap.get?_push_of_some _ e)
 have I4:=Iy (tk:=s3.toks + ([]:List (Str×Value)).length) ho hN S hcl1 hcl2 I3 (fun b hb=>(f3 b hb).1) (fun b hb=>by rw [sz];exact Nat.lt_succ_of_lt (f3 b hb).2) ⟨_,hns⟩ old4
 have hb':=hb cl s3.heap.objs.size fp s3 H3
 generalize hY:i6 X N sc cl s3.heap.objs.size fp s3 H3=Y at I4 hb'
 have stat:∀ {H':Hp},(∀ b∈fp,H' b=none)→∀ b∈fp,FpOk Y [] H' b:=fun {H'} hn b hb=>by
  subst hY
  obtain ⟨⟨a1,a2,a3,a4,a5,a6⟩,l⟩:=f3 b hb
  refine ⟨hn b hb,Nat.ne_of_lt (show b < s3.heap.objs.size by rw [sz];exact Nat.lt_succ_of_lt l),fun z=>?_,.inl hb,fun x c e=>a5 x c (hcl1 (x,c) (PySem.mem_of_lookup e)),fun p hp=>absurd (show p∈([]:List (Addr×Obj)) from hp) (by simp)⟩
  rcases List.mem_cons.mp (I3.stkSub b z) with q | q
  ·exact a2 q
  ·exact a3 q
 have fin:∀ {σ6:St} {H6:Hp} {s6:Shared},Inv Y [] σ6 H6 s6→Q (.ref s2.heap.objs.size) H6→RR (.ref s2.heap.objs.size) s3.heap.objs.size (.ok .next) s6:=fun {σ6 H6 s6} I6 q=>by
  subst hY
  refine hRR _ _ H6 s6 ?_ (let ⟨m,hm,_⟩:=I6.loc;⟨m,hm⟩) (I3.fpOk (Nat.le_refl _) I6.free) q
  obtain ⟨hh,gg,dd,tt,os'⟩:=s6
  obtain rfl:os'=s3.os:=I6.os
  exact I3.call (h':=hh) (g':=gg) (d':=dd) (t':=tt) (ch:=fp) I6.base I6.hok I6.bare fun b hb=>by
   obtain ⟨⟨a1,a2,a3,a4,a5,a6⟩,l⟩:=f3 b hb
   exact ⟨a4,a2,a5,a6⟩
 have pY:Y.prog=X.prog:=by subst hY;rfl
 have wY:Y.w=X.w:=by subst hY;rfl
 have kY:Y.K=X.K:=by subst hY;rfl
 have aY:Y.A=X.A:=by subst hY;rfl
 have cY:Y.calm=true:=by subst hY;exact hcalm
 have eY:Y.env=compEnvC sc cl s3.heap.objs.size X.env:=by subst hY;rfl
 have xY:Y.xe=fun _ _=>False:=by subst hY;rfl
 have T':Turn Y.prog Y.w Y.K tg J fp it tn:=by rw [pY,wY,kY];exact T
 have tn4:tn 0 h4:=T.keep _ _ _ st2 fun b hb o e=>old4 b o (old3 b o e)
 have loop:codeAny (model X.prog X.w) X.A (.compLoop (.ListComp elt [⟨tg,iter,ifs,0⟩] sc pos) 0 (.ref it) (.ref s2.heap.objs.size) (compEnvC sc cl s3.heap.objs.size X.env)) (RR (.ref s2.heap.objs.size) s3.heap.objs.size)
   {s3 with heap:=h4,toks:=s3.toks + ([]:List (Str×Value)).length}:=by
  rw [← pY,← wY,← aY,← eY]
  refine Da (fun k s'=>∃ i ys σ' H',Inv Y [] σ' H' s'∧σ'.drop n=(df n fx σ).drop n∧σ'.length=(df n fx σ).length∧tn i s'.heap∧(∀ b∈fp,H' b=none)∧W i k ys H') ?_ m0 ⟨0,[],_,H3,I4,rfl,rfl,tn4,fun b hb=>(f3 b hb).1.1,w0⟩
  rintro k s5 ⟨i,ys,σ5,H5,I5,ed,el,st5,fr5,w5⟩
  have I5:Inv Y [] (df n fx σ) H5 s5:=I5.weak el.symm fun j v e=>by
   obtain ⟨k',j',rfl,_,_⟩:=ue e
   have q:=congrArg (fun l=>l[k']?) ed
   simp only [List.getElem?_drop] at q
   rw [q];exact e
  rcases hturn i k ys H5 w5 with ⟨stop,q⟩ | ⟨go,N',hN',step⟩
  ·refine wpAny_mono (T'.done Y rfl rfl rfl cY i [] s5 _ H5 (fun _ _=>False) I5 (stat fr5) st5 stop) (fun r s6 ⟨hr,I6⟩=>?_) fun _ _ z=>z
   subst hr
   exact fin I6 q
  ·rw [← xY]
   refine thn (T'.item Y rfl rfl rfl cY i [] s5 _ H5 Y.xe I5 (stat fr5) st5 go) fun r s6 ⟨u,hr,h6⟩=>?_
   subst hr
   show wpAny _ _ _ _ _ _
   refine thn h6 fun _ s7 ⟨x,H7,I7,r7,y7,st7,fr7⟩=>?_
   have I7':=I7.pinned (stat fr7) (T.obj _ _ st7)
   refine thn (hb'.1 _ s7 _ H7 x u _ I7' r7 (gk _ _ _ _ _ (fun σ' H' q e l=>(⟨q,e,l⟩:_∧_∧_)) (step x H7 y7))) fun _ s8 ⟨σ8,H8,I8,q8,ed8,el8⟩=>?_
   refine thn (hb'.2.1 _ s8 σ8 H8 _ I8 q8) fun ok s9 ⟨H9,I9,q9⟩=>?_
   have again:∀ {H10:Hp} {s10:Shared} {zs:List V},Inv Y ([]++wU fp s7.heap) σ8 H10 s10→N' zs H10→
     ∃ m,m < k∧∃ i ys σ' H',Inv Y [] σ' H' s10∧σ'.drop n=(df n fx σ).drop n∧σ'.length=(df n fx σ).length∧tn i s10.heap∧(∀ b∈fp,H' b=none)∧W i m ys H':=fun {H10 s10 zs} I10 n10=>by
    obtain ⟨m',hm,w10⟩:=hN' _ _ n10
    refine ⟨m',hm,i + 1,zs,σ8,H10,I10.unpinned,ed8,el8,T.keep _ _ _ st7 fun b hb o e=>(I10.pin (b,o) (List.mem_append_right _ (List.mem_append_right _ (j4 hb e)))).1,fun b hb=>?_,w10⟩
    obtain ⟨o,e,d⟩:=T.obj _ _ st7 b hb
    exact (I10.pin (b,o) (List.mem_append_right _ (List.mem_append_right _ (j4 hb e)))).2.1
   cases ok with
   | false=>exact again I9 q9
   | true=>
     rw [if_pos rfl]
     refine thn (hb'.2.2 _ s9 σ8 H9 _ I9 q9) fun y s10 ⟨v',H10,I10,r10,hD10,hl10,n10⟩=>?_
     refine thn (dW (X:=Y) _ s10 σ8 H10 (.ref s2.heap.objs.size) [v'] (.ref s2.heap.objs.size) [y] (fun _ H'=>H'=upd H10 s2.heap.objs.size (.lst (ys++[v']))) I10 rfl (.cons r10 .nil) ⟨_,ys,v',rfl,rfl,hD10,hl10,rfl⟩) fun _ s11 ⟨_,H11,I11,_,e11⟩=>?_
     subst e11
     exact again I11 n10
 exact codeAny_compStart_list loop (T.self X.A 0 _ _ _ tn4 loop)
theorem dC {osc:Scope} {ON N:List Str} {n:Nat} {fx:List Nat} {sc:Scope} {elt tg iter:Expr} {ifs:List Expr} {pos:Pos} {wi:TI} {g:TG} {tc:TT} {te:TE}
  (hcalm:X.calm=true) (ho:X.env.scope=osc) (hN:X.N=ON) (S:Bn osc ON N n fx sc=true) (hi:PI X tg iter wi) (gk:DU n g)
  (hb:∀ cl C fp s H,PG (i6 X N sc cl C fp s H) tg g∧PTs (i6 X N sc cl C fp s H) ifs tc∧PE (i6 X N sc cl C fp s H) elt te)
  (hs:∀ x,foldedSetIterable iter X.env x=pure x:=by intro _;rfl):PE X (.ListComp elt [⟨tg,iter,ifs,0⟩] sc pos) (GW n fx wi g tc te):=by
 intro pins s σ H Q I h
 have S:=iI.of S
 obtain ⟨cl,hcl,hcl1,hcl2⟩:=uf sc X.env fun y hy hf=>I.ok.has y.1 (by show X.env.scope.names.lookup y.1=some .cell∨X.env.scope.names.lookup y.1=some .free;rw [ho];exact S.fre y hy hf)
 rw [eval_ListComp]
 refine wpAny_comprehension_free (use:=none) rfl hs hcl S.kind S.own (yd (RR:=fun acc C=>compPost (model X.prog X.w) X.A X.xe none (EP X pins σ Q) acc C) hcalm ho hN S hcl1 hcl2 hi gk hb I h ?_)
 intro D C H' s' I' hm hf q
 obtain ⟨m,hm⟩:=hm
 obtain ⟨f0,f1,f2,f3,f4,f5⟩:=hf
 exact ⟨m,hm,fun h' hsb=>⟨.ref D,H',I'.turned (t':=s'.toks) (fun b o hb e=>(hsb.2 b hb).trans e) f0 f1 f3 f4 f5,rfl,q⟩⟩
theorem gi {i:Nat} {x:Str} {px:Pos} {spos:Pos} {osc:Scope} {ON N:List Str} {n:Nat} {fx:List Nat} {sc:Scope} {elt tg iter:Expr} {ifs:List Expr} {pos:Pos} {wi:TI} {g:TG} {tc:TT} {te:TE}
  (hnd:X.N.Nodup) (hx:X.N[i]? =some x) (hl:X.env.scope.names.lookup x=some .local) (hsw:swapsWith (.ListComp elt [⟨tg,iter,ifs,0⟩] sc pos) (some (.Name x px)) spos.line X.env=pure true)
  (hcalm:X.calm=true) (ho:X.env.scope=osc) (hN:X.N=ON) (S:Bn osc ON N n fx sc=true) (hi:PI X tg iter wi) (gk:DU n g)
  (hb:∀ cl C fp s H,PG (i6 X N sc cl C fp s H) tg g∧PTs (i6 X N sc cl C fp s H) ifs tc∧PE (i6 X N sc cl C fp s H) elt te)
  (hs:∀ x,foldedSetIterable iter X.env x=pure x:=by intro _;rfl):PS X (.Assign [.Name x px] (.ListComp elt [⟨tg,iter,ifs,0⟩] sc pos) spos) (tAsg (GW n fx wi g tc te) (FO i)):=by
 intro pins s σ H D I h
 have S:=iI.of S
 obtain ⟨cl,hcl,hcl1,hcl2⟩:=uf sc X.env fun y hy hf=>I.ok.has y.1 (by show X.env.scope.names.lookup y.1=some .cell∨X.env.scope.names.lookup y.1=some .free;rw [ho];exact S.fre y hy hf)
 rw [exec_Assign_Name_used _ _ _ _ hsw]
 refine wpAny_bind (wpAny_standAt (wpAny_bind ?_))
 show wpAny _ X.A (do let _ ← comprehension (.ListComp elt [⟨tg,iter,ifs,0⟩] sc pos) sc X.env _ (newList []) false (eval iter X.env) (some (assign (.Name x px) X.env))) _ _ s
 refine wpAny_bind (thn (wpAny_comprehension_free (use:=some (assign (.Name x px) X.env)) (Q:=fun _ s'=>SP X pins D .next s') rfl hs hcl S.kind S.own
  (yd (RR:=fun acc C=>compPost (model X.prog X.w) X.A X.xe (some (assign (.Name x px) X.env)) (fun _ s'=>SP X pins D .next s') acc C) hcalm ho hN S hcl1 hcl2 hi gk hb I h ?_)) fun _ s' q=>wpAny_pure (wpAny_pure q))
 intro D' C H' s' I' hm hf q
 obtain ⟨m,hm⟩:=hm
 obtain ⟨f0,f1,f2,f3,f4,f5⟩:=hf
 show wpAny _ X.A (assign (.Name x px) X.env (.ref D')) _ _ _
 refine wpAny_assign_Name (wH I' hnd hx (.inl hl) (v:= .ref D') rfl (fun s2 I2 hch=>?_) (.inr hl))
 obtain ⟨a,hsb,ha⟩:=hch
 have hCa:C≠a:=by
  rcases ha with z | z
  ·rw [z];exact f1
  ·exact fun e=>f4 _ _ z e.symm
 exact ⟨m,hm.sameBut hsb hCa,fun h' hsb'=>⟨_,H',I2.turned (t':=s2.toks) (fun b o hb e=>(hsb'.2 b hb).trans e) f0 f1 f3 f4 f5,q⟩⟩
end
section
variable {K:PySem.W.Frag} {n:Nat} {fx:List Nat} {g:TG} {tc:TT} {te:TE} {σ:St} {H1:Hp} {D:Addr} {Q:Hp→Prop}
theorem nU {lo:Int} {k:Nat} (Pv:Nat→List V→Hp→Prop) (h0:Pv 0 [] (upd H1 D (.lst [])))
  (hs:∀ i ys H,i < k→Pv i ys H→g (.int (lo + i)) (df n fx σ) H fun σ4 H4=>tc σ4 H4 fun b H5=>if b=true then te σ4 H5 fun v H6=>H6 D=some (.lst ys)∧ys.length < sizeLine∧Pv (i + 1) (ys++[v]) (upd H6 D (.lst (ys++[v]))) else Pv (i + 1) ys H5)
  (hd:∀ ys H,Pv k ys H→Q H):
  ∃ W:Nat→Nat→List V→Hp→Prop,(∃ m,W 0 m [] (upd H1 D (.lst [])))∧∀ i m ys H2,W i m ys H2→((Itr lo k).stop i H2∧Q H2)∨
    ((Itr lo k).go i H2∧∃ N:List V→Hp→Prop,(∀ ys' H',N ys' H'→∃ m',m' < m∧W (i + 1) m' ys' H')∧∀ x H3,(Itr lo k).yld i H2 x H3→g x (df n fx σ) H3 fun σ4 H4=>tc σ4 H4 fun b H5=>
      if b=true then te σ4 H5 fun v H6=>H6 D=some (.lst ys)∧ys.length < sizeLine∧N (ys++[v]) (upd H6 D (.lst (ys++[v]))) else N ys H5):=by
 refine ⟨fun i m ys H=>m=k - i∧i≤k∧Pv i ys H,⟨k,by simp,Nat.zero_le _,h0⟩,?_⟩
 rintro i m ys H ⟨rfl,hi,p⟩
 by_cases hlt:i < k
 ·refine .inr ⟨hlt,Pv (i + 1),fun ys' H' p'=>⟨k - (i + 1),by omega,rfl,hlt,p'⟩,fun x H' y=>?_⟩
  obtain ⟨e,y⟩:=y
  subst e;subst y
  exact hs i ys _ hlt p
 ·have e:i=k:=by omega
  subst e
  exact .inl ⟨Nat.le_refl _,hd ys H p⟩
theorem bw {a:Addr} {xs:List V} (Pv:Nat→List V→Hp→Prop) (h0:Pv 0 [] (upd H1 D (.lst []))) (hl:∀ i ys H,i≤xs.length→Pv i ys H→SqL K H a xs)
  (hs:∀ i x ys H,xs[i]? =some x→Pv i ys H→g x (df n fx σ) H fun σ4 H4=>tc σ4 H4 fun b H5=>if b=true then te σ4 H5 fun v H6=>H6 D=some (.lst ys)∧ys.length < sizeLine∧Pv (i + 1) (ys++[v]) (upd H6 D (.lst (ys++[v]))) else Pv (i + 1) ys H5)
  (hd:∀ ys H,Pv xs.length ys H→Q H):
  ∃ W:Nat→Nat→List V→Hp→Prop,(∃ m,W 0 m [] (upd H1 D (.lst [])))∧∀ i m ys H2,W i m ys H2→((Itl K a).stop i H2∧Q H2)∨
    ((Itl K a).go i H2∧∃ N:List V→Hp→Prop,(∀ ys' H',N ys' H'→∃ m',m' < m∧W (i + 1) m' ys' H')∧∀ x H3,(Itl K a).yld i H2 x H3→g x (df n fx σ) H3 fun σ4 H4=>tc σ4 H4 fun b H5=>
      if b=true then te σ4 H5 fun v H6=>H6 D=some (.lst ys)∧ys.length < sizeLine∧N (ys++[v]) (upd H6 D (.lst (ys++[v]))) else N ys H5):=by
 refine ⟨fun i m ys H=>m=xs.length - i∧i≤xs.length∧Pv i ys H,⟨xs.length,by simp,Nat.zero_le _,h0⟩,?_⟩
 rintro i m ys H ⟨rfl,hi,p⟩
 have q:=hl i ys H hi p
 by_cases hlt:i < xs.length
 ·refine .inr ⟨⟨xs,xs[i],q,by simp [hlt]⟩,Pv (i + 1),fun ys' H' p'=>⟨xs.length - (i + 1),by omega,rfl,hlt,p'⟩,fun x H' y=>?_⟩
  obtain ⟨e,y⟩:=y
  subst e
  exact hs i x ys _ (y xs q) p
 ·have e:i=xs.length:=by omega
  subst e
  exact .inl ⟨⟨xs,q,Nat.le_refl _⟩,hd ys H p⟩
theorem Bm {a:Addr} {xs:List V} (Pv:Nat→List V→Hp→Prop) (h0:Pv 0 [] (upd H1 D (.lst []))) (hl:∀ i ys H,i≤xs.length→Pv i ys H→SqT K H a xs)
  (hs:∀ i x ys H,xs[i]? =some x→Pv i ys H→g x (df n fx σ) H fun σ4 H4=>tc σ4 H4 fun b H5=>if b=true then te σ4 H5 fun v H6=>H6 D=some (.lst ys)∧ys.length < sizeLine∧Pv (i + 1) (ys++[v]) (upd H6 D (.lst (ys++[v]))) else Pv (i + 1) ys H5)
  (hd:∀ ys H,Pv xs.length ys H→Q H):
  ∃ W:Nat→Nat→List V→Hp→Prop,(∃ m,W 0 m [] (upd H1 D (.lst [])))∧∀ i m ys H2,W i m ys H2→((Itt K a).stop i H2∧Q H2)∨
    ((Itt K a).go i H2∧∃ N:List V→Hp→Prop,(∀ ys' H',N ys' H'→∃ m',m' < m∧W (i + 1) m' ys' H')∧∀ x H3,(Itt K a).yld i H2 x H3→g x (df n fx σ) H3 fun σ4 H4=>tc σ4 H4 fun b H5=>
      if b=true then te σ4 H5 fun v H6=>H6 D=some (.lst ys)∧ys.length < sizeLine∧N (ys++[v]) (upd H6 D (.lst (ys++[v]))) else N ys H5):=by
 refine ⟨fun i m ys H=>m=xs.length - i∧i≤xs.length∧Pv i ys H,⟨xs.length,by simp,Nat.zero_le _,h0⟩,?_⟩
 rintro i m ys H ⟨rfl,hi,p⟩
 have q:=hl i ys H hi p
 by_cases hlt:i < xs.length
 ·refine .inr ⟨⟨xs,xs[i],q,by simp [hlt]⟩,Pv (i + 1),fun ys' H' p'=>⟨xs.length - (i + 1),by omega,rfl,hlt,p'⟩,fun x H' y=>?_⟩
  obtain ⟨e,y⟩:=y
  subst e
  exact hs i x ys _ (y xs q) p
 ·have e:i=xs.length:=by omega
  subst e
  exact .inl ⟨⟨xs,q,Nat.le_refl _⟩,hd ys H p⟩
end
noncomputable def k7 (K:PySem.W.Frag) (H:Hp) (x:V) (k:String):Prop:=match x with
 | .non=>k="NoneType"
 | .bl _=>k="bool"
 | .int _=>k="int"
 | .str _=>k="str"
 | .ref p=>(k="list"∧∃ xs,SqL K H p xs)∨(k="tuple"∧∃ xs,SqT K H p xs)∨(k="dict"∧∃ kvs,Rd H p (.dK kvs))
 | _=>False
noncomputable def subB (k T:String):Bool:=k == T||(k == "bool"&&T == "int")
noncomputable def rIsi (K:PySem.W.Frag):List V→Hp→VK→Prop:=fun xs H Q=>∃ x k T,xs=[x,.ty T]∧k7 K H x k∧T∈["int","bool","str","list","tuple","dict"]∧Q (.bl (subB k T)) H
section
variable {X:Cx}
theorem IA:jU X (.builtin "isinstance") (rIsi X.K):=by
 intro pins s σ H xs us Q I r h
 obtain ⟨x,k,T,rfl,hk,hT,q⟩:=h
 obtain ⟨u,v,rfl,rx,rt⟩:=Lu r
 cases rt
 have f0:∀ b,b=subB k T→EP X pins σ Q (.bool b) s:=fun b e=>⟨.bl b,H,I,rfl,by rw [e];exact q⟩
 have f1:∀ b,b=subB k T→EP X pins σ Q (.bool b) {s with toks:=s.toks + 1}:=fun b e=>⟨.bl b,H,I.tok _,rfl,by rw [e];exact q⟩
 simp only [List.mem_cons,List.not_mem_nil,or_false] at hT
 cases x with
 | non=>
   cases rx;cases hk
   rcases hT with rfl | rfl | rfl | rfl | rfl | rfl
   ·exact IsiPair.NoneType_int (f1 _ (by decide))
   ·exact IsiPair.NoneType_bool (f1 _ (by decide))
   ·exact IsiPair.NoneType_str (f1 _ (by decide))
   ·exact IsiPair.NoneType_list (f1 _ (by decide))
   ·exact IsiPair.NoneType_tuple (f1 _ (by decide))
   ·exact IsiPair.NoneType_dict (f1 _ (by decide))
 | bl b=>
   cases rx;cases hk
   rcases hT with rfl | rfl | rfl | rfl | rfl | rfl
   ·exact IsiPair.bool_int (f0 _ (by decide))
   ·exact IsiPair.bool_bool (f0 _ (by decide))
   ·exact IsiPair.bool_str (f1 _ (by decide))
   ·exact IsiPair.bool_list (f1 _ (by decide))
   ·exact IsiPair.bool_tuple (f1 _ (by decide))
   ·exact IsiPair.bool_dict (f1 _ (by decide))
 | int i=>
   obtain ⟨t,rfl⟩:=rx;cases hk
   rcases hT with rfl | rfl | rfl | rfl | rfl | rfl
   ·exact IsiPair.int_int (f0 _ (by decide))
   ·exact IsiPair.int_bool (f1 _ (by decide))
   ·exact IsiPair.int_str (f1 _ (by decide))
   ·exact IsiPair.int_list (f1 _ (by decide))
   ·exact IsiPair.int_tuple (f1 _ (by decide))
   ·exact IsiPair.int_dict (f1 _ (by decide))
 | str z=>
   obtain ⟨t,rfl⟩:=rx;cases hk
   rcases hT with rfl | rfl | rfl | rfl | rfl | rfl
   ·exact IsiPair.str_int (f1 _ (by decide))
   ·exact IsiPair.str_bool (f1 _ (by decide))
   ·exact IsiPair.str_str (f0 _ (by decide))
   ·exact IsiPair.str_list (f1 _ (by decide))
   ·exact IsiPair.str_tuple (f1 _ (by decide))
   ·exact IsiPair.str_dict (f1 _ (by decide))
 | ref p=>
   cases rx
   rcases hk with ⟨rfl,xs,hq⟩ | ⟨rfl,xs,hq⟩ | ⟨rfl,kvs,hq⟩
   ·obtain ⟨its,_,pl,_⟩:=I.list hq
    obtain ⟨o,ho,hc,_⟩:=pl.isList
    rcases hT with rfl | rfl | rfl | rfl | rfl | rfl
    ·exact IsiPair.list_int ho hc (f1 _ (by decide))
    ·exact IsiPair.list_bool ho hc (f1 _ (by decide))
    ·exact IsiPair.list_str ho hc (f1 _ (by decide))
    ·exact IsiPair.list_list ho hc (f0 _ (by decide))
    ·exact IsiPair.list_tuple ho hc (f1 _ (by decide))
    ·exact IsiPair.list_dict ho hc (f1 _ (by decide))
   ·obtain ⟨its,_,pl,_⟩:=I.tuple hq
    obtain ⟨o,ho,hc,_⟩:=pl
    rcases hT with rfl | rfl | rfl | rfl | rfl | rfl
    ·exact IsiPair.tuple_int ho hc (f1 _ (by decide))
    ·exact IsiPair.tuple_bool ho hc (f1 _ (by decide))
    ·exact IsiPair.tuple_str ho hc (f1 _ (by decide))
    ·exact IsiPair.tuple_list ho hc (f1 _ (by decide))
    ·exact IsiPair.tuple_tuple ho hc (f0 _ (by decide))
    ·exact IsiPair.tuple_dict ho hc (f1 _ (by decide))
   ·obtain ⟨_,_,_,_,o,_,_,ho,ex,_⟩:=hq.ok I.hok
    have hc:o.cls= .type "dict":=ex.1
    rcases hT with rfl | rfl | rfl | rfl | rfl | rfl
    ·exact IsiPair.dict_int ho hc (f1 _ (by decide))
    ·exact IsiPair.dict_bool ho hc (f1 _ (by decide))
    ·exact IsiPair.dict_str ho hc (f1 _ (by decide))
    ·exact IsiPair.dict_list ho hc (f1 _ (by decide))
    ·exact IsiPair.dict_tuple ho hc (f1 _ (by decide))
    ·exact IsiPair.dict_dict ho hc (f0 _ (by decide))
 | _=>exact False.elim hk
noncomputable def Mq:V→List V→Hp→VK→Prop:=fun x xs H Q=>∃ i,x= .int i∧xs=[]∧Q (.int (Builtin.Int.intBits i:Nat)) H
theorem kX:MtR X "int.bit_length" Mq:=by
 intro pins s σ H x xs v us Q I rx rs h
 obtain ⟨i,rfl,rfl,q⟩:=h
 obtain ⟨t,rfl⟩:=rx
 cases rs
 exact call_int_bit_length ⟨.int _,H,I.tok _,⟨_,rfl⟩,q⟩
noncomputable def eqVs (xs ys:List V):Bool:=xs.length == ys.length&&(List.range xs.length).all fun j=>eqV (xs.getD j .non) (ys.getD j .non)
noncomputable def rEqL (K:PySem.W.Frag) (neg:Bool):R2:=fun x y H Q=>∃ a b xs ys,x= .ref a∧y= .ref b∧SqL K H a xs∧SqL K H b ys∧xs.all rg=true∧ys.all rg=true∧Q (.bl (if neg then !eqVs xs ys else eqVs xs ys)) H
theorem mU {xs:List V} {us:List Value} (r:Vals xs us) {j:Nat} (h:j < us.toArray.size):RelV (xs.getD j .non) (us.toArray[j]):=by
 have hl:=r.length
 have h':j < us.length:=by simpa using h
 obtain ⟨u,e,ru⟩:=r.get (i:=j) (x:=xs.getD j .non) (by rw [List.getD_eq_getElem?_getD,List.getElem?_eq_getElem (by omega)];rfl)
 have e2:us.toArray[j]=u:=by
  rw [List.getElem?_eq_getElem h'] at e
  have:=Option.some.inj e
  simpa using this
 rw [e2];exact ru
theorem Ac {xs:List V} (f:xs.all rg=true) (j:Nat):rg (xs.getD j .non)=true:=by
 rw [List.getD_eq_getElem?_getD]
 cases e:xs[j]? with
 | none=>rfl
 | some x=>exact List.all_eq_true.mp f x (List.mem_of_getElem? e)
theorem Hh {pins:List (Addr×Obj)} {σ:St} {H:Hp} {s:Shared} {a b:Addr} {xs ys:List V} {A:Around} (hu:A.units < cLine) (I:Inv X pins σ H s) (ha:SqL X.K H a xs) (hb:SqL X.K H b ys) (fx:xs.all rg=true) (fy:ys.all rg=true):
  SeqAt.RcAt A s (.ref a) (.ref b) (eqVs xs ys)∧SeqAt.RcNeAt A s (.ref a) (.ref b) (!eqVs xs ys):=by
 obtain ⟨its,r,pl,_⟩:=I.list ha
 obtain ⟨jts,r',pl',_⟩:=I.list hb
 have l1:=r.length
 have l2:=r'.length
 by_cases hl:xs.length=ys.length
 ·have e:eqVs xs ys=(List.range its.toArray.size).all fun j=>eqV (xs.getD j .non) (ys.getD j .non):=by
   unfold eqVs
   rw [hl,beq_self_eq_true,Bool.true_and,List.size_toArray,← l1,hl]
  rw [e]
  have hz:its.toArray.size=jts.toArray.size:=by simp;omega
  have he:∀ j (h1:j < its.toArray.size) (h2:j < jts.toArray.size),SeqAt.EqAt A.in1 s its.toArray[j] jts.toArray[j] (eqV (xs.getD j .non) (ys.getD j .non)):=fun j h1 h2=>
   M4 (mU r h1) (mU r' h2) (Ac fx j) (Ac fy j)
  exact ⟨SeqAt.RcAt.lists pl.isList pl'.isList hz hu he,SeqAt.RcNeAt.lists pl.isList pl'.isList hz hu he⟩
 ·have e:eqVs xs ys=false:=by
   unfold eqVs
   rw [beq_eq_false_iff_ne.mpr hl,Bool.false_and]
  rw [e]
  have hz:(its.toArray.size != jts.toArray.size)=true:=by simp;omega
  exact ⟨SeqAt.RcAt.lists_lengths pl.isList pl'.isList hz hu,SeqAt.RcNeAt.lists_lengths pl.isList pl'.isList hz hu⟩
theorem ME (hu:X.A.units < cLine):OpR X (compareOp .NotEq) (rEqL X.K true):=by
 intro pins s σ H x y v u Q I rx ry h
 obtain ⟨a,b,xs,ys,rfl,rfl,ha,hb,fx,fy,q⟩:=h
 cases rx;cases ry
 exact (Hh hu I ha hb fx fy).2 X.prog X.w X.xe _ ⟨.bl _,H,I,rfl,q⟩
end
theorem FS {xs:List V} (f:xs.all rg=true):eqVs xs xs=true:=by
 unfold eqVs
 rw [beq_self_eq_true,Bool.true_and,List.all_eq_true]
 intro j _
 have:=Ac f j
 generalize xs.getD j .non=x at this
 cases x<;>first | rfl | exact beq_self_eq_true _ | cases this
theorem aO (a b:Nat):Builtin.bitAnd (a:Int) (b:Int)=((a&&&b:Nat):Int):=by
 unfold Builtin.bitAnd
 rw [decide_eq_true (Int.natCast_nonneg a),decide_eq_true (Int.natCast_nonneg b)]
 simp
section
variable {X:Cx} {K:PySem.W.Frag}
theorem gN (h:X.K=K):IxR X (rIxL K):=by subst h;exact KP
theorem aq (h:X.K=K):IxR X (rIxT K):=by subst h;exact MU
theorem zq (h:X.K=K) (hu:X.A.units < cLine):OpR X (compareOp .NotEq) (rEqL K true):=by subst h;exact ME hu
theorem cB (h:X.K=K):jU X (.builtin "isinstance") (rIsi K):=by subst h;exact IA
noncomputable def rLen (K:PySem.W.Frag):List V→Hp→VK→Prop:=fun xs H Q=>∃ x n,xs=[x]∧LenV K x H n∧Q (.int n) H
theorem bo (h:X.K=K):jU X (.builtin "len") (rLen K):=by subst h;exact Iz
noncomputable def zc (K:PySem.W.Frag):List V→Hp→VK→Prop:=fun xs H Q=>∃ p ys,xs=[.ref p]∧(SqL K H p ys∨SqT K H p ys)∧∀ l,H l=none→Q (.ref l) (upd H l (.lst ys))
theorem gc (h:X.K=K):jU X (.type "list") (zc K):=by subst h;exact yg
noncomputable def IX (K:PySem.W.Frag):List V→Hp→VK→Prop:=fun xs H Q=>∃ p ys,xs=[.ref p]∧((SqL K H p ys∧∀ l,H l=none→Q (.ref l) (upd H l (.tup ys)))∨(SqT K H p ys∧Q (.ref p) H))
theorem rQ (h:X.K=K):jU X (.type "tuple") (IX K):=by subst h;exact wb
theorem aZ {tg l:Expr} {tl:TE} (h:X.K=K) (hl:PE X l tl):PI X tg l (KR K tl):=by subst h;exact Kx hl
theorem EV {tg l:Expr} {tl:TE} (h:X.K=K) (hl:PE X l tl):PI X tg l (iTup K tl):=by subst h;exact Mx hl
theorem g7 {o:Expr} {to:TE} {name:Str} {apos cpos:Pos} {T id:String} {r:V→List V→Hp→VK→Prop} (h:X.K=K) (pa:PlainAttrs T) (slot:Slot T name id) (hty:typeOf (.builtin id)=pure (.type "method_descriptor")) (hm:MtR X id r) (ho:PE X o to)
  (hbase:attributeBase o name X.env (eval o X.env)=eval o X.env:=by rfl) (hline:(apos.endLine == cpos.line)=true:=by rfl):PE X (.Call (.Attribute o name apos) [] [] cpos) (tBM0 K T r to):=by subst h;exact MB pa slot hty hm ho hbase hline
theorem lM {o e:Expr} {es:List Expr} {to:TE} {t:TA} {name:Str} {apos cpos:Pos} {T id:String} {r:V→List V→Hp→VK→Prop} (h:X.K=K) (pa:PlainAttrs T) (slot:Slot T name id) (hty:typeOf (.builtin id)=pure (.type "method_descriptor")) (hm:MtR X id r) (ho:PE X o to) (ha:PA X (e::es) t)
  (hbase:attributeBase o name X.env (eval o X.env)=eval o X.env:=by rfl)
  (hfew:((backTo cpos (starEach (e::es) X.env)).all (fun x=> !x.1)&&(backToKw cpos (keywordEach [] X.env)).all (fun x=>x.1.isSome)
   &&decide ((e::es).length + ([]:List Keyword).length + (if ([]:List Keyword).isEmpty then 0 else 1) < 30))=true:=by rfl)
  (hline:(apos.endLine == cpos.line)=true:=by rfl) (hs:starEach (e::es) X.env=(false,eval e X.env)::starEach es X.env:=by rfl) (hplain:(backTo cpos (starEach es X.env)).any (·.1)=false:=by rfl):
  PE X (.Call (.Attribute o name apos) (e::es) [] cpos) (tBM K T r to t):=by subst h;exact NV pa slot hty hm ho ha hbase hfew hline hs hplain
end
noncomputable def Mr (K:PySem.W.Frag):List V→Hp→VK→Prop:=fun xs H Q=>∃ (a:Addr) (bs:List Bool),xs=[.ref a]∧SqL K H a (bs.map V.bl)∧Q (.bl (bs.all id)) H
section
variable {X:Cx} {K:PySem.W.Frag}
theorem K7 {bs:List Bool} {its:List Value} (rv:Vals (bs.map V.bl) its) {i:Nat} {v:Value} (h:its.toArray[i]? =some v):v= .bool (bs.getD i false):=by
 have h':its[i]? =some v:=by simpa using h
 have hi:i < its.length:=(List.getElem?_eq_some_iff.mp h').1
 have hl:=rv.length
 rw [List.length_map] at hl
 obtain ⟨u,e,r⟩:=rv.get (i:=i) (x:= .bl (bs.getD i false)) (by rw [List.getElem?_map,List.getElem?_eq_getElem (by omega),List.getD_eq_getElem?_getD,List.getElem?_eq_getElem (by omega)];rfl)
 rw [h'] at e
 cases e
 exact r
theorem Ng (bs:List Bool):(List.range bs.length).all (fun i=>bs.getD i false)=bs.all id:=by
 rw [Bool.eq_iff_iff,List.all_eq_true,List.all_eq_true]
 constructor
 ·intro h x hx
  obtain ⟨i,hi,e⟩:=List.mem_iff_getElem.mp hx
  have:=h i (List.mem_range.mpr hi)
  rw [List.getD_eq_getElem?_getD,List.getElem?_eq_getElem hi,e] at this
  exact this
 ·intro h i hi
  have hi:=List.mem_range.mp hi
  rw [List.getD_eq_getElem?_getD,List.getElem?_eq_getElem hi]
  exact h _ (List.getElem_mem hi)
theorem Ge (h:X.K=K) (hc:X.calm=true):jU X (.builtin "all") (Mr K):=by
 subst h
 intro pins s σ H xs us Q I r h
 obtain ⟨a,bs,rfl,hq,q⟩:=h
 obtain ⟨u,rfl,ru⟩:=uq r
 cases ru
 obtain ⟨its,rv,pl,hz⟩:=I.list hq
 have lt:a < s.heap.objs.size:=let ⟨o,e,_⟩:=pl.isList;Heap.lt_size e
 have hl:its.toArray.size=bs.length:=by have:=rv.length;rw [List.length_map] at this;simp [this]
 refine call_all_walk (wpAny_pyIter_list pl.isList ⟨s.heap.objs.size,_,_,its.toArray.size,_,_,fun i=>bs.getD i false,rfl,Walks.list (A:=X.A.in1) (I.ok.hd hc) s.heap.objs.size a (Nat.ne_of_lt lt) its.toArray,⟨⟨_,Heap.get?_push_size _ rfl,rfl,rfl⟩,let ⟨o,e,c⟩:=pl.isList;⟨o,Heap.get?_push_of_some _ e,c⟩⟩,fun i v s Q E hv hQ=>by rw [K7 rv hv];exact wpAny_truthy_bool hQ,fun h' tk kk=>?_⟩)
 rw [hl,Ng]
 exact ⟨.bl _,H,I.kept (fun b o e=>kk b o (fun hm=>by have:=Heap.lt_size e;rw [List.mem_singleton.mp hm] at this;exact absurd this (Nat.lt_irrefl _)) (Heap.get?_push_of_some _ e)),rfl,q⟩
end
inductive Dt where
 | non | bl (b:Bool) | int (i:Int) | str (x:Str) | lst (xs:List Dt) | tup (xs:List Dt)
inductive Rep (K:PySem.W.Frag) (H:Hp):V→Dt→Prop where
 | non:Rep K H .non .non
 | bl (b:Bool):Rep K H (.bl b) (.bl b)
 | int (i:Int):Rep K H (.int i) (.int i)
 | str (x:Str):Rep K H (.str x) (.str x)
 | lst {p:Addr} {xs:List V} {ds:List Dt} (h:SqL K H p xs) (l:xs.length=ds.length) (r:∀ (i:Nat) x d,xs[i]? =some x→ds[i]? =some d→Rep K H x d):Rep K H (.ref p) (.lst ds)
 | tup {p:Addr} {xs:List V} {ds:List Dt} (h:SqT K H p xs) (l:xs.length=ds.length) (r:∀ (i:Nat) x d,xs[i]? =some x→ds[i]? =some d→Rep K H x d):Rep K H (.ref p) (.tup ds)
theorem Same.tup {K:PySem.W.Frag} {H H':Hp} {a:Addr} {xs:List V} (e:Same H H') (h:SqT K H a xs):SqT K H' a xs:=by
 rcases h with (h | ⟨o,h⟩) | h
 ·exact .inl (.inl (e _ _ h))
 ·exact .inl (.inr ⟨o,e _ _ h⟩)
 ·exact .inr h
theorem Rep.same {K:PySem.W.Frag} {H H':Hp} (e:Same H H') {x:V} {d:Dt} (r:Rep K H x d):Rep K H' x d:=by
 induction r with
 | non=>exact .non
 | bl b=>exact .bl b
 | int i=>exact .int i
 | str x=>exact .str x
 | lst h l r ih=>exact .lst (e.seq h) l ih
 | tup h l r ih=>exact .tup (e.tup h) l ih
mutual
noncomputable def eqD:Dt→Dt→Bool
 | .non,.non=>true
 | .bl a,.bl b=>a == b
 | .bl a,.int b=>(if a then 1 else 0) == b
 | .int a,.bl b=>a == (if b then 1 else 0)
 | .int a,.int b=>a == b
 | .str a,.str b=>a == b
 | .lst xs,.lst ys=>eqDs xs ys
 | .tup xs,.tup ys=>eqDs xs ys
 | _,_=>false
noncomputable def eqDs:List Dt→List Dt→Bool
 | [],[]=>true
 | x::xs,y::ys=>eqD x y&&eqDs xs ys
 | _,_=>false
end
mutual
noncomputable def depD:Dt→Nat
 | .lst xs=>hX xs + 1
 | .tup xs=>hX xs + 1
 | _=>0
noncomputable def hX:List Dt→Nat
 | []=>0
 | x::xs=>max (depD x) (hX xs)
end
theorem FU {ds:List Dt} {d:Dt} (h:d∈ds):depD d≤hX ds:=by
 induction ds with
 | nil=>cases h
 | cons x xs ih=>
   rw [hX]
   rcases List.mem_cons.mp h with rfl | h
   ·omega
   ·have:=ih h;omega
theorem vN:∀ {xs ys:List Dt},xs.length≠ys.length→eqDs xs ys=false
 | [],[],h=>absurd rfl h
 | [],_::_,_=>rfl
 | _::_,[],_=>rfl
 | x::xs,y::ys,h=>by rw [eqDs,vN (fun z=>h (by simp [z])),Bool.and_false]
theorem vO:∀ {xs ys:List Dt},xs.length=ys.length→eqDs xs ys=(List.range xs.length).all fun i=>eqD (xs.getD i .non) (ys.getD i .non)
 | [],[],_=>rfl
 | [],_::_,h=>by cases h
 | _::_,[],h=>by cases h
 | x::xs,y::ys,h=>by
   rw [eqDs,vO (by simpa using h),List.length_cons,List.range_succ_eq_map,List.all_cons,List.all_map]
   rfl
theorem pO:∀ d:Dt,eqD d d=true:=by
 intro d
 refine Dt.rec (motive_1:=fun d=>eqD d d=true) (motive_2:=fun ds=>eqDs ds ds=true) ?_ ?_ ?_ ?_ ?_ ?_ ?_ ?_ d
 ·rfl
 ·intro b;simp [eqD]
 ·intro b;simp [eqD]
 ·intro b;simp [eqD]
 ·intro xs h;rw [eqD];exact h
 ·intro xs h;rw [eqD];exact h
 ·rfl
 ·intro x xs h1 h2;rw [eqDs,h1,h2];rfl
theorem Jt:∀ {d e:Dt},d=e→eqD d e=true:=fun h=>by subst h;exact pO _
section
variable {X:Cx} {pins:List (Addr×Obj)} {σ:St} {H:Hp} {s:Shared}
theorem Inv.notBoth (I:Inv X pins σ H s) {p:Addr} {xs ys:List V} (h1:SqL X.K H p xs) (h2:SqT X.K H p ys):False:=by
 obtain ⟨_,_,pl,_⟩:=I.list h1
 obtain ⟨_,_,⟨o,ho,hc,_⟩,_⟩:=I.tuple h2
 obtain ⟨o',n,ho',hc',_⟩:=pl
 rw [ho] at ho';cases ho'
 rw [hc] at hc'
 exact absurd hc' (by decide)
theorem Rep.fun (I:Inv X pins σ H s) {x:V} {d:Dt} (r:Rep X.K H x d):∀ {e:Dt},Rep X.K H x e→d=e:=by
 induction r with
 | non=>intro e q;cases q;rfl
 | bl b=>intro e q;cases q;rfl
 | int i=>intro e q;cases q;rfl
 | str z=>intro e q;cases q;rfl
 | lst h l r ih=>
   intro e q
   cases q with
   | lst h' l' r'=>
     have ex:=I.list_inj h h'
     subst ex
     congr 1
     refine List.ext_getElem? fun i=>?_
     rename_i xs ds ds'
     by_cases hi:i < ds.length
     ·rw [List.getElem?_eq_getElem hi,List.getElem?_eq_getElem (by omega)]
      have hx:i < xs.length:=by omega
      rw [ih i _ _ (List.getElem?_eq_getElem hx) (List.getElem?_eq_getElem hi) (r' i _ _ (List.getElem?_eq_getElem hx) (List.getElem?_eq_getElem (by omega)))]
     ·rw [List.getElem?_eq_none (by omega),List.getElem?_eq_none (by omega)]
   | tup h' l' r'=>exact (I.notBoth h h').elim
 | tup h l r ih=>
   intro e q
   cases q with
   | tup h' l' r'=>
     have ex:=I.tuple_inj h h'
     subst ex
     congr 1
     refine List.ext_getElem? fun i=>?_
     rename_i xs ds ds'
     by_cases hi:i < ds.length
     ·rw [List.getElem?_eq_getElem hi,List.getElem?_eq_getElem (by omega)]
      have hx:i < xs.length:=by omega
      rw [ih i _ _ (List.getElem?_eq_getElem hx) (List.getElem?_eq_getElem hi) (r' i _ _ (List.getElem?_eq_getElem hx) (List.getElem?_eq_getElem (by omega)))]
     ·rw [List.getElem?_eq_none (by omega),List.getElem?_eq_none (by omega)]
   | lst h' l' r'=>exact (I.notBoth h' h).elim
open SeqAt in
theorem rc_D (I:Inv X pins σ H s) {x:V} {d:Dt} (r:Rep X.K H x d):∀ {A:Around} {e:Dt} {y:V} {u v:Value} (n:Nat),Rep X.K H y e→RelV x u→RelV y v→depD d≤n→A.units + n < cLine→
  EqAt A s u v (eqD d e)∧RcAt A s u v (eqD d e)∧RcNeAt A s u v (!eqD d e):=by
 induction r with
 | non=>
   intro A e y u v n q ru rv hd hu
   cases ru
   cases q with
   | non=>cases rv;exact ⟨EqAt.same _,RcAt.none_none,RcNeAt.none_none⟩
   | bl b=>cases rv;exact ⟨EqAt.none_bool b,RcAt.none_bool b,RcNeAt.none_bool b⟩
   | int b=>obtain ⟨t,rfl⟩:=rv;exact ⟨EqAt.none_int b t,RcAt.none_int b t,RcNeAt.none_int b t⟩
   | str b=>obtain ⟨t,rfl⟩:=rv;exact ⟨EqAt.none_str b t,RcAt.none_str b t,RcNeAt.none_str b t⟩
   | lst h l r=>cases rv;obtain ⟨_,_,pl,_⟩:=I.list h;exact ⟨EqAt.none_list pl.isList (by omega),RcAt.none_list pl.isList (by omega),RcNeAt.none_list pl.isList (by omega)⟩
   | tup h l r=>cases rv;obtain ⟨_,_,pl,_⟩:=I.tuple h;exact ⟨EqAt.none_tuple pl (by omega),RcAt.none_tuple pl (by omega),RcNeAt.none_tuple pl (by omega)⟩
 | bl a=>
   intro A e y u v n q ru rv hd hu
   cases ru
   cases q with
   | non=>cases rv;exact ⟨EqAt.bool_none a,RcAt.bool_none a,RcNeAt.bool_none a⟩
   | bl b=>cases rv;exact ⟨EqAt.bool_bool a b,RcAt.bool_bool a b,RcNeAt.bool_bool a b⟩
   | int b=>obtain ⟨t,rfl⟩:=rv;exact ⟨EqAt.bool_int a b t,RcAt.bool_int a b t,RcNeAt.bool_int a b t⟩
   | str b=>obtain ⟨t,rfl⟩:=rv;exact ⟨EqAt.bool_str a b t,RcAt.bool_str a b t,RcNeAt.bool_str a b t⟩
   | lst h l r=>cases rv;obtain ⟨_,_,pl,_⟩:=I.list h;exact ⟨EqAt.bool_list a pl.isList (by omega),RcAt.bool_list a pl.isList (by omega),RcNeAt.bool_list a pl.isList (by omega)⟩
   | tup h l r=>cases rv;obtain ⟨_,_,pl,_⟩:=I.tuple h;exact ⟨EqAt.bool_tuple a pl (by omega),RcAt.bool_tuple a pl (by omega),RcNeAt.bool_tuple a pl (by omega)⟩
 | int a=>
   intro A e y u v n q ru rv hd hu
   obtain ⟨t',rfl⟩:=ru
   cases q with
   | non=>cases rv;exact ⟨EqAt.int_none a t',RcAt.int_none a t',RcNeAt.int_none a t'⟩
   | bl b=>cases rv;exact ⟨EqAt.int_bool a t' b,RcAt.int_bool a t' b,RcNeAt.int_bool a t' b⟩
   | int b=>obtain ⟨t,rfl⟩:=rv;exact ⟨EqAt.int_int a t' b t,RcAt.int_int a t' b t,RcNeAt.int_int a t' b t⟩
   | str b=>obtain ⟨t,rfl⟩:=rv;exact ⟨EqAt.int_str a t' b t,RcAt.int_str a t' b t,RcNeAt.int_str a t' b t⟩
   | lst h l r=>cases rv;obtain ⟨_,_,pl,_⟩:=I.list h;exact ⟨EqAt.int_list a t' pl.isList (by omega),RcAt.int_list a t' pl.isList (by omega),RcNeAt.int_list a t' pl.isList (by omega)⟩
   | tup h l r=>cases rv;obtain ⟨_,_,pl,_⟩:=I.tuple h;exact ⟨EqAt.int_tuple a t' pl (by omega),RcAt.int_tuple a t' pl (by omega),RcNeAt.int_tuple a t' pl (by omega)⟩
 | str a=>
   intro A e y u v n q ru rv hd hu
   obtain ⟨t',rfl⟩:=ru
   cases q with
   | non=>cases rv;exact ⟨EqAt.str_none a t',RcAt.str_none a t',RcNeAt.str_none a t'⟩
   | bl b=>cases rv;exact ⟨EqAt.str_bool a t' b,RcAt.str_bool a t' b,RcNeAt.str_bool a t' b⟩
   | int b=>obtain ⟨t,rfl⟩:=rv;exact ⟨EqAt.str_int a t' b t,RcAt.str_int a t' b t,RcNeAt.str_int a t' b t⟩
   | str b=>obtain ⟨t,rfl⟩:=rv;exact ⟨EqAt.str_str a t' b t,RcAt.str_str a t' b t,RcNeAt.str_str a t' b t⟩
   | lst h l r=>cases rv;obtain ⟨_,_,pl,_⟩:=I.list h;exact ⟨EqAt.str_list a t' pl.isList (by omega),RcAt.str_list a t' pl.isList (by omega),RcNeAt.str_list a t' pl.isList (by omega)⟩
   | tup h l r=>cases rv;obtain ⟨_,_,pl,_⟩:=I.tuple h;exact ⟨EqAt.str_tuple a t' pl (by omega),RcAt.str_tuple a t' pl (by omega),RcNeAt.str_tuple a t' pl (by omega)⟩
 | @lst p xs ds h l r ih=>
   intro A e y u v n q ru rv hd hu
   cases ru
   obtain ⟨its,rw1,pl,_⟩:=I.list h
   rw [depD] at hd
   cases q with
   | non=>cases rv;exact ⟨EqAt.list_none pl.isList (by omega),RcAt.list_none pl.isList (by omega),RcNeAt.list_none pl.isList (by omega)⟩
   | bl b=>cases rv;exact ⟨EqAt.list_bool b pl.isList (by omega),RcAt.list_bool b pl.isList (by omega),RcNeAt.list_bool b pl.isList (by omega)⟩
   | int b=>obtain ⟨t,rfl⟩:=rv;exact ⟨EqAt.list_int b t pl.isList (by omega),RcAt.list_int b t pl.isList (by omega),RcNeAt.list_int b t pl.isList (by omega)⟩
   | str b=>obtain ⟨t,rfl⟩:=rv;exact ⟨EqAt.list_str b t pl.isList (by omega),RcAt.list_str b t pl.isList (by omega),RcNeAt.list_str b t pl.isList (by omega)⟩
   | tup h' l' r'=>
     cases rv;obtain ⟨_,_,pl',_⟩:=I.tuple h'
     exact ⟨EqAt.list_tuple pl.isList pl' (by omega),RcAt.list_tuple pl.isList pl' (by omega),RcNeAt.list_tuple pl.isList pl' (by omega)⟩
   | @lst p' xs' ds' h' l' r'=>
     cases rv
     obtain ⟨its',rw2,pl',_⟩:=I.list h'
     have n1:=rw1.length
     have n2:=rw2.length
     have core:RcAt A s (.ref p) (.ref p') (eqDs ds ds')∧RcNeAt A s (.ref p) (.ref p') (!eqDs ds ds'):=by
      by_cases hl:ds.length=ds'.length
      ·have e:eqDs ds ds'=(List.range its.toArray.size).all fun i=>eqD (ds.getD i .non) (ds'.getD i .non):=by
        rw [vO hl,List.size_toArray,← n1,l]
       rw [e]
       have hz:its.toArray.size=its'.toArray.size:=by simp;omega
       have he:∀ j (h1:j < its.toArray.size) (h2:j < its'.toArray.size),EqAt A.in1 s its.toArray[j] its'.toArray[j] (eqD (ds.getD j .non) (ds'.getD j .non)):=fun j h1 h2=>by
        have h1':j < its.length:=by simpa using h1
        have h2':j < its'.length:=by simpa using h2
        have hx:j < xs.length:=by omega
        have hx':j < xs'.length:=by omega
        have hds:j < ds.length:=by omega
        have hds':j < ds'.length:=by omega
        have g1:xs[j]? =some (xs.getD j .non):=by rw [List.getD_eq_getElem?_getD,List.getElem?_eq_getElem hx];rfl
        have g2:ds[j]? =some (ds.getD j .non):=by rw [List.getD_eq_getElem?_getD,List.getElem?_eq_getElem hds];rfl
        have g3:xs'[j]? =some (xs'.getD j .non):=by rw [List.getD_eq_getElem?_getD,List.getElem?_eq_getElem hx'];rfl
        have g4:ds'[j]? =some (ds'.getD j .non):=by rw [List.getD_eq_getElem?_getD,List.getElem?_eq_getElem hds'];rfl
        have hn:n≠0:=by omega
        exact (ih j _ _ g1 g2 (n - 1) (r' j _ _ g3 g4) (mU rw1 h1) (mU rw2 h2) (by have:=FU (List.mem_of_getElem? g2);omega) (by show A.units + 1 + (n - 1) < cLine;omega)).1
       exact ⟨RcAt.lists pl.isList pl'.isList hz (by omega) he,RcNeAt.lists pl.isList pl'.isList hz (by omega) he⟩
      ·rw [vN hl]
       have hz:(its.toArray.size != its'.toArray.size)=true:=by simp;omega
       exact ⟨RcAt.lists_lengths pl.isList pl'.isList hz (by omega),RcNeAt.lists_lengths pl.isList pl'.isList hz (by omega)⟩
     rw [eqD]
     refine ⟨?_,core⟩
     by_cases hp:p=p'
     ·subst hp
      have e:Dt.lst ds=Dt.lst ds':=(Rep.lst h l r).fun I (.lst h' l' r')
      have e2:eqDs ds ds'=true:=by have:=Jt e;rw [eqD] at this;exact this
      rw [e2]
      exact EqAt.same _
     ·exact EqAt.of_refs hp core.1
 | @tup p xs ds h l r ih=>
   intro A e y u v n q ru rv hd hu
   cases ru
   obtain ⟨its,rw1,pl,_⟩:=I.tuple h
   rw [depD] at hd
   cases q with
   | non=>cases rv;exact ⟨EqAt.tuple_none pl (by omega),RcAt.tuple_none pl (by omega),RcNeAt.tuple_none pl (by omega)⟩
   | bl b=>cases rv;exact ⟨EqAt.tuple_bool b pl (by omega),RcAt.tuple_bool b pl (by omega),RcNeAt.tuple_bool b pl (by omega)⟩
   | int b=>obtain ⟨t,rfl⟩:=rv;exact ⟨EqAt.tuple_int b t pl (by omega),RcAt.tuple_int b t pl (by omega),RcNeAt.tuple_int b t pl (by omega)⟩
   | str b=>obtain ⟨t,rfl⟩:=rv;exact ⟨EqAt.tuple_str b t pl (by omega),RcAt.tuple_str b t pl (by omega),RcNeAt.tuple_str b t pl (by omega)⟩
   | lst h' l' r'=>
     cases rv;obtain ⟨_,_,pl',_⟩:=I.list h'
     exact ⟨EqAt.tuple_list pl pl'.isList (by omega),RcAt.tuple_list pl pl'.isList (by omega),RcNeAt.tuple_list pl pl'.isList (by omega)⟩
   | @tup p' xs' ds' h' l' r'=>
     cases rv
     obtain ⟨its',rw2,pl',_⟩:=I.tuple h'
     have n1:=rw1.length
     have n2:=rw2.length
     have core:RcAt A s (.ref p) (.ref p') (eqDs ds ds')∧RcNeAt A s (.ref p) (.ref p') (!eqDs ds ds'):=by
      have e:eqDs ds ds'=((List.range (min its.toArray.size its'.toArray.size)).all (fun i=>eqD (ds.getD i .non) (ds'.getD i .non))&&its.toArray.size == its'.toArray.size):=by
       by_cases hl:ds.length=ds'.length
       ·have z1:its.toArray.size=ds.length:=by simp;omega
        have z2:its'.toArray.size=ds.length:=by simp;omega
        rw [vO hl,z1,z2,Nat.min_self,beq_self_eq_true,Bool.and_true]
       ·have z:(its.toArray.size == its'.toArray.size)=false:=by rw [beq_eq_false_iff_ne];simp;omega
        rw [vN hl,z,Bool.and_false]
      rw [e]
      have he:∀ j (h1:j < its.toArray.size) (h2:j < its'.toArray.size),EqAt A.in1 s its.toArray[j] its'.toArray[j] (eqD (ds.getD j .non) (ds'.getD j .non)):=fun j h1 h2=>by
       have h1':j < its.length:=by simpa using h1
       have h2':j < its'.length:=by simpa using h2
       have hx:j < xs.length:=by omega
       have hx':j < xs'.length:=by omega
       have hds:j < ds.length:=by omega
       have hds':j < ds'.length:=by omega
       have g1:xs[j]? =some (xs.getD j .non):=by rw [List.getD_eq_getElem?_getD,List.getElem?_eq_getElem hx];rfl
       have g2:ds[j]? =some (ds.getD j .non):=by rw [List.getD_eq_getElem?_getD,List.getElem?_eq_getElem hds];rfl
       have g3:xs'[j]? =some (xs'.getD j .non):=by rw [List.getD_eq_getElem?_getD,List.getElem?_eq_getElem hx'];rfl
       have g4:ds'[j]? =some (ds'.getD j .non):=by rw [List.getD_eq_getElem?_getD,List.getElem?_eq_getElem hds'];rfl
       have hn:n≠0:=by omega
       exact (ih j _ _ g1 g2 (n - 1) (r' j _ _ g3 g4) (mU rw1 h1) (mU rw2 h2) (by have:=FU (List.mem_of_getElem? g2);omega) (by show A.units + 1 + (n - 1) < cLine;omega)).1
      exact ⟨RcAt.tuples pl pl' (by omega) he,RcNeAt.tuples pl pl' (by omega) he⟩
     rw [eqD]
     refine ⟨?_,core⟩
     by_cases hp:p=p'
     ·subst hp
      have e:Dt.tup ds=Dt.tup ds':=(Rep.tup h l r).fun I (.tup h' l' r')
      have e2:eqDs ds ds'=true:=by have:=Jt e;rw [eqD] at this;exact this
      rw [e2]
      exact EqAt.same _
     ·exact EqAt.of_refs hp core.1
end
noncomputable def rEqD (K:PySem.W.Frag) (neg:Bool):R2:=fun x y H Q=>∃ d e,Rep K H x d∧Rep K H y e∧depD d≤100∧Q (.bl (if neg then !eqD d e else eqD d e)) H
section
variable {X:Cx} {K:PySem.W.Frag}
theorem zr (h:X.K=K) (hu:X.A.units + 100 < cLine):OpR X (compareOp .Eq) (rEqD K false):=by
 subst h
 intro pins s σ H x y v u Q I rx ry h
 obtain ⟨d,e,r1,r2,hd,q⟩:=h
 exact (rc_D I r1 100 r2 rx ry hd hu).2.1 X.prog X.w X.xe _ ⟨.bl _,H,I,rfl,q⟩
end
inductive DQ:St→Nat→Option V→St→Prop where
 | z {a v:Option V} {l:St}:DQ (a::l) 0 v (v::l)
 | s {a v:Option V} {l l':St} {i:Nat}:DQ l i v l'→DQ (a::l) (i + 1) v (a::l')
theorem DQ.eq {l l':St} {i:Nat} {v:Option V} (h:DQ l i v l'):l.set i v=l':=by
 induction h with
 | z=>rfl
 | s _ ih=>rw [List.set_cons_succ,ih]
inductive DR:St→Nat→V→Prop where
 | z {v:V} {l:St}:DR (some v::l) 0 v
 | s {a:Option V} {v:V} {l:St} {i:Nat}:DR l i v→DR (a::l) (i + 1) v
theorem DR.eq {l:St} {i:Nat} {v:V} (h:DR l i v):l[i]? =some (some v):=by
 induction h with
 | z=>rfl
 | s _ ih=>rw [List.getElem?_cons_succ];exact ih
section
variable {σ σ':St} {H:Hp} {Q:VK} {D:Ends} {ta tb tc te:TE} {t u:TS} {tt tt':TT} {r r':R2} {x y v:V}
theorem aA {N:List Str} {vs:List V} {t:TS} (e:pV N vs=σ') (h:t D σ' H):t D (pV N vs) H:=by rw [e];exact h
theorem NC {i:Nat} (e:DR σ i v) (h:Q v H):tVar i σ H Q:=⟨v,e.eq,h⟩
theorem s_c (h:Q v H):tC v σ H Q:=h
theorem s_op (h:ta σ H fun x H1=>tb σ H1 fun y H2=>r x y H2 Q):tOp r ta tb σ H Q:=h
theorem s_rI {C:Int→Int→Prop} {g:Int→Int→V} {i j:Int} (c:C i j) (h:Q (g i j) H):rI C g (.int i) (.int j) H Q:=⟨i,j,rfl,rfl,c,h⟩
theorem NH {g:Int→Int→V} {i j:Int} (h:Q (g i j) H):rI0 g (.int i) (.int j) H Q:=⟨i,j,rfl,rfl,h⟩
theorem NI (e:scal x y=true) (h:Q (.bl (decide (x=y))) H):rEq x y H Q:=⟨e,h⟩
theorem NG (e:scal x y=true) (h:Q (.bl (!decide (x=y))) H):rNe x y H Q:=⟨e,h⟩
theorem LS {Q:Bool→Hp→Prop} (h:te σ H fun x H'=>∃ k,x= .bl k∧Q k H'):Ly te σ H Q:=h
theorem s_tB {Q:Bool→Hp→Prop} (h:te σ H fun x H'=>∃ k,x= .bl k∧Q k H'):tB te σ H Q:=h
theorem s_chain (h:ta σ H fun x H1=>tb σ H1 fun y H2=>r x y H2 fun z H3=>∃ k,z= .bl k∧(if k=true then tc σ H3 fun w' H4=>r' y w' H4 Q else Q (.bl false) H3)):IO r r' ta tb tc σ H Q:=h
theorem NU {Q:Bool→Hp→Prop} (h:tt σ H fun c H1=>if c=true then tt' σ H1 Q else Q false H1):tAnd tt tt' σ H Q:=h
theorem s_or {Q:Bool→Hp→Prop} (h:tt σ H fun c H1=>if c=true then Q true H1 else tt' σ H1 Q):tOr tt tt' σ H Q:=h
theorem NJ {Q:Bool→Hp→Prop} (h:tt σ H fun c H1=>Q (!c) H1):tNot tt σ H Q:=h
theorem Mi (h:ta σ H fun x H1=>∃ c,x= .bl c∧if c=true then tb σ H1 Q else Q (.bl false) H1):LG ta tb σ H Q:=h
theorem LW (h:ta σ H fun x H1=>∃ c,x= .bl c∧Q (.bl (!c)) H1):Lz ta σ H Q:=h
theorem LX (h:D.nx σ H):LB D σ H:=h
theorem NE (h:t {D with nx:=u D} σ H):tSeq t u D σ H:=h
theorem L9 (h:te σ H fun _ H1=>D.nx σ H1):LD te D σ H:=h
theorem NF (h:te σ H D.rt):tRet te D σ H:=h
theorem s_if (h:tt σ H fun b H1=>if b=true then t D σ H1 else u D σ H1):tIfS tt t u D σ H:=h
theorem NT {g:TG} (h:te σ H fun x H1=>g x σ H1 D.nx):tAsg te g D σ H:=h
theorem Ke {i:Nat} {Q:St→Hp→Prop} (e:DQ σ i (some v) σ') (h:Q σ' H):FO i v σ H Q:=by show Q (σ.set i (some v)) H;rw [e.eq];exact h
theorem L8 {Q:St→Hp→Prop} (h:Q σ H):gNil [] σ H Q:=⟨rfl,h⟩
theorem Kf {g:TG} {gs:TGs} {vs:List V} {Q:St→Hp→Prop} (h:g v σ H fun σ' H'=>gs vs σ' H' Q):KY g gs (v::vs) σ H Q:=⟨v,vs,rfl,h⟩
theorem L7 {K:PySem.W.Frag} {n:Nat} {gs:TGs} {p:Addr} {xs:List V} {Q:St→Hp→Prop} (e:SqT K H p xs) (l:xs.length=n) (h:gs xs σ H Q):gTup K n gs (.ref p) σ H Q:=⟨p,xs,rfl,e,l,h⟩
theorem NK {Q:List V→Hp→Prop} (h:Q [] H):tNil σ H Q:=h
theorem Mf {tr:TA} {Q:List V→Hp→Prop} (h:ta σ H fun x H1=>tr σ H1 fun xs H2=>Q (x::xs) H2):LF ta tr σ H Q:=h
noncomputable def NewT (Q:VK) (xs:List V) (H:Hp):Prop:=xs.length≤sizeLine∧∀ p,H p=none→Q (.ref p) (upd H p (.tup xs))
noncomputable def NewL (Q:VK) (xs:List V) (H:Hp):Prop:=xs.length≤sizeLine∧∀ p,H p=none→Q (.ref p) (upd H p (.lst xs))
theorem ND {tr:TA} (h:tr σ H (NewT Q)):tTup tr σ H Q:=h
theorem NL {tr:TA} (h:tr σ H (NewL Q)):tLst tr σ H Q:=h
theorem fP {H:Hp} {D:Addr} {o:HO} (h:H D=none):Same H (upd H D o):=fun b u e=>by rw [aJ (al e h)];exact e
theorem kO {o:HO} (h:∀ p H2,H p=none→Same H H2→H2 p=some o→Q (.ref p) H2):∀ p,H p=none→Q (.ref p) (upd H p o):=fun p hp=>h p _ hp (fP hp) bc
theorem Same.get {H H':Hp} (e:Same H H') {b:Addr} {o:HO} (h:H b=some o):H' b=some o:=e b o h
theorem LY {xs:List V} (l:xs.length≤sizeLine) (h:∀ p H2,H p=none→Same H H2→H2 p=some (.tup xs)→Q (.ref p) H2):NewT Q xs H:=⟨l,kO h⟩
theorem LZ {xs:List V} (l:xs.length≤sizeLine) (h:∀ p H2,H p=none→Same H H2→H2 p=some (.lst xs)→Q (.ref p) H2):NewL Q xs H:=⟨l,kO h⟩
theorem Kl {sp:Sp} {E:XK} {tr:TA} (h:tr σ H fun vs H1=>sp vs H1 Q E):JO sp [] E tr σ H Q:=by unfold JO;simp only [List.append_nil];exact h
theorem s_cb {r:List V→Hp→VK→Prop} {tr:TA} (h:tr σ H fun vs H1=>r vs H1 Q):tCB r tr σ H Q:=h
theorem NN {K:PySem.W.Frag} {p:Addr} {xs:List V} {i:Int} (e:SqL K H p xs) (a:atI xs i=some v) (h:Q v H):rIxL K (.ref p) (.int i) H Q:=⟨p,xs,i,v,rfl,rfl,e,a,h⟩
theorem NM {K:PySem.W.Frag} {p:Addr} {xs:List V} {i:Int} (e:SqT K H p xs) (a:atI xs i=some v) (h:Q v H):rIxT K (.ref p) (.int i) H Q:=⟨p,xs,i,v,rfl,rfl,e,a,h⟩
theorem NS {K:PySem.W.Frag} {T:String} {r:V→List V→Hp→VK→Prop} (h:te σ H fun x H1=>tyV K T x H1∧r x [] H1 Q):tBM0 K T r te σ H Q:=h
theorem s_bm {K:PySem.W.Frag} {T:String} {r:V→List V→Hp→VK→Prop} {tr:TA} (h:te σ H fun x H1=>tyV K T x H1∧tr σ H1 fun xs H2=>r x xs H2 Q):tBM K T r te tr σ H Q:=h
theorem Fm {n:Nat} (h:n≤1000):n≤sizeLine:=Nat.le_of_lt (dk h)
theorem Ki {K:PySem.W.Frag} {neg:Bool} {d e:Dt} (r1:Rep K H x d) (r2:Rep K H y e) (hd:depD d≤100) (h:Q (.bl (if neg then !eqD d e else eqD d e)) H):rEqD K neg x y H Q:=⟨d,e,r1,r2,hd,h⟩
theorem s_ty {K:PySem.W.Frag} {T:String} {A:Prop} (e:tyV K T x H) (h:A):tyV K T x H∧A:=⟨e,h⟩
theorem Mh {i:Int} (h:Q (.int (Builtin.Int.intBits i:Nat)) H):Mq (.int i) [] H Q:=⟨i,rfl,rfl,h⟩
theorem L5 {K:PySem.W.Frag} {p:Addr} {xs:List V} (e:SqL K H p xs) (h:Q (.int xs.length) H):rLen K [.ref p] H Q:=⟨_,_,rfl,.inl ⟨xs,e,rfl⟩,h⟩
theorem L4 {K:PySem.W.Frag} {p:Addr} {xs:List V} (e:SqT K H p xs) (h:Q (.int xs.length) H):rLen K [.ref p] H Q:=⟨_,_,rfl,.inr ⟨xs,e,rfl⟩,h⟩
theorem NO {K:PySem.W.Frag} {T k:String} (e:k7 K H x k) (m:T∈["int","bool","str","list","tuple","dict"]) (h:Q (.bl (subB k T)) H):rIsi K [x,.ty T] H Q:=⟨x,k,T,rfl,e,m,h⟩
theorem Mb (h:∀ p H2,H p=none→Same H H2→H2 p=some (.dK [])→Q (.ref p) H2):IN σ H Q:=kO h
theorem NP {wi:TI} {g:TG} {tb:TS} (h:wi σ H fun J H1=>∃ W:Nat→Nat→St→Hp→Prop,(∃ m,W 0 m σ H1)∧∀ i m σ H,W i m σ H→(J.stop i H∧D.nx σ H)∨(J.go i H∧∃ N:St→Hp→Prop,(∀ σ' H',N σ' H'→∃ m',m' < m∧W (i + 1) m' σ' H')∧∀ x H',J.yld i H x H'→g x σ H' fun σ2 H2=>tb {D with nx:=N,ct:=N,bk:=D.nx} σ2 H2)):tFor wi g tb D σ H:=h
theorem Kc {K:PySem.W.Frag} {R:It→Hp→Prop} (h:te σ H fun x H1=>∃ a,x= .ref a∧(∃ xs,SqL K H1 a xs)∧R (Itl K a) H1):KR K te σ H R:=h
theorem L6 {K:PySem.W.Frag} {R:It→Hp→Prop} (h:te σ H fun x H1=>∃ a,x= .ref a∧(∃ xs,SqT K H1 a xs)∧R (Itt K a) H1):iTup K te σ H R:=h
theorem LU {tr:TA} {R:It→Hp→Prop} (h:tr σ H fun vs H1=>∃ j:Int,vs=[.int j]∧-(2 ^ 62)≤j∧j < 2 ^ 62∧R (Itr 0 j.toNat) H1):MV tr σ H R:=h
theorem NB {Q:Bool→Hp→Prop} (h:Q true H):tYes σ H Q:=h
theorem LR {A B:Prop} (h:A):if true=true then A else B:=by rw [if_pos rfl];exact h
theorem Kg {A B:Prop} (h:B):if false=true then A else B:=by rw [if_neg Bool.false_ne_true];exact h
theorem Kb {c:Bool} {A B:Prop} (e:c=true) (h:A):if c=true then A else B:=by rw [if_pos e];exact h
theorem BZ {c:Bool} {A B:Prop} (e:c=false) (h:B):if c=true then A else B:=by rw [e,if_neg Bool.false_ne_true];exact h
theorem Mg {n:Nat} {fx:List Nat} {wi:TI} {g:TG} (h:wi σ H fun J H1=>∀ D,H1 D=none→
 ∃ W:Nat→Nat→List V→Hp→Prop,(∃ m,W 0 m [] (upd H1 D (.lst [])))∧∀ i m ys H2,W i m ys H2→(J.stop i H2∧Q (.ref D) H2)∨
   (J.go i H2∧∃ N:List V→Hp→Prop,(∀ ys' H',N ys' H'→∃ m',m' < m∧W (i + 1) m' ys' H')∧∀ x H3,J.yld i H2 x H3→g x (df n fx σ) H3 fun σ4 H4=>tt σ4 H4 fun b H5=>
    if b=true then te σ4 H5 fun v H6=>H6 D=some (.lst ys)∧ys.length < sizeLine∧N (ys++[v]) (upd H6 D (.lst (ys++[v]))) else N ys H5)):GW n fx wi g tt te σ H Q:=h
theorem Mj {K:PySem.W.Frag} {p:Addr} {bs:List Bool} (e:SqL K H p (bs.map V.bl)) (h:Q (.bl (bs.all id)) H):Mr K [.ref p] H Q:=⟨p,bs,rfl,e,h⟩
theorem Hd {j:Int} {A:Prop} (h1: -(2 ^ 62)≤j) (h2:j < 2 ^ 62) (h:A): -(2 ^ 62)≤j∧j < 2 ^ 62∧A:=⟨h1,h2,h⟩
end
noncomputable def tCut (t u:TS):TS:=fun D σ H=>∃ P:St→Hp→Prop,t {D with nx:=P} σ H∧∀ σ' H',P σ' H'→u D σ' H'
theorem jo {X:Cx} {st:Stmt} {rest:List Stmt} {t u:TS} (h1:PS X st t) (h2:PSs X rest u):PSs X (st::rest) (tCut t u):=by
 intro pins s σ H D I ⟨P,a,b⟩
 refine wpAny_execs_cons (thn (h1 pins s σ H {D with nx:=P} I a) fun f s1 q=>?_)
 cases f with
 | next=>obtain ⟨σ1,H1,I1,q1⟩:=q;exact h2 pins s1 σ1 H1 D I1 (b σ1 H1 q1)
 | brk=>exact q
 | cont=>exact q
 | ret v=>exact q
theorem wO {t u:TS} {D:Ends} {σ:St} {H:Hp} (P:St→Hp→Prop) (h:t {D with nx:=P} σ H) (k:∀ σ' H',P σ' H'→u D σ' H'):tCut t u D σ H:=⟨P,h,k⟩
section
variable {K:PySem.W.Frag} {n:Nat} {fx:List Nat} {g:TG} {tc:TT} {te:TE} {σ:St} {H1:Hp} {D:Addr} {Q:Hp→Prop}
structure Cs (Pv:Nat→List V→Prop) (H1:Hp) (D:Addr) (i:Nat) (ys:List V) (H:Hp):Prop where
 pv:Pv i ys
 same:Same H1 H
 at':H D=some (.lst ys)
 len:ys.length≤i
theorem Cs.put {Pv:Nat→List V→Prop} {i:Nat} {ys:List V} {v:V} {H6:Hp} (f:H1 D=none) (s:Same H1 H6) (e:H6 D=some (.lst ys)) (l:ys.length≤i) (hi:i < 16777216) (p:Pv (i + 1) (ys++[v])):
  H6 D=some (.lst ys)∧ys.length < sizeLine∧Cs Pv H1 D (i + 1) (ys++[v]) (upd H6 D (.lst (ys++[v]))):=
 ⟨e,by rw [sizeLine_eq];omega,p,fun b o h=>by rw [aJ (al h f)];exact s b o h,bc,by rw [List.length_append];simpa using l⟩
theorem Cs.skip {Pv:Nat→List V→Prop} {i:Nat} {ys:List V} {H6:Hp} (s:Same H1 H6) (e:H6 D=some (.lst ys)) (l:ys.length≤i) (p:Pv (i + 1) ys):Cs Pv H1 D (i + 1) ys H6:=⟨p,s,e,by omega⟩
theorem Cs.zero {Pv:Nat→List V→Prop} (f:H1 D=none) (p:Pv 0 []):Cs Pv H1 D 0 [] (upd H1 D (.lst [])):=⟨p,fP f,bc,Nat.le_refl _⟩
end
structure Oc (K:PySem.W.Frag) (C:Addr) (m:Str) (f:Addr):Prop where
 ga:PySem.W.specialIn K (.ref C) "__getattribute__"=some (some (.builtin "type.__getattribute__"))
 rd:PySem.W.readsIn K C (.type "type")=true
 fd:PySem.W.findCls K (.ref C) (.type "type") m=some (.val (.ref f))
 hd:PySem.W.handedIn (.ref f)=true
 kp:PySem.W.keepIn K (.ref f)=true
structure Nn (K:PySem.W.Frag) (D:Addr):Prop where
 cls:Cls K D
 ha:PySem.W.findIn K (.ref D) "__class__"=some (some (.builtin "object.__class__"))
 hn:PySem.W.specialIn K (.builtin "object.__class__") "__get__"=some (some (.builtin "getset_descriptor.__get__"))
 tk:PySem.W.takesIn K (.builtin "object.__class__")=some true
 hm:PySem.W.mroIn K D (.type "object")=some true
section
variable {X:Cx} {K:PySem.W.Frag}
theorem bt {e:Expr} {ta:TE} {f:Str} {pos:Pos} (h:X.K=K) (he:PE X e ta) (hb:attributeBase e f X.env (eval e X.env)=eval e X.env):PE X (.Attribute e f pos) (tFld K ta f):=by subst h;exact MA he hb
theorem nc {o value:Expr} {ta tv:TE} {f:Str} {pos pos':Pos} (h:X.K=K) (ha:PE X o ta) (hv:PE X value tv) (hs:swapsWith value (some (.Attribute o f pos')) pos.line X.env=pure false):PS X (.Assign [.Attribute o f pos'] value pos) (sFld K ta tv f):=by subst h;exact Mt ha hv hs
end
section
variable {σ:St} {H:Hp} {Q:VK} {D:Ends} {te tv ta:TE} {x y v:V}
noncomputable def Nq (K:PySem.W.Frag) (f:Str) (Q:VK) (x:V) (H:Hp):Prop:=∃ a C dx fs v,x= .ref a∧H a=some (.ins C dx fs)∧Cls K C∧dh K C f∧fs.lookup f=some v∧Q v H
theorem NQ {K:PySem.W.Frag} {f:Str} (h:te σ H (Nq K f Q)):tFld K te f σ H Q:=h
theorem bq {K:PySem.W.Frag} {f:Str} {p C dx:Addr} {fs:List (Str×V)} (e:H p=some (.ins C dx fs)) (c:Cls K C) (n:dh K C f) (l:fs.lookup f=some v) (h:Q v H):Nq K f Q (.ref p) H:=⟨p,C,dx,fs,v,rfl,e,c,n,l,h⟩
structure Upd (H H':Hp) (p:Addr) (o:HO):Prop where
 at':H' p=some o
 oth:∀ b u,b≠p→H b=some u→H' b=some u
 non:∀ b,b≠p→H b=none→H' b=none
theorem Upd.of {H:Hp} {p:Addr} {o:HO}:Upd H (upd H p o) p o:=⟨bc,fun b u n h=>by rw [aJ n];exact h,fun b n h=>by rw [aJ n];exact h⟩
noncomputable def Nk (K:PySem.W.Frag) (f:Str) (y:V) (D:Ends) (σ:St) (x:V) (H:Hp):Prop:=∃ a C dx fs,x= .ref a∧H a=some (.ins C dx fs)∧Cls K C∧dh K C f∧fs.length < 1000∧D.nx σ (upd H a (.ins C dx (putF f y fs)))
theorem Ha {K:PySem.W.Frag} {f:Str} (h:tv σ H fun y H1=>te σ H1 (Nk K f y D σ)):sFld K te tv f D σ H:=h
theorem mZ {K:PySem.W.Frag} {f:Str} {p C dx:Addr} {fs fs':List (Str×V)} (e:H p=some (.ins C dx fs)) (c:Cls K C) (n:dh K C f) (l:fs.length < 1000) (ef:putF f y fs=fs') (h:∀ H2,Upd H H2 p (.ins C dx fs')→D.nx σ H2):
  Nk K f y D σ (.ref p) H:=⟨p,C,dx,fs,rfl,e,c,n,l,by rw [ef];exact h _ Upd.of⟩
noncomputable def JA (C:Addr) (sp:Sp) (E:XK) (Q:VK) (vs:List V) (H:Hp):Prop:=∀ x dx,H x=none→H dx=none→dx≠x→sp (.ref x::(vs++[])) (upd (upd H dx (.own x)) x (.ins C dx [])) (fun v H2=>v= .non∧Q (.ref x) H2) E
theorem L3 {C:Addr} {sp:Sp} {E:XK} {tr:TA} (h:tr σ H (JA C sp E Q)):LC C sp [] E tr σ H Q:=h
theorem Hb {C:Addr} {sp:Sp} {E:XK} {vs:List V} (h:∀ x dx H2,H x=none→Same H H2→H2 x=some (.ins C dx [])→sp (.ref x::vs) H2 (fun v H2=>v= .non∧Q (.ref x) H2) E):JA C sp E Q vs H:=by
 intro x dx f1 f2 n
 rw [List.append_nil]
 exact h x dx _ f1 (fun b o e=>by rw [aJ (al e f1),aJ (al e f2)];exact e) bc
theorem Upd.same {H0 H2:Hp} {p:Addr} {o:HO} (u:Upd H H2 p o) (f:H0 p=none) (s:Same H0 H):Same H0 H2:=fun b q e=>u.oth b q (al e f) (s b q e)
end
theorem Inv.laidCh {X:Cx} {pins:List (Addr×Obj)} {σ:St} {H:Hp} {s:Shared} {h':Heap} {a:Addr} {o:HO} {t':Nat} {ch:List Addr} (I:Inv X pins σ H s) (k:∀ b u,b∉ch→s.heap.get? b=some u→h'.get? b=some u) (hp:s.heap.objs.size≤a)
  (new:eW X.prog X.w (upd H a o) h' a o) (fp:∀ b∈ch,FpOk X pins H b):Inv X pins σ (upd H a o) {s with heap:=h',toks:=t'}:=by
 have fr:H a=none:=I.hok.fresh hp
 have nit:∀ b u,H b=some u→b∉ch:=fun b u e z=>by rw [(fp b z).1] at e;cases e
 refine I.step (g':=s.gens) (d':=s.drawn) (ch:=ch) (fun b hb=>?_) (fun b ob _ _ hc e _=>k b ob hc e) (fun b ob _ _ hc e _=>⟨ob.slots,k b ob hc e⟩) (fun b ob _ e n=>?_) (fun b ob hc e=>⟨ob,k b ob hc e⟩)
  (fun b xs e=>by rw [aJ (al e fr)];exact e) (fun b ob u e=>by rw [aJ (al e fr)];exact e) (fun b ps e=>⟨#[],by rw [aJ (al e fr),e];simp⟩) (fun m hm=>?_) (fun b u e=>?_) I.bare
 ·obtain ⟨f0,f1,f2,f3,f4,f5⟩:=fp b hb
  exact ⟨f3,f1,f4,f5⟩
 ·rw [aJ (Nat.ne_of_lt (Nat.lt_of_lt_of_le (Heap.lt_size e) hp))];exact n
 ·obtain ⟨ob,es,ep,ho,r⟩:=hm
  exact ⟨ob,es,ep,k _ ob (fun z=>(fp _ z).2.1 rfl) ho,r⟩
 ·by_cases hb:b=a
  ·subst hb;rw [bc] at e;cases e;exact new
  ·rw [aJ hb] at e
   refine (I.hok b u e).stay (fun c v hc q=>k c v ?_ q) (fun c q=>by rw [aJ (al q fr)];exact q) fun c xs q=>by rw [aJ (al q fr)];exact q
   rcases hc with z | z
   ·rw [z];exact nit b u e
   ·exact nit c _ z
theorem Inv.turnedCh {X:Cx} {pins:List (Addr×Obj)} {σ:St} {H:Hp} {s:Shared} {h':Heap} {t':Nat} {ch:List Addr} (I:Inv X pins σ H s) (k:∀ b u,b∉ch→s.heap.get? b=some u→h'.get? b=some u)
  (fp:∀ b∈ch,FpOk X pins H b):Inv X pins σ H {s with heap:=h',toks:=t'}:=by
 have nit:∀ b u,H b=some u→b∉ch:=fun b u e z=>by rw [(fp b z).1] at e;cases e
 refine I.step (g':=s.gens) (d':=s.drawn) (ch:=ch) (fun b hb=>?_) (fun b ob _ _ hc e _=>k b ob hc e) (fun b ob _ _ hc e _=>⟨ob.slots,k b ob hc e⟩) (fun b ob _ e n=>n) (fun b ob hc e=>⟨ob,k b ob hc e⟩)
  (fun b xs e=>e) (fun b ob u e=>e) (fun b ps e=>⟨#[],by rw [e];simp⟩) (fun m hm=>?_) (fun b u e=>?_) I.bare
 ·obtain ⟨f0,f1,f2,f3,f4,f5⟩:=fp b hb
  exact ⟨f3,f1,f4,f5⟩
 ·obtain ⟨ob,es,ep,ho,r⟩:=hm
  exact ⟨ob,es,ep,k _ ob (fun z=>(fp _ z).2.1 rfl) ho,r⟩
 ·refine (I.hok b u e).stay (fun c v hc q=>k c v ?_ q) (fun c q=>q) fun c xs q=>q
  rcases hc with z | z
  ·rw [z];exact nit b u e
  ·exact nit c _ z
noncomputable def Ite (K:PySem.W.Frag) (a:Addr):It:=
 ⟨fun i H=>∃ xs x,SqL K H a xs∧xs[i]? =some x,fun i H x H'=>∃ p v,H p=none∧x= .ref p∧H'=upd H p (.tup [.int i,v])∧∀ xs,SqL K H a xs→xs[i]? =some v,fun i H=>∃ xs,SqL K H a xs∧xs.length=i⟩
noncomputable def Itz (x:Str):It:=⟨fun i _=>i < x.cps.size,fun i H v H'=>∃ p c,H p=none∧v= .ref p∧H'=upd H p (.tup [.int i,.str ⟨#[c]⟩])∧x.cps[i]? =some c,fun i _=>i=x.cps.size⟩
theorem AV:(2:Nat)≤sizeLine:=by rw [sizeLine_eq];decide
theorem tL {P:Program} {w:World} {K:PySem.W.Frag} {elts:List Expr} {k:Nat} {pos:Pos} (a e it:Addr) (hei:e≠it):
  Turn P w K (.Tuple elts k pos) (Ite K a) [e,it] e (fun i h=>(∃ old,IsEnum h e it i old)∧h.IsListIter it a i) where
 mem:=by simp
 obj:=fun i h st b hb=>by
  obtain ⟨⟨old,he⟩,⟨o,ho,hc,hd⟩⟩:=st
  rcases List.mem_cons.mp hb with z | z
  ·subst z;exact ⟨_,he,fun v z=>by cases z⟩
  ·rw [List.mem_singleton.mp z];exact ⟨o,ho,fun v z=>by rw [hd] at z;cases z⟩
 keep:=fun i h h' st k=>⟨let ⟨old,he⟩:=st.1;⟨old,k e (by simp) _ he⟩,st.2.at fun o z=>k it (by simp) o z⟩
 item:=by
  intro X hP hw hK hc i pins s σ H E I hf st hg
  subst hP hw hK
  obtain ⟨xs,x,hq,hx⟩:=hg
  obtain ⟨its,rv,p,hz⟩:=I.list hq
  obtain ⟨⟨old,he⟩,hl⟩:=st
  have hai:a≠it:=fun z=>by
   obtain ⟨o,ho,hcl,_⟩:=hl
   obtain ⟨o',n,ho',hcl',_⟩:=p
   rw [z,ho] at ho';cases ho';rw [hcl] at hcl';exact absurd hcl' (by decide)
  have hae:a≠e:=fun z=>by
   obtain ⟨o',n,ho',hcl',_⟩:=p
   rw [z,he] at ho';cases ho';exact absurd (show Value.type "enumerate"= .type "list" from hcl') (by decide)
  have W:=WalksT.enumerateD (prog:=X.prog) (w:=X.w) (A:=X.A) (Draws.list (A:=X.A.in1) (I.ok.hd hc) it a hai its.toArray) e hei (by simp [hei,Ne.symm hae]) (by simp)
  have hi:i < its.toArray.size:=by have:=rv.length;have:=(List.getElem?_eq_some_iff.mp hx).1;simp;omega
  refine W.item i s _ _ hi ⟨⟨old,he⟩,hl,p.isList⟩ fun T vals h' tk hPt hT htup hmid hk=>⟨_,rfl,W.go elts k pos i T _ _ _ hmid fun h'' hst hk2=>?_⟩
  obtain ⟨t,x',hx',rfl⟩:=hPt
  have hap:=W.apart i T h' hmid
  have ru:RelV x x':=by
   obtain ⟨u,hu,r⟩:=rv.get hx
   have hx'':its[i]? =some x':=by simpa using hx'
   rw [hu] at hx'';cases hx'';exact r
  have kk:∀ b u,b∉[e,it]→s.heap.get? b=some u→h''.get? b=some u:=fun b u hb q=>hk2 b u hb (hk b u hb q)
  have fr:H T=none:=I.hok.fresh hT
  refine ⟨.ref T,upd H T (.tup [.int i,x]),I.laidCh (t':=tk) kk hT ⟨AV,[.int i t,x'],.cons ⟨t,rfl⟩ (.cons ru .nil),?_⟩ hf,rfl,⟨T,x,fr,rfl,rfl,fun ys hy=>by rw [I.list_inj hy hq];exact hx⟩,⟨hst.1,hst.2.1⟩,fun b hb=>?_⟩
  ·obtain ⟨o,ho,r⟩:=htup
   exact ⟨o,hk2 T o hap ho,r⟩
  ·have fb:=(hf b hb)
   rw [aJ (fun z=>?_)]
   ·exact fb.1
   ·have lt:b < s.heap.objs.size:=by
     rcases List.mem_cons.mp hb with z | z
     ·subst z;exact Heap.lt_size he
     ·rw [List.mem_singleton.mp z];obtain ⟨o,ho,_⟩:=hl;exact Heap.lt_size ho
    rw [z] at lt
    exact absurd (Nat.lt_of_lt_of_le lt hT) (Nat.lt_irrefl _)
 done:=by
  intro X hP hw hK hc i pins s σ H E I hf st hg
  subst hP hw hK
  obtain ⟨xs,hq,hx⟩:=hg
  obtain ⟨its,rv,p,hz⟩:=I.list hq
  obtain ⟨⟨old,he⟩,hl⟩:=st
  have hai:a≠it:=fun z=>by
   obtain ⟨o,ho,hcl,_⟩:=hl
   obtain ⟨o',n,ho',hcl',_⟩:=p
   rw [z,ho] at ho';cases ho';rw [hcl] at hcl';exact absurd hcl' (by decide)
  have hae:a≠e:=fun z=>by
   obtain ⟨o',n,ho',hcl',_⟩:=p
   rw [z,he] at ho';cases ho';exact absurd (show Value.type "enumerate"= .type "list" from hcl') (by decide)
  have W:=WalksT.enumerateD (prog:=X.prog) (w:=X.w) (A:=X.A) (Draws.list (A:=X.A.in1) (I.ok.hd hc) it a hai its.toArray) e hei (by simp [hei,Ne.symm hae]) (by simp)
  have hn:its.toArray.size=i:=by have:=rv.length;simp;omega
  subst hn
  exact W.done s _ _ ⟨⟨old,he⟩,hl,p.isList⟩ fun h' tk hk=>⟨rfl,I.turnedCh hk hf⟩
 self:=fun _ _ _ _ _ st h=>let ⟨_,he⟩:=st.1;wpAny_pyIter_enum he h
theorem BI {P:Program} {w:World} {K:PySem.W.Frag} {elts:List Expr} {k:Nat} {pos:Pos} {x:Str} {t:Tok} {n:String} (e it:Addr) (hei:e≠it)
  (D:∀ A:Around,A.handled=none→Draws P w A it [it] x.cps.size (fun i v=>∃ c u,x.cps[i]? =some c∧v= .str ⟨#[c]⟩ u) (fun i h=>h.IsStrIter it n x t i)):
  Turn P w K (.Tuple elts k pos) (Itz x) [e,it] e (fun i h=>(∃ old,IsEnum h e it i old)∧h.IsStrIter it n x t i) where
 mem:=by simp
 obj:=fun i h st b hb=>by
  obtain ⟨⟨old,he⟩,⟨o,ho,hc,hd⟩⟩:=st
  rcases List.mem_cons.mp hb with z | z
  ·subst z;exact ⟨_,he,fun v z=>by cases z⟩
  ·rw [List.mem_singleton.mp z];exact ⟨o,ho,fun v z=>by rw [hd] at z;cases z⟩
 keep:=fun i h h' st k=>⟨let ⟨old,he⟩:=st.1;⟨old,k e (by simp) _ he⟩,let ⟨o,ho,r⟩:=st.2;⟨o,k it (by simp) o ho,r⟩⟩
 item:=by
  intro X hP hw hK hc i pins s σ H E I hf st hg
  subst hP hw hK
  obtain ⟨⟨old,he⟩,hl⟩:=st
  have W:=WalksT.enumerateD (prog:=X.prog) (w:=X.w) (A:=X.A) (D X.A.in1 (I.ok.hd hc)) e hei (by simp [hei]) (by simp)
  refine W.item i s _ _ hg ⟨⟨old,he⟩,hl⟩ fun T vals h' tk hPt hT htup hmid hk=>⟨_,rfl,W.go elts k pos i T _ _ _ hmid fun h'' hst hk2=>?_⟩
  obtain ⟨t1,x',⟨c,u,hx',rfl⟩,rfl⟩:=hPt
  have hap:=W.apart i T h' hmid
  have kk:∀ b u,b∉[e,it]→s.heap.get? b=some u→h''.get? b=some u:=fun b u hb q=>hk2 b u hb (hk b u hb q)
  have fr:H T=none:=I.hok.fresh hT
  refine ⟨.ref T,upd H T (.tup [.int i,.str ⟨#[c]⟩]),I.laidCh (t':=tk) kk hT ⟨AV,[.int i t1,.str ⟨#[c]⟩ u],.cons ⟨t1,rfl⟩ (.cons ⟨u,rfl⟩ .nil),?_⟩ hf,rfl,⟨T,c,fr,rfl,rfl,hx'⟩,⟨hst.1,hst.2⟩,fun b hb=>?_⟩
  ·obtain ⟨o,ho,r⟩:=htup
   exact ⟨o,hk2 T o hap ho,r⟩
  ·have fb:=(hf b hb)
   rw [aJ (fun z=>?_)]
   ·exact fb.1
   ·have lt:b < s.heap.objs.size:=by
     rcases List.mem_cons.mp hb with z | z
     ·subst z;exact Heap.lt_size he
     ·rw [List.mem_singleton.mp z];obtain ⟨o,ho,_⟩:=hl;exact Heap.lt_size ho
    rw [z] at lt
    exact absurd (Nat.lt_of_lt_of_le lt hT) (Nat.lt_irrefl _)
 done:=by
  intro X hP hw hK hc i pins s σ H E I hf st hg
  subst hP hw hK
  obtain ⟨⟨old,he⟩,hl⟩:=st
  have W:=WalksT.enumerateD (prog:=X.prog) (w:=X.w) (A:=X.A) (D X.A.in1 (I.ok.hd hc)) e hei (by simp [hei]) (by simp)
  have hg:i=x.cps.size:=hg
  subst hg
  exact W.done s _ _ ⟨⟨old,he⟩,hl⟩ fun h' tk hk=>⟨rfl,I.turnedCh hk hf⟩
 self:=fun _ _ _ _ _ st h=>let ⟨_,he⟩:=st.1;wpAny_pyIter_enum he h
noncomputable def MW (K:PySem.W.Frag) (tl:TE):TI:=fun σ H R=>tl σ H fun x H1=>(∃ a,x= .ref a∧(∃ xs,SqL K H1 a xs)∧R (Ite K a) H1)∨∃ z,x= .str z∧R (Itz z) H1
section
variable {X:Cx} {K:PySem.W.Frag}
theorem ni {l:Expr} {tl:TE} {elts:List Expr} {k:Nat} {tpos p pos:Pos} (h:X.K=K) (hg:Gl X "enumerate") (hm:X.mg "enumerate"=none) (hl:PE X l tl) (hs:starEach [l] X.env=[(false,eval l X.env)]:=by rfl):
  PI X (.Tuple elts k tpos) (.Call (.Name "enumerate" p) [l] [] pos) (MW K tl):=by
 subst h
 intro pins s σ H R I h
 refine Call_ (oy I hg hm boot_enumerate (PyProof.Rows.callWith_type1 (thn (aa hl af hs pos pins s σ H (fun vs H1=>match vs with | [x]=>(∃ a,x= .ref a∧(∃ xs,SqL X.K H1 a xs)∧R (Ite X.K a) H1)∨∃ z,x= .str z∧R (Itz z) H1 | _=>False) I h) fun us s1 ⟨vs,H1,I1,r1,q1⟩=>?_) hs rfl))
 match vs,r1,q1 with
 | [x],r1,q1=>
 obtain ⟨u,rfl,ru⟩:=r1.one
 rcases q1 with ⟨a,rfl,⟨xs,hq⟩,q⟩ | ⟨z,rfl,q⟩
 ·cases ru
  obtain ⟨its,rv,pl,hz⟩:=I1.list hq
  refine call_enumerate_list pl.isList fun h' he hit hsz hk=>wpAny_pyIter_enum he ?_
  refine ⟨s1.heap.objs.size + 1,[s1.heap.objs.size + 1,s1.heap.objs.size],_,_,H1,rfl,I1.kept (t':=s1.toks) hk,tL a _ _ (Nat.ne_of_gt (Nat.lt_succ_self _)),⟨⟨_,he⟩,hit⟩,fun b hb=>?_,q⟩
  have hb':s1.heap.objs.size≤b:=(List.mem_cons.mp hb).elim (fun z=>by rw [z];exact Nat.le_succ _) (fun z=>by rw [List.mem_singleton.mp z];exact Nat.le_refl _)
  exact I1.fpOk hb' (I1.hok.fresh hb')
 ·obtain ⟨t,rfl⟩:=ru
  refine call_enumerate_str fun h' he hit hsz hk=>wpAny_pyIter_enum he ?_
  have fin:∀ n,(h'.IsStrIter s1.heap.objs.size n z t 0)→(∀ A:Around,A.handled=none→Draws X.prog X.w A s1.heap.objs.size [s1.heap.objs.size] z.cps.size (fun i v=>∃ c u,z.cps[i]? =some c∧v= .str ⟨#[c]⟩ u) (fun i h=>h.IsStrIter s1.heap.objs.size n z t i))→
    PIE X pins σ (.Tuple elts k tpos) R (.ref (s1.heap.objs.size + 1)) {s1 with heap:=h'}:=fun n hn D=>by
   refine ⟨s1.heap.objs.size + 1,[s1.heap.objs.size + 1,s1.heap.objs.size],_,_,H1,rfl,I1.kept (t':=s1.toks) hk,BI _ _ (Nat.ne_of_gt (Nat.lt_succ_self _)) D,⟨⟨_,he⟩,hn⟩,fun b hb=>?_,q⟩
   have hb':s1.heap.objs.size≤b:=(List.mem_cons.mp hb).elim (fun z=>by rw [z];exact Nat.le_succ _) (fun z=>by rw [List.mem_singleton.mp z];exact Nat.le_refl _)
   exact I1.fpOk hb' (I1.hok.fresh hb')
  unfold strIterType at hit
  split at hit
  ·exact fin _ hit fun A hA=>Draws.strAscii hA _ z t
  ·exact fin _ hit fun A hA=>Draws.strWide hA _ z t
end
theorem pN {K:PySem.W.Frag} {a:Addr} {xs:List V} {g:TG} {tb:TS} {D:Ends} {σ:St} {H:Hp} (Pv:Nat→St→Hp→Prop) (h0:Pv 0 σ H) (hl:∀ i σ H,i≤xs.length→Pv i σ H→SqL K H a xs)
  (hs:∀ i x σ H p H',xs[i]? =some x→Pv i σ H→H p=none→Same H H'→H' p=some (.tup [.int i,x])→g (.ref p) σ H' fun σ2 H2=>tb {D with nx:=Pv (i + 1),ct:=Pv (i + 1),bk:=D.nx} σ2 H2) (hd:∀ σ H,Pv xs.length σ H→D.nx σ H):
  ∃ W:Nat→Nat→St→Hp→Prop,(∃ m,W 0 m σ H)∧∀ i m σ H,W i m σ H→
    ((Ite K a).stop i H∧D.nx σ H)∨((Ite K a).go i H∧∃ N:St→Hp→Prop,(∀ σ' H',N σ' H'→∃ m',m' < m∧W (i + 1) m' σ' H')∧∀ x H',(Ite K a).yld i H x H'→g x σ H' fun σ2 H2=>tb {D with nx:=N,ct:=N,bk:=D.nx} σ2 H2):=by
 refine ⟨fun i m σ H=>m=xs.length - i∧i≤xs.length∧Pv i σ H,⟨xs.length,by simp,Nat.zero_le _,h0⟩,?_⟩
 rintro i m σ H ⟨rfl,hi,p⟩
 have q:=hl i σ H hi p
 by_cases hlt:i < xs.length
 ·refine .inr ⟨⟨xs,xs[i],q,by simp [hlt]⟩,Pv (i + 1),fun σ' H' p'=>⟨xs.length - (i + 1),by omega,rfl,hlt,p'⟩,fun x H' y=>?_⟩
  obtain ⟨r,v,f,e1,e2,y⟩:=y
  subst e1 e2
  exact hs i v σ H r _ (y xs q) p f (fP f) bc
 ·have e:i=xs.length:=by omega
  subst e
  exact .inl ⟨⟨xs,q,rfl⟩,hd σ H p⟩
section
variable {σ:St} {H:Hp} {te:TE} {R:It→Hp→Prop}
theorem Kd {K:PySem.W.Frag} (h:te σ H fun x H1=>(∃ a,x= .ref a∧(∃ xs,SqL K H1 a xs)∧R (Ite K a) H1)∨∃ z,x= .str z∧R (Itz z) H1):MW K te σ H R:=h
end
section
variable {σ:St} {H:Hp} {Q:VK} {D:Ends} {te ty tv td:TE} {x y v:V}
theorem gH {l:Addr} {xs:List V} (e:H l=some (.lst xs)) (hz:xs.length < sizeLine) (h:∀ H2,Upd H H2 l (.lst (xs++[y]))→Q .non H2):EM (.ref l) [y] H Q:=⟨l,xs,y,rfl,rfl,e,hz,h _ Upd.of⟩
noncomputable def JC (v:V) (x:V) (D:Ends) (σ:St) (y:V) (H:Hp):Prop:=∃ a H4,x= .ref a∧DPut H a y v H4∧D.nx σ H4
theorem Ma (h:tv σ H fun v H1=>td σ H1 fun x H2=>ty σ H2 (JC v x D σ)):Ml td ty tv D σ H:=h
theorem Kj {p:Addr} {kvs:List (Key×V)} {z:Int} (e:H p=some (.dK kvs)) (hl:kvs.length < sizeLine) (h:∀ H2,Upd H H2 p (.dK (putK kvs (Sum.inl z) v))→D.nx σ H2):JC v (.ref p) D σ (.int z) H:=⟨p,_,rfl,DPut.k (k:=Sum.inl z) e hl,h _ Upd.of⟩
noncomputable def JD (x:V) (Q:VK) (y:V) (H:Hp):Prop:=∃ a v,x= .ref a∧DGet H a y (some v)∧Q v H
theorem Me (h:td σ H fun x H1=>ty σ H1 (JD x Q)):LE td ty σ H Q:=h
theorem EE {p:Addr} {kvs:List (Key×V)} {z:Int} (e:H p=some (.dK kvs)) (l:valV kvs (Sum.inl z)=some v) (h:Q v H):JD (.ref p) Q (.int z) H:=⟨p,v,rfl,by rw [← l];exact DGet.k (k:=Sum.inl z) e,h⟩
noncomputable def Jz (C:Addr) (m:Str) (sp:Sp) (E:XK) (tr:TA) (σ:St) (Q:VK) (x:V) (H:Hp):Prop:=∃ a dx fs,x= .ref a∧H a=some (.ins C dx fs)∧fs.lookup m=none∧tr σ H fun vs H2=>sp (x::(vs++[])) H2 Q E
theorem L0 {C:Addr} {m:Str} {sp:Sp} {E:XK} {tr:TA} (h:te σ H (Jz C m sp E tr σ Q)):JN C m sp [] E te tr σ H Q:=h
theorem cK {C dx p:Addr} {m:Str} {fs:List (Str×V)} {sp:Sp} {E:XK} {tr:TA} (e:H p=some (.ins C dx fs)) (l:fs.lookup m=none) (h:tr σ H fun vs H2=>sp (.ref p::vs) H2 Q E):Jz C m sp E tr σ Q (.ref p) H:=⟨p,dx,fs,rfl,e,l,by simp only [List.append_nil];exact h⟩
theorem Ka {K:PySem.W.Frag} {p:Addr} {xs:List V} (e:SqL K H p xs) (h:∀ q H2,H q=none→Same H H2→H2 q=some (.lst xs)→Q (.ref q) H2):zc K [.ref p] H Q:=⟨p,xs,rfl,.inl e,kO h⟩
theorem J9 {K:PySem.W.Frag} {p:Addr} {xs:List V} (e:SqT K H p xs) (h:∀ q H2,H q=none→Same H H2→H2 q=some (.lst xs)→Q (.ref q) H2):zc K [.ref p] H Q:=⟨p,xs,rfl,.inr e,kO h⟩
theorem LQ {K:PySem.W.Frag} {p:Addr} {xs:List V} (e:SqL K H p xs) (h:∀ q H2,H q=none→Same H H2→H2 q=some (.tup xs)→Q (.ref q) H2):IX K [.ref p] H Q:=⟨p,xs,rfl,.inl ⟨e,kO h⟩⟩
end
noncomputable def Mv (ch fr:List Addr) (h h':Heap):Prop:=(∀ b o,b∉ch→b∉fr→h.get? b=some o→h'.get? b=some o)∧∀ b o,b∉ch→b∈fr→h.get? b=some o→∃ sl,h'.get? b=some {o with slots:=sl}
noncomputable def GI (h:Heap) (e:Addr) (C:Value) (dx:Option Addr) (T:Option (Addr×Value)):Prop:=
 ∃ oe vs,h.get? e=some oe∧oe.cls=C∧oe.dict=dx∧oe.data= .fields vs∧1 < vs.size∧
   match T with
   | none=>vs[1]? =some .none
   | some (t,fl)=>vs[1]? =some (.ref t)∧t≠e∧∃ oT ts,h.get? t=some oT∧oT.data= .fields ts∧ts[3]? =some fl
section
variable {M:Model} {A:Around} {E:Value→Shared→Prop} {s:Shared}
theorem xW {h:Heap} {a:Addr} {o:Obj} {vs:Array Value} {i:Nat} {v:Value} (ho:h.get? a=some o) (hd:o.data= .fields vs):
  ∃ o',(h.update a (Obj.mapFields (·.setIfInBounds i v))).get? a=some o'∧o'.cls=o.cls∧o'.dict=o.dict∧o'.data= .fields (vs.setIfInBounds i v):=by
 have hd':=Obj.data_mapFields hd (·.setIfInBounds i v)
 refine ⟨_,Heap.get?_update_self (Obj.mapFields (·.setIfInBounds i v)) ho (Obj.isFreed_of_fields hd'),Obj.cls_mapFields _ _,?_,hd'⟩
 obtain ⟨c,d,dt,sl⟩:=o
 have hd:dt= .fields vs:=hd
 subst hd
 rfl
theorem Ik {base:Heap} {env:Env} {outer:List Env} {L e:Addr} {oe:Obj} {vs:Array Value} {head:Value} {b:Bool} {Q:Unit→Shared→Prop}
  (hfr:A.frames=some (env::outer)) (hl:s.heap.FunFrames base (env::outer)) (hf:env.frame=some L) (he:s.heap.get? e=some oe) (hd:oe.data= .fields vs) (hsz:1 < vs.size)
  (h:∀ h',Mv [e] (frs (env::outer)) s.heap h'→GI h' e oe.cls oe.dict (some (s.heap.objs.size,rawInt L))→Q () {s with heap:=h'}):
  wpAny M A (do let a ← frameOf env;let pl ← entryPlaceOf L b;let t ← EntryCells.newEntry head a .none (rawInt L) .none pl;setField (.ref e) 1 t) Q E s:=by
 have ne:e∉frs (env::outer):=fun hm=>by
  obtain ⟨_,o,ho,hnf⟩:=hl.mem hm
  rw [he] at ho;cases ho;exact hnf vs hd
 refine wpAny_bind (wpAny_frameOf_fun hfr hl hf fun g1 z1=>?_)
 refine wpAny_bind (wpAny_entryPlaceOf fun pl isp=>?_)
 unfold EntryCells.newEntry newFields
 refine wpAny_bind (wpAny_newObj_type ?_ (isp.sizeOk5 _ _ _ _ _))
 have e1:g1.get? e=some oe:=(z1.2.1 e ne).trans he
 have sz:g1.objs.size=s.heap.objs.size:=z1.1
 generalize hob:({cls:= .type "traceback",dict:=none,data:= .fields ([head,.ref L,.none,rawInt L,.none]++(if pl.isEmpty then List.replicate 6 Value.none else pl)).toArray}:Obj)=ob
 have e2:(g1.push ob).get? e=some oe:=Heap.get?_push_of_some ob e1
 refine wpAny_setField e2 hd hsz ?_
 have lt:e < g1.objs.size:=Heap.lt_size e1
 obtain ⟨o',q1,q2,q3,q4⟩:=xW (i:=1) (v:= .ref g1.objs.size) e2 hd
 have oth:∀ c,c≠e→((g1.push ob).update e (Obj.mapFields (·.setIfInBounds 1 (Value.ref g1.objs.size)))).get? c=(g1.push ob).get? c:=fun c hc=>Heap.get?_update_other _ _ (Ne.symm hc)
 have old:∀ c o,c≠e→g1.get? c=some o→((g1.push ob).update e (Obj.mapFields (·.setIfInBounds 1 (Value.ref g1.objs.size)))).get? c=some o:=fun c o hc q=>(oth c hc).trans (Heap.get?_push_of_some ob q)
 refine h _ ⟨fun c o n m q=>old c o (fun z=>n (by rw [z];exact List.mem_singleton.mpr rfl)) ((z1.2.1 c m).trans q),fun c o n m q=>?_⟩ ⟨o',_,q1,q2,q3,q4,by simpa using hsz,?_⟩
 ·obtain ⟨sl,q'⟩:=z1.2.2 c o q
  exact ⟨sl,old c _ (fun z=>n (by rw [z];exact List.mem_singleton.mpr rfl)) q'⟩
 ·have nt:g1.objs.size≠e:=Nat.ne_of_gt lt
  refine ⟨by rw [← sz];simp [hsz],by rw [← sz];exact nt,ob,_,?_,by rw [← hob],?_⟩
  ·rw [← sz,oth _ nt]
   exact Heap.get?_push_size g1 (by rw [← hob];rfl)
  ·first | (simp;done) | (rcases isp with rfl | ⟨_,_,_,_,_,_,_,rfl⟩<;>simp)
theorem FQ {e t:Addr} {C:Value} {dx:Option Addr} {fl:Value} {fr:Option Addr} {Q:Unit→Shared→Prop} (x:GI s.heap e C dx (some (t,fl)))
  (h:∀ h',(∀ b o,b≠t→s.heap.get? b=some o→h'.get? b=some o)→GI h' e C dx (some (t,fr.elim .none fun f=>rawInt f))→Q () {s with heap:=h'}):wpAny M A (setFlight (.ref e) fr) Q E s:=by
 obtain ⟨oe,vs,he,hc,hdx,hd,hsz,h1,hte,oT,ts,hT,hdT,h3⟩:=x
 unfold setFlight
 refine wpAny_bind (wpAny_field he hd h1 ?_)
 rw [if_pos (show (Value.ref t != Value.none)=true from by simp)]
 refine wpAny_setField hT hdT (Array.getElem?_eq_some_iff.mp h3).1 ?_
 obtain ⟨o',q1,q2,q3,q4⟩:=xW (i:=3) (v:=fr.elim .none fun f=>rawInt f) hT hdT
 have oth:∀ c,c≠t→(s.heap.update t (Obj.mapFields (·.setIfInBounds 3 (fr.elim Value.none fun f=>rawInt f)))).get? c=s.heap.get? c:=fun c hc=>Heap.get?_update_other _ _ (Ne.symm hc)
 refine h _ (fun b o hb q=>(oth b hb).trans q) ⟨oe,vs,(oth e (Ne.symm hte)).trans he,hc,hdx,hd,hsz,h1,hte,o',_,q1,q4,?_⟩
 have:=(Array.getElem?_eq_some_iff.mp h3).1
 simp [this]
end
section
variable {X:Cx} {pins:List (Addr×Obj)} {σ:St} {H:Hp} {s:Shared}
theorem Inv.mv {h':Heap} {ch:List Addr} (I:Inv X pins σ H s) (m:Mv ch (frs X.stack) s.heap h') (fp:∀ b∈ch,FpOk X pins H b):Inv X pins σ H {s with heap:=h'}:=by
 have nit:∀ b u,H b=some u→b∉ch:=fun b u e z=>by rw [(fp b z).1] at e;cases e
 have nfr:∀ b u,H b=some u→b∉frs X.stack:=fun b u e z=>by rw [I.stkFree b z] at e;cases e
 have any:∀ b o,b∉ch→s.heap.get? b=some o→∃ sl,h'.get? b=some {o with slots:=sl}:=fun b o n e=>by
  by_cases z:b∈frs X.stack
  ·exact m.2 b o n z e
  ·exact ⟨o.slots,m.1 b o n z e⟩
 refine I.step (g':=s.gens) (d':=s.drawn) (t':=s.toks) (ch:=ch) (fun b hb=>?_) (fun b ob hL hb hc e _=>m.1 b ob hc (fun z=>(List.mem_cons.mp (I.stkSub b z)).elim hL hb) e) (fun b ob _ _ hc e _=>any b ob hc e) (fun b ob _ e n=>n) (fun b ob hc e=>let ⟨sl,q⟩:=any b ob hc e;⟨_,q⟩)
  (fun b xs e=>e) (fun b ob u e=>e) (fun b ps e=>⟨#[],by rw [e];simp⟩) (fun m' hm=>?_) (fun b u e=>?_) I.bare
 ·obtain ⟨f0,f1,f2,f3,f4,f5⟩:=fp b hb
  exact ⟨f3,f1,f4,f5⟩
 ·obtain ⟨ob,es,ep,ho,r⟩:=hm
  obtain ⟨sl,q⟩:=any _ ob (fun z=>(fp _ z).2.1 rfl) ho
  exact ⟨_,es,ep,q,r⟩
 ·refine (I.hok b u e).stay (fun c v hc q=>m.1 c v ?_ ?_ q) (fun c q=>q) fun c xs q=>q
  ·rcases hc with z | z
   ·rw [z];exact nit b u e
   ·exact nit c _ z
  ·rcases hc with z | z
   ·rw [z];exact nfr b u e
   ·exact nfr c _ z
theorem eW.there {P:Program} {w:World} {h:Heap} {a:Addr} {o:HO} (x:eW P w H h a o):∃ o',h.get? a=some o':=by
 cases o with
 | lst xs=>obtain ⟨_,_,_,_,e⟩:=x;exact ⟨_,e⟩
 | tup xs=>obtain ⟨_,_,_,_,e,_⟩:=x;exact ⟨_,e⟩
 | dK kvs=>obtain ⟨_,_,_,_,o,_,_,e,_⟩:=x;exact ⟨_,e⟩
 | dT kvs=>obtain ⟨_,_,_,_,o,_,_,e,_⟩:=x;exact ⟨_,e⟩
 | set S n=>obtain ⟨o,_,_,_,e,_⟩:=x;exact ⟨_,e⟩
 | ins C dx fs=>obtain ⟨_,_,_,e,_⟩:=x;exact ⟨_,e⟩
 | own y=>obtain ⟨_,e⟩:=x;exact ⟨_,e⟩
 | xd fs=>obtain ⟨_,⟨_,_,_,e,_⟩,_⟩:=x;exact ⟨_,e⟩
 | rng lo hi=>obtain ⟨_,_,_,e⟩:=x;exact ⟨_,e⟩
 | frz ob u=>obtain ⟨e,_⟩:=x;exact ⟨_,e⟩
 | tbl ps=>exact ⟨_,(show h.get? a=some _ from x)⟩
 | met f y=>exact ⟨_,(show h.get? a=some _ from x)⟩
 | ext φ=>obtain ⟨_,⟨_,e⟩,_⟩:=x;exact ⟨_,e⟩
theorem HOk.none_ {P:Program} {w:World} {h:Heap} {a:Addr} (x:HOk P w H h) (e:h.get? a=none):H a=none:=by
 cases q:H a with
 | none=>rfl
 | some u=>obtain ⟨o,z⟩:=(x a u q).there;rw [e] at z;cases z
noncomputable def FpN (X:Cx) (pins:List (Addr×Obj)) (H:Hp) (b:Addr):Prop:=
 H b=none∧b≠X.env.locals∧b∉X.fs∧(b∈X.ex∨X.s₀.heap.get? b=none)∧(∀ x c,X.env.cells.lookup x=some c→c≠b)∧∀ p∈X.pn++pins,p.1≠b
theorem FpOk.n {b:Addr} (f:FpOk X pins H b):FpN X pins H b:=⟨f.1,f.2.1,f.2.2.1,f.2.2.2.1.imp id Heap.get?_none_of_le,f.2.2.2.2⟩
theorem Inv.fpN {H':Hp} {b:Addr} (I:Inv X pins σ H s) (hb:s.heap.get? b=none) (hn:H' b=none):FpN X pins H' b:=by
 refine ⟨hn,fun z=>?_,fun z=>?_,?_,fun x c e z=>?_,fun p hp z=>?_⟩
 ·obtain ⟨m,⟨o,es,ep,ho,r⟩,_⟩:=I.loc
  rw [← z,hb] at ho;cases ho
 ·obtain ⟨_,o,ho,_⟩:=I.ok.funs.mem z
  obtain ⟨o',e'⟩:=I.base.there b o ho fun y=>I.ok.exfs b y z
  rw [hb] at e';cases e'
 ·by_cases z:b∈X.ex
  ·exact .inl z
  ·cases q:X.s₀.heap.get? b with
   | none=>exact .inr rfl
   | some o=>obtain ⟨o',e'⟩:=I.base.there b o q z;rw [hb] at e';cases e'
 ·obtain ⟨v,o,q,_⟩:=I.cell x c e
  rw [z,hb] at q;cases q
 ·have:=(I.pin p hp).1
  rw [z,hb] at this;cases this
theorem Inv.mvN {h':Heap} {ch:List Addr} (I:Inv X pins σ H s) (m:Mv ch (frs X.stack) s.heap h') (fp:∀ b∈ch,FpN X pins H b):Inv X pins σ H {s with heap:=h'}:=by
 have out:∀ b o,X.s₀.heap.get? b=some o→b∉X.ex→b∉ch++X.ex:=fun b o e n z=>by
  rcases List.mem_append.mp z with z | z
  ·rcases (fp b z).2.2.2.1 with y | y
   ·exact n y
   ·rw [e] at y;cases y
  ·exact n z
 have sub:∀ b,b∉ch++X.ex→b∉X.ex:=fun b n z=>n (List.mem_append_right _ z)
 have ok:Cx.Ok {X with ex:=ch++X.ex}:=⟨I.ok.mod,I.ok.kind,I.ok.glob,I.ok.blt,I.ok.above,I.ok.inj,I.ok.has,I.ok.cab,I.ok.hd,I.ok.frames,I.ok.stk,
  fun b hb=>(List.mem_append.mp hb).elim (fun z=>⟨(fp b z).2.1,(fp b z).2.2.2.2.1⟩) (I.ok.exf b),I.ok.bs,I.ok.bsz,fun b o e=>out b o (I.ok.bs b o e).1 (I.ok.noex b o e),
  fun b hb=>(List.mem_append.mp hb).elim (fun z=>(fp b z).2.2.1) (I.ok.exfs b),I.ok.funs,I.ok.frf⟩
 have U:=I.base
 have J:Inv {X with ex:=ch++X.ex} pins σ H s:=⟨ok,I.os,I.bare,⟨fun b o e n f z=>U.keep b o e n f (sub b z),fun b o e n f z=>U.slot b o e n f (sub b z),fun b o e n z=>U.free b o e n (sub b z),fun b o e z=>U.there b o e (sub b z),U.tups,U.frzs,U.tbls⟩,
  I.loc,I.cell,I.free,I.freeC,I.pin,I.hok,I.len⟩
 have J':=J.mv (h':=h') (ch:=ch) m fun b hb=>⟨(fp b hb).1,(fp b hb).2.1,(fp b hb).2.2.1,.inl (List.mem_append_left _ hb),(fp b hb).2.2.2.2⟩
 have V:=J'.base
 exact ⟨I.ok,J'.os,J'.bare,⟨fun b o e n f z=>V.keep b o e n f (out b o e z),fun b o e n f z=>V.slot b o e n f (out b o e z),fun b o e n z=>V.free b o e n (out b o e z),fun b o e z=>V.there b o e (out b o e z),V.tups,V.frzs,V.tbls⟩,
  J'.loc,J'.cell,J'.free,J'.freeC,J'.pin,J'.hok,J'.len⟩
structure Fly (X:Cx) (pins:List (Addr×Obj)) (H:Hp) (e:Addr) (C:Value) (dx:Option Addr) (T:Option (Addr×Value)) (h:Heap):Prop where
 at_:GI h e C dx T
 fe:FpN X pins H e
 ft:∀ t fl,T=some (t,fl)→FpN X pins H t
noncomputable def Own (X:Cx):Prop:=X.stack=X.env::X.outer∧X.env.frame=some X.env.locals
theorem Fa {M:Model} {E:Value→Shared→Prop} {e:Addr} {C:Value} {dx:Option Addr} {T:Option (Addr×Value)} {Q:Unit→Shared→Prop} (I:Inv X pins σ H s) (ow:Own X) (f:Fly X pins H e C dx T s.heap)
  (h:∀ h' t,Inv X pins σ H {s with heap:=h'}→Fly X pins H e C dx (some (t,rawInt X.env.locals)) h'→Q () {s with heap:=h'}):wpAny M X.A (noteFrame (.ref e) X.env) Q E s:=by
 obtain ⟨ho,hf⟩:=ow
 have hfr:X.A.frames=some (X.env::X.outer):=by rw [I.ok.frames,ho]
 have hst:s.heap.FunFrames X.base (X.env::X.outer):=by rw [← ho];exact I.stack
 obtain ⟨⟨oe,vs,he,hc,hdx,hd,hsz,hT⟩,fe,ft⟩:=f
 have fin:∀ (s1:Shared) (oe1:Obj) (vs1:Array Value) (hd1:Value) (b1:Bool),Inv X pins σ H s1→s1.heap.objs.size=s.heap.objs.size→s1={s with heap:=s1.heap}→s1.heap.get? e=some oe1→oe1.cls=C→oe1.dict=dx→oe1.data= .fields vs1→1 < vs1.size→
   wpAny M X.A (do let a ← frameOf X.env;let pl ← entryPlaceOf X.env.locals b1;let t ← EntryCells.newEntry hd1 a .none (rawInt X.env.locals) .none pl;setField (.ref e) 1 t) Q E s1:=by
  intro s1 oe1 vs1 hd1 b1 I1 hz hs1 q1 q2 q3 q4 q5
  have hst1:s1.heap.FunFrames X.base (X.env::X.outer):=by rw [← ho];exact I1.stack
  refine Ik hfr hst1 hf q1 q4 q5 fun h' m x=>?_
  have I2:Inv X pins σ H {s1 with heap:=h'}:=I1.mvN (ch:=[e]) (by rw [ho];exact m) fun b hb=>by rw [List.mem_singleton.mp hb];exact fe
  have e2:({s1 with heap:=h'}:Shared)={s with heap:=h'}:=by rw [hs1]
  rw [e2] at I2 ⊢
  rw [q2,q3] at x
  exact h h' _ I2 ⟨x,fe,fun t fl z=>by cases z;exact (I1.fpOk (Nat.le_refl _) (I1.hok.fresh (Nat.le_refl _))).n⟩
 unfold noteFrame
 simp only [hf]
 cases T with
 | none=>
   have h1:vs[1]? =some .none:=hT
   refine wpAny_bind (wpAny_field he hd h1 ?_)
   rw [if_neg (by decide)]
   exact fin s oe vs _ _ I rfl rfl he hc hdx hd hsz
 | some p=>
   obtain ⟨t,fl⟩:=p
   obtain ⟨h1,hte,oT,ts,hTt,hdT,h3⟩:=hT
   refine wpAny_bind (wpAny_field he hd h1 ?_)
   rw [if_pos (show (Value.ref t != Value.none)=true from by simp)]
   refine wpAny_bind (wpAny_field hTt hdT h3 ?_)
   by_cases hz:(fl == rawInt X.env.locals)=true
   ·rw [if_pos hz]
    have hz':=eq_of_beq hz
    subst hz'
    exact wpAny_pure (h s.heap t I ⟨⟨oe,vs,he,hc,hdx,hd,hsz,h1,hte,oT,ts,hTt,hdT,h3⟩,fe,ft⟩)
   ·rw [if_neg hz]
    refine wpAny_bind (wpAny_setField hTt hdT (Array.getElem?_eq_some_iff.mp h3).1 ?_)
    have oth:∀ c,c≠t→(s.heap.update t (Obj.mapFields (·.setIfInBounds 3 Value.none))).get? c=s.heap.get? c:=fun c hc=>Heap.get?_update_other _ _ (Ne.symm hc)
    have m1:Mv [t] (frs X.stack) s.heap (s.heap.update t (Obj.mapFields (·.setIfInBounds 3 Value.none))):=
     ⟨fun b o n _ q=>(oth b (fun z=>n (by rw [z];exact List.mem_singleton.mpr rfl))).trans q,fun b o n _ q=>⟨o.slots,(oth b (fun z=>n (by rw [z];exact List.mem_singleton.mpr rfl))).trans q⟩⟩
    have I1:=I.mvN m1 fun b hb=>by rw [List.mem_singleton.mp hb];exact ft t fl rfl
    exact fin _ oe vs _ _ I1 (Heap.size_after_update ..) rfl ((oth e (Ne.symm hte)).trans he) hc hdx hd hsz
theorem Jo {M:Model} {A:Around} {E:Value→Shared→Prop} {e t:Addr} {C:Value} {dx:Option Addr} {fl:Value} {fr:Option Addr} {Q:Unit→Shared→Prop} (I:Inv X pins σ H s) (f:Fly X pins H e C dx (some (t,fl)) s.heap)
  (h:∀ h',Inv X pins σ H {s with heap:=h'}→Fly X pins H e C dx (some (t,fr.elim .none fun f=>rawInt f)) h'→Q () {s with heap:=h'}):wpAny M A (setFlight (.ref e) fr) Q E s:=by
 refine FQ f.at_ fun h' k x=>h h' (I.mvN (ch:=[t]) ⟨fun b o n _ q=>k b o (fun z=>n (by rw [z];exact List.mem_singleton.mpr rfl)) q,fun b o n _ q=>⟨o.slots,k b o (fun z=>n (by rw [z];exact List.mem_singleton.mpr rfl)) q⟩⟩ fun b hb=>by rw [List.mem_singleton.mp hb];exact f.ft t fl rfl) ⟨x,f.fe,fun t' fl' z=>by cases z;exact f.ft t fl rfl⟩
end
noncomputable abbrev XW:=St→XK
noncomputable def XE (X:Cx) (W:XW) (e:Value) (s:Shared):Prop:=∃ pins x C dx T σ H,e= .ref x∧Inv X pins σ H s∧Fly X pins H x C dx T s.heap∧W σ C dx H
noncomputable def Thr (X:Cx) (W:XW):Prop:=∀ e s,XE X W e s→X.xe e s
noncomputable abbrev Cx.thr (X:Cx) (W:XW):Cx:=X.wish (XE X W)
noncomputable abbrev W0:XW:=fun _ _ _ _=>False
section
variable {X:Cx} {W:XW} {pins:List (Addr×Obj)} {σ:St} {H:Hp} {s:Shared}
theorem Fly.wish {E:Value→Shared→Prop} {e:Addr} {C:Value} {dx:Option Addr} {T:Option (Addr×Value)} {h:Heap} (f:Fly (X.wish E) pins H e C dx T h):Fly X pins H e C dx T h:=⟨f.at_,f.fe,f.ft⟩
theorem pH:Thr (X.thr W) W:=fun e s ⟨pins,x,C,dx,T,σ,H,he,I,f,w⟩=>⟨pins,x,C,dx,T,σ,H,he,I.unwish,f.wish,w⟩
theorem thr0:Thr X W0:=fun e s ⟨pins,x,C,dx,T,σ,H,he,I,f,w⟩=>w.elim
theorem Ca (ow:Own X):PassesOwn (model X.prog X.w) X.A X.env (XE X W):=by
 intro e s' ⟨pins,x,C,dx,T,σ,H,he,I,f,w⟩
 subst he
 unfold notedBy
 refine Fa I ow f fun h' t I' f'=>?_
 unfold cameBackBy
 obtain ⟨⟨oe,vs,q1,q2,q3,q4,q5,q6,q7⟩,fe,ft⟩:=id f'
 refine wpAny_bind (wpAny_field q1 q4 q6 ?_)
 rw [if_neg (by simp)]
 refine Jo I' f' fun h2 I2 f2=>?_
 rw [ow.2] at f2
 exact ⟨pins,x,C,dx,_,σ,H,rfl,I2,f2,w⟩
theorem zm (ow:Own X):PassesOwn (model X.prog X.w) X.A X.env (X.thr W).xe:=Ca ow
theorem PSs.thr {st:List Stmt} {t:TS} (h:PSs (X.thr W) st t) (k:Thr X W):PSs X st t:=fun pins s σ H D I hw=>
 wpAny_mono (h pins s σ H D (I.wish _) hw) (fun _ _ q=>q.unwish) k
end
noncomputable def CX1 (P:Program) (w:World):CXT:=fun outer H s E e s'=>∃ x C dx t H',e= .ref x∧s'.os=s.os∧AllBare s'.gens∧Un (frs outer) [] H H' s.heap s'.heap∧HOk P w H' s'.heap∧
 GI s'.heap x C dx (some (t,.none))∧s.heap.get? x=none∧s.heap.get? t=none∧H' x=none∧H' t=none∧E C dx H'
section
variable {P:Program} {w:World} {K:PySem.W.Frag} {mg:Str→Option Value} {base:Heap}
theorem HR {N:List Str} {qual:Str} {scope:Scope} {f:Addr} {cd:Value} {A:Around} {outer:List Env} {s:Shared} {H:Hp} {E:XK}:
  Thr (cxOf (CX1 P w) P w K mg base N qual scope f cd A outer s H E) fun _=>E:=by
 intro e s' ⟨pins,x,C,dx,T,σ,H',he,I,f',wq⟩
 subst he
 have own:Own (cxOf (CX1 P w) P w K mg base N qual scope f cd A outer s H E):=⟨rfl,rfl⟩
 show wpAny _ _ (leaving _ _) _ _ _
 unfold leaving
 refine wpAny_bind (Fa I own f' fun h1 t I1 f1=>?_)
 refine Jo (fr:=none) I1 f1 fun h2 I2 f2=>?_
 have fx:=f2.fe
 have ft:=f2.ft t _ rfl
 have no:∀ b:Addr,(b∈([]:List Addr)∨s.heap.get? b=none)→s.heap.get? b=none:=fun b z=>z.elim (fun q=>absurd q (by simp)) id
 exact ⟨x,C,dx,t,H',rfl,I2.os,I2.bare,I2.base,I2.hok,f2.at_,no x fx.2.2.2.1,no t ft.2.2.2.1,fx.1,ft.1,wq⟩
theorem Fun.okX {x qual:Str} {st:Stmt} {f:Addr} {fd:FuncData} {N ps:List Str} {k:Nat} {sp:Sp} (F:Fun K x qual st f fd) (S:ay N ps (ad st)) (len:∀ vs H Q E,sp vs H Q E→vs.length=ps.length)
  (hbody:∀ (cdv:Value) (A:Around) (outer:List Env) (s:Shared) (H:Hp) (vs:List V) (Q:VK) (E:XK),Room k (A.deeper (envOfC qual (ad st) s.heap.objs.size f cdv))→sp vs H Q E→
   ∃ t,PSs ((cxOf (CX1 P w) P w K mg base N qual (ad st) f cdv A outer s H E).thr fun _=>E) (aw st) t∧t {nx:=fun _ H'=>Q .non H',rt:=Q} (pV N vs) H):FnOk P w K mg base (CX1 P w) (k + 1) f fd ps sp:=by
 obtain ⟨oc,od,kV,doc,pm,an,cdv,ct,osl,rfl,lk,hcd⟩:=F.ex
 refine MX lk hcd S len fun A outer s H vs Q E hr hsp=>?_
 obtain ⟨t,h,q⟩:=hbody cdv A outer s H vs Q E hr hsp
 exact ⟨t,h.thr HR,q⟩
end
section
variable {X:Cx} {W:XW} {pins:List (Addr×Obj)} {σ:St} {H:Hp} {s s':Shared}
theorem Inv.afterX {e:Value} (I:Inv X pins σ H s) (hx:Thr X W) (h:CX1 X.prog X.w X.stack H s (W σ) e s'):X.xe e s':=by
 obtain ⟨x,C,dx,t,H',rfl,os,bare,un,hok,ea,zx,zt,nx,nt,w⟩:=h
 refine hx _ _ ⟨pins,x,C,dx,_,σ,H',rfl,I.call' (ch:=[]) os un hok bare (fun b z=>absurd z (by simp)),⟨ea,I.fpN zx nx,fun t' fl z=>?_⟩,w⟩
 cases z
 exact I.fpN zt nt
variable {k:Nat} {f C:Addr} {fd:FuncData} {ps:List Str} {sp:Sp} {dvs:List V} {ds:List Value} {x m:Str} {p pos apos:Pos} {e o:Expr} {es:List Expr} {ta:TE} {t:TA}
theorem Km {Q:VK} {us:List Value} {vs:List V} (F:FnOk X.prog X.w X.K X.mg X.base (CX1 X.prog X.w) k f fd ps sp) (hr:Room k X.A) (hb:be X.K fd ps ds) (hd:Vals dvs ds) (hx:Thr X W)
  (I:Inv X pins σ H s) (r:Vals vs us) (h:sp (vs++dvs) H Q (W σ)):wpAny (model X.prog X.w) X.A (call (.ref f) us) (EP X pins σ Q) X.xe s:=by
 have r2:Vals (vs++dvs) (us++ds):=r.append hd
 have hl:(us++ds).length=ps.length:=by rw [← r2.length];exact F.len _ _ _ _ h
 refine wpAny_call (codeAny_mono (F.run X.A X.stack s H ⟨us,[]⟩ (us++ds) (vs++dvs) Q (W σ) hr I.env0 (hb s us I.kIn hl) r2 h) fun r s' hq=>?_)
 cases r with
 | error e=>exact I.afterX hx hq
 | ok fl=>
   cases fl with
   | ret u=>exact I.after hq
   | next=>exact False.elim hq
   | brk=>exact False.elim hq
   | cont=>exact False.elim hq
noncomputable def IM (C:Addr) (m:Str) (sp:Sp) (dvs:List V) (W:XW) (ta:TE) (t:TA):TE:=fun σ H Q=>ta σ H fun x H1=>∃ a dx fs,x= .ref a∧H1 a=some (.ins C dx fs)∧fs.lookup m=none∧
 t σ H1 fun vs H2=>sp (x::(vs++dvs)) H2 Q (W σ)
theorem j2 {pl:Sem Bool} (he:PE X o ta) (c:Cls X.K C) (hm:Meth X.K C m f) (F:FnOk X.prog X.w X.K X.mg X.base (CX1 X.prog X.w) k f fd ps sp) (hr:Room k X.A) (hb:be X.K fd ps ds) (hd:Vals dvs ds) (hx:Thr X W) (ha:PA X (e::es) t)
  (hst:starEach (e::es) X.env=(false,eval e X.env)::starEach es X.env:=by rfl) (hpl:(backTo pos (starEach es X.env)).any (·.1)=false:=by rfl)
  (ht:eval (.Call (.Attribute o m apos) (e::es) [] pos) X.env=(do
   let ov ← eval o X.env
   standAt apos.atName
   let (f,first) ← holding [ov] (getMethod ov m pl)
   callWith pos f first (backTo pos (starEach (e::es) X.env)) (backToKw pos (keywordEach [] X.env))):=by rfl):
  PE X (.Call (.Attribute o m apos) (e::es) [] pos) (IM C m sp dvs W ta t):=by
 intro pins s σ H Q I h
 refine PySem.W.methodCall_KW (pl:=pl) (thn (he pins s σ H _ I h) fun u s1 ⟨x,H1,I1,rx,a,dx,fs,ex,ea,l,q⟩=>?_) ht
 subst ex
 obtain rfl:u=Value.ref a:=rx
 refine nJ I1 ea c hm l ?_
 refine PySem.W.callWith_K (first:=[.ref a]) (h₀:=X.base) I.ok.mod.kin hm.kp (thn (ha pos pins s1 σ H1 _ I1 q) fun us s2 ⟨vs,H2,I2,r,q2⟩=>⟨I2.kIn,?_⟩) hst hpl
 exact Km (us:= .ref a::us) (vs:= .ref a::vs) F hr hb hd hx I2 (.cons rfl r) q2
end
structure XCls (h:Heap) (C:Addr) (bmB:List Value) (newId:String):Prop where
 obj:∃ bm N nm q bs hdct sn sub ab col dd k0 k1 k2 k3 k5 mN,h.get? C=some (excClassObj nm q C N bs bm hdct sn sub ab col dd k0 k1 k2 k3 k5 newId)∧h.Ns N mN∧mN "__init__"=none∧OwnTail h bmB bm
theorem JL {K:PySem.W.Frag} {h:Heap} {C:Addr} {bmB:List Value} {newId:String} (X:K.In h) (q:PySem.W.excIn K C bmB newId=true):XCls h C bmB newId:=by
 refine ⟨?_⟩
 unfold PySem.W.excIn at q
 split at q
 next dd cd sl ho=>
  split at q
  next C' bm k0 k1 k2 k3 n k5 hm hs=>
   simp only [Bool.and_eq_true,beq_iff_eq,Bool.not_eq_true'] at q
   obtain ⟨⟨⟨⟨⟨e1,e2⟩,hdel⟩,ht⟩,hok⟩,hni⟩:=q
   subst e1 e2
   cases cd with
   | mk nm bs mro ns qn hd sn sub ab col del=>
   have hm:mro=_:=hm
   have hdel:del=false:=hdel
   subst hm hdel
   have hsl:sl=#[k0,k1,k2,k3,some (.builtin n),k5]:=by rw [← hs]
   subst hsl
   exact ⟨bm,ns,nm,qn,bs,hd,sn,sub,ab,col,dd,k0,k1,k2,k3,k5,_,X _ _ ho,.of_isNs (PySem.W.isNs_of_in X hok),PySem.W.nsMap_none_of_in X hok hni,PySem.W.tail_of_in X ht⟩
  next=>cases q
 next=>cases q
section
variable {X:Cx} {W:XW} {C:Addr} {x:Str} {np cpos pos:Pos} {e:Expr} {es:List Expr} {t:TA} {B newId initId:String} {bmB:List Value}
noncomputable def IL (C:Addr) (W:XW) (t:TA):TS:=fun _ σ H=>t σ H fun vs H1=>vs.length≤sizeLine∧W σ (.ref C) none H1
theorem KI {pins:List (Addr×Obj)} {σ:St} {H:Hp} {s:Shared} {h':Heap} {a:Addr} {vs:List Value} (I:Inv X pins σ H s) (m:Heap.MadeExcOf s.heap h' a (.ref C) vs):
  Inv X pins σ H {s with heap:=h'}∧Fly X pins H a (.ref C) none none h':=by
 obtain ⟨tt,q1,q2,q3⟩:=m.there
 exact ⟨I.mvN (ch:=[]) ⟨fun b o _ _ e=>m.keeps b o e,fun b o _ _ e=>⟨o.slots,m.keeps b o e⟩⟩ fun b z=>absurd z (by simp),⟨⟨_,_,q1,rfl,rfl,rfl,by simp,by simp⟩,I.fpN m.new (I.hok.none_ m.new),fun t fl z=>by cases z⟩⟩
theorem j1 (FB:ExcBaseFacts B newId initId bmB) (q:PySem.W.excIn X.K C bmB newId=true) (hx:Thr X W) (hc:X.calm=true) (hg:Gl X x) (hm:X.mg x=some (.ref C)) (ha:PA X (e::es) t)
  (hdb:(x == ("__debug__":Str))=false:=by decide) (he:starEach (e::es) X.env=(false,eval e X.env)::starEach es X.env:=by rfl) (hpl:(backTo cpos (starEach es X.env)).any (·.1)=false:=by rfl):
  PS X (.Raise (some (.Call (.Name x np) (e::es) [] cpos)) none pos) (IL C W t):=by
 intro pins s σ H D I h
 obtain ⟨tl,N,nm,qn,bs,hdct,sn,sub,ab,col,dd,k0,k1,k2,k3,k5,mN,hC,hN,hni,T⟩:=(JL I.ok.mod.kin q).obj
 refine wpAny_Raise_call_subT (C:=C) (nm:=nm) (q:=qn) (N:=N) (bs:=bs) (bm:=tl) (hdct:=hdct) (sn:=sn) (sub:=sub) (ab:=ab) (col:=col) (dd:=dd) (k0:=k0) (k1:=k1) (k2:=k2) (k3:=k3) (k5:=k5)
  FB (mN:=mN) (T.hasType FB.hasBase) (I.ok.hd hc) (by rw [he];show (false||(backTo cpos (starEach es X.env)).any (·.1))=false;rw [hpl];rfl) hni (vw I hg hm ⟨rfl,?_⟩ hdb)
 have ha':=ha cpos pins s σ H _ I h
 rw [he] at ha' ⊢
 refine Calls.evalArgs_plain (wpAny_mono ha' (fun us s2 ⟨vs,H1,I1,r,z,w⟩=>⟨rfl,?_,I1.bk _ _ hC,hN.keeps I1.bk,T.keeps I1.bk,fun h' a m=>?_⟩) fun _ _ y=>y)
 ·show us.length≤_
  rw [← r.length];exact z
 ·obtain ⟨I2,f2⟩:=KI I1 m
  exact hx _ _ ⟨pins,a,.ref C,none,none,σ,H1,rfl,I2,f2,w⟩
end
structure Ll (K:PySem.W.Frag) (G:Addr):Prop where
 ty:PySem.W.typeIn K (.ref G)=some (.type "type")
 cls:PySem.W.isClsIn K G=true
 base:PySem.W.mroIn K G (.type "BaseException")=some true
section
variable {X:Cx} {pins:List (Addr×Obj)} {σ:St} {H:Hp} {s:Shared}
theorem Inv.track {x:Addr} {o:HO} (I:Inv X pins σ H s) (f:FpN X pins H x) (new:eW X.prog X.w (upd H x o) s.heap x o):Inv X pins σ (upd H x o) s:=by
 obtain ⟨f0,f1,f2,f3,f4,f5⟩:=f
 have ne:∀ b u,H b=some u→b≠x:=fun b u e z=>by rw [z,f0] at e;cases e
 have old:∀ b u,H b=some u→upd H x o b=some u:=fun b u e=>by rw [aJ (ne b u e)];exact e
 have U:=I.base
 refine ⟨I.ok,I.os,I.bare,⟨U.keep,U.slot,fun b ob e n hx=>?_,U.there,fun b xs e=>old b _ (U.tups b xs e),fun b ob u e=>old b _ (U.frzs b ob u e),fun b ps e=>?_⟩,I.loc,I.cell,?_,fun y c e=>?_,fun p hp=>?_,fun b ob e=>?_,I.len⟩
 ·rw [aJ (fun z=>?_)]
  ·exact U.free b ob e n hx
  ·subst z
   rcases f3 with y | y
   ·exact hx y
   ·rw [e] at y;cases y
 ·obtain ⟨m,q⟩:=U.tbls b ps e
  exact ⟨m,old b _ q⟩
 ·rw [aJ (Ne.symm f1)];exact I.free
 ·rw [aJ (f4 y c e)];exact I.freeC y c e
 ·obtain ⟨e,n,r⟩:=I.pin p hp
  exact ⟨e,by rw [aJ (f5 p hp)];exact n,r⟩
 ·by_cases z:b=x
  ·subst z
   rw [bc] at e
   cases e
   exact new
  ·rw [aJ z] at e
   exact (I.hok b ob e).stay (fun _ _ _ q=>q) (fun c q=>old c _ q) fun c xs q=>old c _ q
end
noncomputable def ExcO (x:Addr) (C:Value) (dx:Option Addr):HO:= .ext fun h=>∃ oe vs,h.get? x=some oe∧oe.cls=C∧oe.dict=dx∧oe.data= .fields vs
noncomputable abbrev Cx.pin (X:Cx) (pins:List (Addr×Obj)):Cx:={X with pn:=X.pn++pins}
noncomputable abbrev Cx.mark (X:Cx) (pins:List (Addr×Obj)) (e:Value):Cx:={X with A:=X.A.mark (some e),calm:=false,pn:=X.pn++pins,xe:=fun _ _=>False}
noncomputable def Ends.less (D:Ends) (i:Nat):Ends:={nx:=fun σ H=>D.nx (σ.set i none) H,rt:=D.rt,bk:=fun σ H=>D.bk (σ.set i none) H,ct:=fun σ H=>D.ct (σ.set i none) H}
noncomputable def WTry (K:PySem.W.Frag) (G:Addr) (i:Nat) (Wo:XW) (ts:TS) (D:Ends):XW:=fun σ C dx H=>∃ c,C= .ref c∧((PySem.W.mroIn K c (.ref G)=some true∧∀ x,H x=none→ts (D.less i) (σ.set i (some (.ref x))) (upd H x (ExcO x C dx)))∨
 (PySem.W.mroIn K c (.ref G)=some false∧Wo σ C dx H))
structure XIsi (K:PySem.W.Frag) (D:Addr):Prop where
 cls:PySem.W.isClsIn K D=true
 ga:PySem.W.findIn K (.ref D) "__getattribute__"=some (some (.builtin "BaseException.__getattribute__"))
 gr:PySem.W.findIn K (.ref D) "__getattr__"=some none
 ha:PySem.W.findIn K (.ref D) "__class__"=some (some (.builtin "object.__class__"))
 hn:PySem.W.specialIn K (.builtin "object.__class__") "__get__"=some (some (.builtin "getset_descriptor.__get__"))
 tk:PySem.W.takesIn K (.builtin "object.__class__")=some true
 hm:PySem.W.mroIn K D (.type "object")=some true
 base:PySem.W.mroIn K D (.type "BaseException")=some true
noncomputable def dV:V→Value
 | .ref a=> .ref a
 | .ty n=> .type n
 | _=> .none
section
variable {σ:St} {H:Hp} {Q:VK} {D:Ends} {W:XW} {t:TA}
theorem J8 {C:Addr} (h:t σ H fun vs H1=>vs.length≤sizeLine∧W σ (.ref C) none H1):IL C W t D σ H:=h
end
theorem qe {X:Cx} {K:PySem.W.Frag} {es:List Expr} {k:Nat} {t:TGs} {n:Nat} {pos:Pos} (h:X.K=K) (hc:X.calm=true) (ht:PGs X es t)
  (hn:(assignEach es X.env).length=n:=by rfl) (hst:(assignEach es X.env).findIdx? (·.1)=none:=by rfl):PG X (.Tuple es k pos) (gTup K n t):=by subst h;exact ku hc ht hn hst
theorem Ks {k:Key} {v:Value} (h:xF k v=true):RelV (kV k) v:=by
 rcases b8 h with ⟨i,t,rfl,rfl⟩ | ⟨x,t,rfl,rfl⟩
 ·exact ⟨t,rfl⟩
 ·exact ⟨t,rfl⟩
theorem wW {α β:Type} {F:α→β→Prop}:∀ {l:List α} {m:List β},l.length=m.length→(∀ (i:Nat) (a:α) (b:β),l[i]? =some a→m[i]? =some b→F a b)→Paired F l m
 | [],[],_,_=> .nil
 | a::l,b::m,hl,h=> .cons (h 0 a b rfl rfl) (wW (by simpa using hl) fun i x y hx hy=>h (i + 1) x y (by simpa using hx) (by simpa using hy))
 | [],_::_,hl,_=>by simp at hl
 | _::_,[],hl,_=>by simp at hl
section
variable {σ:St} {H:Hp} {Q:VK} {D:Ends} {te ty tv td:TE} {x y v:V}
noncomputable def Nr (y:V) (Q:VK) (x:V) (H:Hp):Prop:=∃ a o,x= .ref a∧DGet H a y o∧Q (.bl o.isSome) H
theorem NR (h:ty σ H fun y H1=>td σ H1 (Nr y Q)):tDIn ty td σ H Q:=h
theorem Md {p:Addr} {kvs:List (Key×V)} {z:Int} (e:H p=some (.dK kvs)) (h:Q (.bl (valV kvs (Sum.inl z)).isSome) H):Nr (.int z) Q (.ref p) H:=⟨p,_,rfl,DGet.k (k:=Sum.inl z) e,h⟩
theorem EF {l:Addr} {xs:List V} (e:H l=some (.lst xs)) (h:∀ H2,Upd H H2 l (.lst [])→Q .non H2):IZ (.ref l) [] H Q:=⟨l,xs,rfl,rfl,e,h _ Upd.of⟩
theorem Kk {l b:Addr} {xs zs:List V} (e:H l=some (.lst xs)) (e':H b=some (.lst zs)) (hz:xs.length + zs.length≤sizeLine) (h:∀ p H2,H p=none→Same H H2→H2 p=some (.lst (xs++zs))→Q (.ref p) H2):rCat (.ref l) (.ref b) H Q:=⟨l,b,xs,zs,rfl,rfl,e,e',hz,kO h⟩
end
theorem pM:∀ {ns:List Int} {us:List Value},Vals (ns.map V.int) us→IntsAre us ns
 | [],us,r=>by cases r;exact .nil
 | n::ns,us,r=>by
   rw [List.map_cons] at r
   cases r with
   | cons h t=>obtain ⟨t',rfl⟩:=h;exact .cons _ _ (pM t)
theorem FE:∀ {ns:List Int} {us:List Value},IntsAre us ns→Vals (ns.map V.int) us:=pS
noncomputable def Mo:List V→Hp→VK→Prop:=fun xs H Q=>∃ (p:Addr) (ns:List Int),xs=[.ref p]∧H p=some (.lst (ns.map V.int))∧0 < ns.length∧∀ m:Int,m∈ns→(∀ a∈ns,a≤m)→Q (.int m) H
noncomputable def Mn:List V→Hp→VK→Prop:=fun xs H Q=>∃ (p:Addr) (ns:List Int),xs=[.ref p]∧H p=some (.lst (ns.map V.int))∧Q (.int ns.sum) H
section
variable {X:Cx}
theorem Gd (hc:X.calm=true):jU X (.builtin "max") Mo:=by
 intro pins s σ H xs us Q I r h
 obtain ⟨p,ns,rfl,hp,hne,q⟩:=h
 obtain ⟨u,rfl,rx⟩:=uq r
 cases rx
 obtain ⟨z,its,n,rv,hl,e⟩:=I.lstM hp
 have hi:=pM rv
 obtain ⟨zs,ez⟩:=hi.allInts.items
 have hns:ns=zs.toList.map (·.1):=by rw [← hi.numsOf,← nums_intItems,← ez]
 have hsz:0 < zs.size:=by have h3:=hne;rw [hns,List.length_map,Array.length_toList] at h3;exact h3
 have hL:s.heap.IsList p (intItems zs):=by rw [← ez];exact ⟨_,e,rfl,n,rfl⟩
 refine max_intList (I.ok.hd hc) hL hsz fun v h' tk hv hk=>?_
 obtain ⟨t,rfl⟩:=intItems_at hv
 obtain ⟨h1,h2⟩:=argBest_gt (numAt zs) (zs.size - 1)
 refine ⟨.int _,H,I.kept hk,⟨t,rfl⟩,q _ ?_ fun a ha=>?_⟩
 ·rw [hns,numAt_eq];exact getD_mem (by rw [List.length_map,Array.length_toList];omega)
 ·rw [hns] at ha
  obtain ⟨j,hj,rfl⟩:=mem_getD ha
  rw [List.length_map,Array.length_toList] at hj
  rw [← numAt_eq];exact h2 j (by omega)
theorem B2 (zs:Array (Int×Tok)):preSum (numAt zs) zs.size=(zs.toList.map (·.1)).sum:=by
 rw [preSum_eq,List.take_of_length_le (by rw [List.length_map,Array.length_toList];exact Nat.le_refl _)]
theorem Gc (hc:X.calm=true):jU X (.builtin "sum") Mn:=by
 intro pins s σ H xs us Q I r h
 obtain ⟨p,ns,rfl,hp,q⟩:=h
 obtain ⟨u,rfl,rx⟩:=uq r
 cases rx
 obtain ⟨z,its,n,rv,hl,e⟩:=I.lstM hp
 have hi:=pM rv
 obtain ⟨zs,ez⟩:=hi.allInts.items
 have hns:ns=zs.toList.map (·.1):=by rw [← hi.numsOf,← nums_intItems,← ez]
 have hL:s.heap.IsList p (intItems zs):=by rw [← ez];exact ⟨_,e,rfl,n,rfl⟩
 refine call_sum_walkAnyS (iter_intList hL fun s₂ e2 st hfp hlI=>?_)
 subst e2
 refine ⟨_,_,_,_,_,_,_,numAt zs,rfl,(Walks.list (A:=X.A.in1) (I.ok.hd hc) _ p hlI (intItems zs)).toS,st,hfp,(fun _ _=>intItems_at),fun s' t' hm=>?_⟩
 rw [Moved.eq_with hm]
 have hsz:(intItems zs).size=zs.size:=by simp [intItems]
 rw [hsz,B2,← hns]
 refine ⟨.int ns.sum,H,I.kept (fun b o e=>hm.heap b o (fun hb=>?_) (Heap.get?_push_of_some _ e)),⟨_,rfl⟩,q⟩
 rw [List.mem_singleton] at hb
 rw [hb] at e
 exact Nat.lt_irrefl _ (Heap.lt_size e)
end
section
variable {prog:Program} {w:World} {A:Around} {E:Value→Shared→Prop} {s:Shared} {d:Addr} {vs:List (Key×Value)} {ep:Nat}
theorem B9:plainId "list.__iadd__"=true:=by decide +kernel
theorem ye {Q:List Value→Shared→Prop} (hh:A.handled=none) (lo:(d == sysModules)=false) (hat:s.heap.DictAt (cT prog w) d vs ep) (hn:vs.length≤sizeLine)
  (h:∀ h' tk (acc:Array Value),(∀ b o,s.heap.get? b=some o→h'.get? b=some o)→s.heap.objs.size < h'.objs.size→ItemsOf (fun i v=>∃ k x,vs[i]? =some (k,x)∧(cT prog w).is k v=true) acc vs.length→Q acc.toList {s with heap:=h',toks:=tk}):
  wpAny (model prog w) A (collect (.ref d)) Q E s:=by
 unfold collect
 refine wpAny_bind (wpAny_runValue (codeAny_builtin entry_proto_collect' ?_))
 show wpAny _ _ (do again (.builtin "list.__iadd__" ⟨[← newList [],.ref d],[]⟩)) _ _ s
 refine wpAny_bind (wpAny_newList (wpAny_pure ⟨Code.quiet_builtin _ (by decide +kernel),codeAny_builtin entry_list_iadd' ?_⟩))
 rw [Around.under_plainId B9 _]
 show wpAny _ _ (Builtin.List.listExtendWith (.ref s.heap.objs.size) (.ref d) (.ref s.heap.objs.size)) _ _ {s with heap:=s.heap.push (seqObj "list" #[] 0)}
 have hlt:=hat.lt_size
 refine PySem.W.kdl_extend (R:=fun r s'=>match r with
   | Except.ok (Flow.ret v)=>wpAny (model prog w) A (match v with
     | Value.ref a=>do
       let o ← load a
       match o.data with
       | .seq xs _=>pure xs.toList
       | _=>unsupported "internal:collect"
     | _=>unsupported "internal:collect") Q E s'
   | Except.ok _=>False
   | Except.error e=>E e s') (s:={s with heap:=s.heap.push (seqObj "list" #[] 0)}) (PySem.W.kdl_dict (knd:=cT prog w) (kvs:=vs) (ep:=ep) lo) hh (hat.push _) s.heap.objs.size (Nat.ne_of_gt hlt) (Nat.ne_of_gt hlt) _ 0 (Heap.get?_push_size _ rfl) (fun h' tk acc' c' hk hS hacc=>?_) hn
 show wpAny (model prog w) A (do
   let o ← load s.heap.objs.size
   match o.data with
   | .seq xs _=>pure xs.toList
   | _=>unsupported "internal:collect") Q E {s with heap:=h',toks:=tk}
 refine wpAny_bind (wpAny_load hS ?_)
 exact wpAny_pure (h h' tk acc' (fun b o e=>hk b o (Nat.ne_of_lt (Heap.lt_size e)) (Heap.get?_push_of_some _ e)) (Heap.lt_size hS) hacc)
theorem yV {Q:Value→Shared→Prop} {ks:List Int} (hh:A.handled=none) (lo:(d == sysModules)=false) (hat:s.heap.DictAt (cT prog w) d vs ep) (hn:vs.length≤sizeLine) (hk:vs.map (·.1)=ks.map Sum.inl) (h64:vs.length < 64)
  (h:∀ h' tk a (out:Array Value) (e:Nat) (ns':List Int),(∀ b o,s.heap.get? b=some o→h'.get? b=some o)→s.heap.objs.size≤a→h'.get? a=some (seqObj "list" out e)→IntsAre out.toList ns'→ns'.Perm ks→ns'.Pairwise (·≤·)→Q (.ref a) {s with heap:=h',toks:=tk}):
  wpAny (model prog w) A (call (.builtin "sorted") [.ref d]) Q E s:=by
 refine Calls.call_function_entry kind_sorted plain_sorted entry_sorted (args_sorted1 _) ?_
 unfold Builtin.«sorted»
 refine wpAny_bind (m:=checkCount "sorted" 1 1 _) (wpAny_pure ?_)
 refine wpAny_bind (ye (by exact hh) lo hat hn fun h' tk acc hk' hsz hacc=>?_)
 have hlen:(ks.map V.int).length=acc.toList.length:=by
  have e1:=congrArg List.length hk
  rw [List.length_map,List.length_map] at e1
  have e2:acc.toList.length=vs.length:=by rw [Array.length_toList];exact hacc.1
  rw [List.length_map];omega
 have hI:IntsAre acc.toList ks:=by
  refine pM (wW hlen fun i a b ha hb=>?_)
  rw [List.getElem?_map] at ha
  obtain ⟨k,hki,rfl⟩:=Option.map_eq_some_iff.mp ha
  rw [Array.getElem?_toList] at hb
  obtain ⟨k',x,hx,hki'⟩:=hacc.2 i b hb
  have e1:(vs.map (·.1))[i]? =some k':=by rw [List.getElem?_map,hx];rfl
  rw [hk,List.getElem?_map,hki] at e1
  have e1:=Option.some.inj e1
  subst e1
  exact Ks (show xF (Sum.inl k) b=true from hki')
 have hal:acc.toList.length < 64:=by rw [Array.length_toList,hacc.1];exact h64
 refine wpAny_bind (wpAny_newList ?_)
 have hoL:(h'.push (seqObj "list" acc.toList.toArray 0)).get? h'.objs.size=some (seqObj "list" acc.toList.toArray 0):=Heap.get?_push_size _ rfl
 show wpAny _ _ _ _ _ {s with heap:=h'.push (seqObj "list" acc.toList.toArray 0),toks:=tk}
 refine wpAny_bind (wpAny_holding (wpAny_call_entry slot_list_sort ⟨_,hoL,rfl⟩ entry_list_sort (list_sort_tree hoL hI hal fun out ns' a1 a2 a3=>⟨_,rfl,?_⟩) (args_list_sort _)))
 obtain ⟨e,he⟩:=sortedHeap_at (out:=out) hoL
 refine wpAny_pure ⟨_,rfl,h _ tk h'.objs.size out e ns' (fun b o hb=>?_) ?_ he a1 a2 a3⟩
 ·have hlt:=Heap.lt_size (hk' b o hb)
  rw [sortedHeap_old (Nat.ne_of_lt hlt) (by rw [size_push'];exact Nat.lt_succ_of_lt hlt)]
  exact Heap.get?_push_of_some _ (hk' b o hb)
 ·exact Nat.le_of_lt hsz
end
noncomputable def IY:List V→Hp→VK→Prop:=fun xs H Q=>∃ (p:Addr) (ks:List Int) (kvs:List (Key×V)),xs=[.ref p]∧H p=some (.dK kvs)∧kvs.map (·.1)=ks.map Sum.inl∧kvs.length < 64∧
 ∀ (l:Addr) (ns:List Int),H l=none→ns.Perm ks→ns.Pairwise (·≤·)→Q (.ref l) (upd H l (.lst (ns.map V.int)))
theorem Df {X:Cx} (hc:X.calm=true):jU X (.builtin "sorted") IY:=by
 intro pins s σ H xs us Q I r h
 obtain ⟨p,ks,kvs,rfl,hp,hk,h64,q⟩:=h
 obtain ⟨u,rfl,rx⟩:=uq r
 cases rx
 obtain ⟨hz,lo,vs,rel,dd⟩:=M5 I.hok hp
 obtain ⟨ep,hat⟩:=dd.dictAt
 refine yV (ks:=ks) (I.ok.hd hc) lo hat (by rw [← rel.length];exact hz) (by rw [← rel.keys];exact hk) (by rw [← rel.length];exact h64) fun h' tk a out e ns' kp ha he hi hpm hpw=>?_
 have rv:=FE hi
 have hl:(ns'.map V.int).length≤sizeLine:=by
  have e1:=congrArg List.length hk
  rw [List.length_map,List.length_map] at e1
  rw [List.length_map,hpm.length_eq,← e1]
  exact hz
 refine ⟨.ref a,_,I.laid (t':=tk) kp ha (show eW X.prog X.w _ h' _ (.lst (ns'.map V.int)) from ⟨hl,out.toList,e,rv,by simpa using he⟩),rfl,q _ ns' (I.hok.fresh ha) hpm hpw⟩
section
variable {H:Hp} {Q:VK}
theorem J7 {p:Addr} {kvs:List (Key×V)} {ks:List Int} (e:H p=some (.dK kvs)) (hk:kvs.map (·.1)=ks.map Sum.inl) (h64:kvs.length < 64) (h:∀ (l:Addr) (ns:List Int) (H2:Hp),H l=none→Same H H2→H2 l=some (.lst (ns.map V.int))→ns.Perm ks→ns.Pairwise (·≤·)→Q (.ref l) H2):IY [.ref p] H Q:=
 ⟨p,ks,kvs,rfl,e,hk,h64,fun l ns hl hp hw=>h l ns _ hl (fP hl) bc hp hw⟩
end
open AutoSeq1 (wpAny_loadPart')
section
variable {prog:Program} {w:World} {A:Around} {E:Value→Shared→Prop} {s:Shared}
theorem nw {it t:Addr} {i:Nat} {items:Array Value} {x:Value} {Q:Value→Shared→Prop} (hit:s.heap.IsTupleIter it t i) (ht:s.heap.IsTuple t items) (hx:items[i]? =some x)
  (hQ:∀ h',h'.IsTupleIter it t (i + 1)→Heap.SameBut it s.heap h'→Q x {s with heap:=h'}):
  wpAny (model prog w) A (Builtin.SmallTypes.nextOf (.ref it)) Q E s:=by
 obtain ⟨o,ho,hc,hd⟩:=id hit
 obtain ⟨ol,hol,_,nl,hdl⟩:=ht
 unfold Builtin.SmallTypes.nextOf
 refine wpAny_bind (wpAny_callSpecial?_slot (name:=Str.ofString "__next__") hit.typeIs F.slot_tuple_iterator_next
  (wpAny_call_entry F.slot_tuple_iterator_next hit.typeIs F.entry_tuple_iterator_next ?_ (F.args_tuple_iterator_next_1 _)))
 show wpAny _ _ (field (.ref it) 0 >>=_) _ _ s
 refine wpAny_bind (wpAny_field ho hd (x:= .ref t) rfl ?_)
 show wpAny _ _ (if (Value.ref t == Value.none)=true then _ else _) _ _ s
 rw [if_neg (show ¬ ((Value.ref t == Value.none)=true) from Bool.false_ne_true)]
 show wpAny _ _ (field (.ref it) 1 >>=_) _ _ s
 refine wpAny_bind (wpAny_field ho hd (x:= .int i 0) rfl ?_)
 show wpAny _ _ (seqItems? (.ref t) >>=_) _ _ s
 refine wpAny_bind (wpAny_seqItems hol hdl ?_)
 simp only [Int.toNat_natCast,hx]
 refine wpAny_bind (wpAny_setField ho hd (by simp) (wpAny_pure ⟨x,rfl,wpAny_pure (hQ _ ?_ (Heap.SameBut.update ..))⟩))
 exact ⟨_,Heap.get?_update_self _ ho (Obj.isFreed_of_fields (Obj.data_mapFields hd _)),(Obj.cls_mapFields ..).trans hc,by
  rw [Obj.data_mapFields hd];simp [rawInt]⟩
theorem o4 {it t:Addr} {i:Nat} {items:Array Value} {Q:Value→Shared→Prop} (hh:A.handled=none) (hit:s.heap.IsTupleIter it t i) (ht:s.heap.IsTuple t items) (hx:items[i]? =none)
  (hE:∀ h' e,Heap.ExtBut it s.heap h'→(∃ o,h'.get? e=some o∧o.cls= .type "StopIteration")→E (.ref e) {s with heap:=h'}):
  wpAny (model prog w) A (Builtin.SmallTypes.nextOf (.ref it)) Q E s:=by
 obtain ⟨o,ho,hc,hd⟩:=id hit
 obtain ⟨ol,hol,_,nl,hdl⟩:=ht
 unfold Builtin.SmallTypes.nextOf
 refine wpAny_bind (wpAny_callSpecial?_slot (name:=Str.ofString "__next__") hit.typeIs F.slot_tuple_iterator_next
  (wpAny_call_entry F.slot_tuple_iterator_next hit.typeIs F.entry_tuple_iterator_next ?_ (F.args_tuple_iterator_next_1 _)))
 show wpAny _ _ (field (.ref it) 0 >>=_) _ _ s
 refine wpAny_bind (wpAny_field ho hd (x:= .ref t) rfl ?_)
 show wpAny _ _ (if (Value.ref t == Value.none)=true then _ else _) _ _ s
 rw [if_neg (show ¬ ((Value.ref t == Value.none)=true) from Bool.false_ne_true)]
 show wpAny _ _ (field (.ref it) 1 >>=_) _ _ s
 refine wpAny_bind (wpAny_field ho hd (x:= .int i 0) rfl ?_)
 show wpAny _ _ (seqItems? (.ref t) >>=_) _ _ s
 refine wpAny_bind (wpAny_seqItems hol hdl ?_)
 simp only [Int.toNat_natCast,hx]
 refine wpAny_bind (wpAny_rule (wpAny_bind (wpAny_setField ho hd (by simp) ?_)))
 show wpAny _ _ (newExc (.type "StopIteration") [] >>=_) _ _ _
 refine wpAny_bind ?_
 simp only [newExc,newTuple]
 refine wpAny_bind (wpAny_newObj_type ?_ (by size_fits))
 refine wpAny_bind (m:=firstArgMember _ _) (wpAny_of_eq (a:=Value.none) (by first | rfl | (simp only [firstArgMember];rfl)) ?_)
 refine wpAny_newObj_type ?_ (by size_fits)
 simp only [raiseNew]
 refine wpAny_bind (wpAny_handled ?_)
 first | rw [show A.in1.handled=none from hh] | rw [hh]
 refine wpAny_bind (wpAny_pure (wpAny_throw ?_))
 exact hE _ _ (((Heap.SameBut.update ..).extBut.push _).push _) ⟨_,Heap.get?_push_size _ rfl,rfl⟩
end
theorem Draws.tuple {prog:Program} {w:World} {A:Around} (hh:A.handled=none) (it l:Addr) (hne:l≠it) (items:Array Value):
  Draws prog w A it [it,l] items.size (fun i v=>items[i]? =some v) (fun i h=>h.IsTupleIter it l i∧h.IsTuple l items) where
 live:=fun _ _ st=>let ⟨o,ho,_⟩:=st.1;⟨o,ho⟩
 frame:=fun _ _ _ st hk=>⟨let ⟨o,ho,r⟩:=st.1;⟨o,hk it (by simp) o ho,r⟩,let ⟨o,ho,r⟩:=st.2;⟨o,hk l (by simp) o ho,r⟩⟩
 item:=fun i s Q E hi st hQ=>by
  refine nw st.1 st.2 (x:=items[i]) (by simp [hi]) fun h' hit' hs'=>?_
  exact hQ _ h' s.toks (by simp [hi]) ⟨hit',st.2.extBut hs'.extBut hne⟩ hs'
 done:=fun s Q E st hE=>o4 hh st.1 st.2 (by simp) hE
theorem kq (l:Addr) (items:Array Value) (n:Nat) (dct:Option Addr) (sl:Array (Option Value)):
  Meets (Builtin.«enumerate.__new__» ⟨[.type "enumerate",.ref l],[]⟩) (fun _ R s=>s.heap.get? l=some {cls:= .type "tuple",dict:=dct,data:= .seq items n,slots:=sl}∧
   R (.ok (.ret (.ref (s.heap.push {cls:= .type "tuple_iterator",data:= .fields #[.ref l,.int 0 0]}).objs.size)))
     {s with heap:=(s.heap.push {cls:= .type "tuple_iterator",data:= .fields #[.ref l,.int 0 0]}).push {cls:= .type "enumerate",data:= .fields #[.none,.bool false,.ref s.heap.objs.size,rawInt 0,.none,.none]}}):=
 .of_wp fun prog w A R s h=>by
  obtain ⟨hp,g,d,tk,os⟩:=s;obtain ⟨hl,h⟩:=h
  have hsub:=sub_enumerate
  have hL:Heap.IsTuple (Shared.heap ⟨hp,g,d,tk,os⟩) l items:=⟨_,hl,rfl,n,rfl⟩
  wp_walk using wpAny_loadPart' hl
  refine wpAny_stack_any fun st=>wpAny_pure ?_
  split
  ·rename_i c _ _ _ _ _
   cases (c == Value.type "enumerate")
   ·wp_walk using wpAny_loadPart' hl,wpAny_pyIter_tuple hL
    exact ⟨_,rfl,h⟩
   ·wp_walk using wpAny_loadPart' hl,wpAny_pyIter_tuple hL
    exact ⟨_,rfl,h⟩
  ·wp_walk using wpAny_loadPart' hl,wpAny_pyIter_tuple hL
   exact ⟨_,rfl,h⟩
theorem kr {prog:Program} {w:World} {A:Around} {E:Value→Shared→Prop} {s:Shared} {l:Addr} {items:Array Value} {Q:Value→Shared→Prop} (hL:s.heap.IsTuple l items)
  (h:∀ h',IsEnum h' (s.heap.objs.size + 1) s.heap.objs.size 0 .none→h'.IsTupleIter s.heap.objs.size l 0→h'.objs.size=s.heap.objs.size + 2→
   (∀ b o,s.heap.get? b=some o→h'.get? b=some o)→Q (.ref (s.heap.objs.size + 1)) {s with heap:=h'}):
  wpAny (model prog w) A (call (.type "enumerate") [.ref l]) Q E s:=by
 obtain ⟨⟨c,dct,dt,sl⟩,hl,hc,n,hd⟩:=hL
 replace hc:c= .type "tuple":=hc
 replace hd:dt= .seq items n:=hd
 subst hc hd
 refine callType_new F.called_enumerate (by decide) (F.typeCall_enumerate_1 _) (F.newCall_enumerate_1 _) (fun obj=>F.args_object_init_2 obj _) F.entry_enumerate_new
  (kq l items n dct sl) ⟨hl,?_⟩
 have hz:(s.heap.push {cls:= .type "tuple_iterator",data:= .fields #[.ref l,.int 0 0]}).objs.size=s.heap.objs.size + 1:=Heap.size_push ..
 show _∧_
 rw [hz]
 have he:IsEnum ((s.heap.push {cls:= .type "tuple_iterator",data:= .fields #[.ref l,.int 0 0]}).push
   {cls:= .type "enumerate",data:= .fields #[.none,.bool false,.ref s.heap.objs.size,rawInt 0,.none,.none]}) (s.heap.objs.size + 1) s.heap.objs.size 0 .none:=by
  have:=Heap.get?_push_size (s.heap.push {cls:= .type "tuple_iterator",data:= .fields #[.ref l,.int 0 0]})
   (o:={cls:= .type "enumerate",data:= .fields #[.none,.bool false,.ref s.heap.objs.size,rawInt 0,.none,.none]}) rfl
  rw [hz] at this;exact this
 refine ⟨⟨_,he,rfl⟩,h _ he ⟨_,Heap.get?_push_of_some _ (Heap.get?_push_size _ rfl),rfl,rfl⟩ (by rw [Heap.size_push,hz]) fun b o x=>Heap.get?_push_of_some _ (Heap.get?_push_of_some _ x)⟩
noncomputable def Itet (K:PySem.W.Frag) (a:Addr):It:=
 ⟨fun i H=>∃ xs x,SqT K H a xs∧xs[i]? =some x,fun i H x H'=>∃ p v,H p=none∧x= .ref p∧H'=upd H p (.tup [.int i,v])∧∀ xs,SqT K H a xs→xs[i]? =some v,fun i H=>∃ xs,SqT K H a xs∧xs.length=i⟩
theorem BH {P:Program} {w:World} {K:PySem.W.Frag} {elts:List Expr} {k:Nat} {pos:Pos} (a e it:Addr) (hei:e≠it):
  Turn P w K (.Tuple elts k pos) (Itet K a) [e,it] e (fun i h=>(∃ old,IsEnum h e it i old)∧h.IsTupleIter it a i) where
 mem:=by simp
 obj:=fun i h st b hb=>by
  obtain ⟨⟨old,he⟩,⟨o,ho,hc,hd⟩⟩:=st
  rcases List.mem_cons.mp hb with z | z
  ·subst z;exact ⟨_,he,fun v z=>by cases z⟩
  ·rw [List.mem_singleton.mp z];exact ⟨o,ho,fun v z=>by rw [hd] at z;cases z⟩
 keep:=fun i h h' st k=>⟨let ⟨old,he⟩:=st.1;⟨old,k e (by simp) _ he⟩,(let ⟨o,ho,r⟩:=st.2;⟨o,k it (by simp) o ho,r⟩)⟩
 item:=by
  intro X hP hw hK hc i pins s σ H E I hf st hg
  subst hP hw hK
  obtain ⟨xs,x,hq,hx⟩:=hg
  obtain ⟨its,rv,p,hz⟩:=I.tuple hq
  have pT:s.heap.IsTuple a its.toArray:=p
  obtain ⟨⟨old,he⟩,hl⟩:=st
  have hai:a≠it:=fun z=>by
   obtain ⟨o,ho,hcl,_⟩:=hl
   obtain ⟨o',ho',hcl',_⟩:=pT
   rw [z,ho] at ho';cases ho';rw [hcl] at hcl';exact absurd hcl' (by decide)
  have hae:a≠e:=fun z=>by
   obtain ⟨o',ho',hcl',_⟩:=pT
   rw [z,he] at ho';cases ho';exact absurd (show Value.type "enumerate"= .type "tuple" from hcl') (by decide)
  have W:=WalksT.enumerateD (prog:=X.prog) (w:=X.w) (A:=X.A) (Draws.tuple (A:=X.A.in1) (I.ok.hd hc) it a hai its.toArray) e hei (by simp [hei,Ne.symm hae]) (by simp)
  have hi:i < its.toArray.size:=by have:=rv.length;have:=(List.getElem?_eq_some_iff.mp hx).1;simp;omega
  refine W.item i s _ _ hi ⟨⟨old,he⟩,hl,pT⟩ fun T vals h' tk hPt hT htup hmid hk=>⟨_,rfl,W.go elts k pos i T _ _ _ hmid fun h'' hst hk2=>?_⟩
  obtain ⟨t,x',hx',rfl⟩:=hPt
  have hap:=W.apart i T h' hmid
  have ru:RelV x x':=by
   obtain ⟨u,hu,r⟩:=rv.get hx
   have hx'':its[i]? =some x':=by simpa using hx'
   rw [hu] at hx'';cases hx'';exact r
  have kk:∀ b u,b∉[e,it]→s.heap.get? b=some u→h''.get? b=some u:=fun b u hb q=>hk2 b u hb (hk b u hb q)
  have fr:H T=none:=I.hok.fresh hT
  refine ⟨.ref T,upd H T (.tup [.int i,x]),I.laidCh (t':=tk) kk hT ⟨AV,[.int i t,x'],.cons ⟨t,rfl⟩ (.cons ru .nil),?_⟩ hf,rfl,⟨T,x,fr,rfl,rfl,fun ys hy=>by rw [I.tuple_inj hy hq];exact hx⟩,⟨hst.1,hst.2.1⟩,fun b hb=>?_⟩
  ·obtain ⟨o,ho,r⟩:=htup
   exact ⟨o,hk2 T o hap ho,r⟩
  ·have fb:=(hf b hb)
   rw [aJ (fun z=>?_)]
   ·exact fb.1
   ·have lt:b < s.heap.objs.size:=by
     rcases List.mem_cons.mp hb with z | z
     ·subst z;exact Heap.lt_size he
     ·rw [List.mem_singleton.mp z];obtain ⟨o,ho,_⟩:=hl;exact Heap.lt_size ho
    rw [z] at lt
    exact absurd (Nat.lt_of_lt_of_le lt hT) (Nat.lt_irrefl _)
 done:=by
  intro X hP hw hK hc i pins s σ H E I hf st hg
  subst hP hw hK
  obtain ⟨xs,hq,hx⟩:=hg
  obtain ⟨its,rv,p,hz⟩:=I.tuple hq
  have pT:s.heap.IsTuple a its.toArray:=p
  obtain ⟨⟨old,he⟩,hl⟩:=st
  have hai:a≠it:=fun z=>by
   obtain ⟨o,ho,hcl,_⟩:=hl
   obtain ⟨o',ho',hcl',_⟩:=pT
   rw [z,ho] at ho';cases ho';rw [hcl] at hcl';exact absurd hcl' (by decide)
  have hae:a≠e:=fun z=>by
   obtain ⟨o',ho',hcl',_⟩:=pT
   rw [z,he] at ho';cases ho';exact absurd (show Value.type "enumerate"= .type "tuple" from hcl') (by decide)
  have W:=WalksT.enumerateD (prog:=X.prog) (w:=X.w) (A:=X.A) (Draws.tuple (A:=X.A.in1) (I.ok.hd hc) it a hai its.toArray) e hei (by simp [hei,Ne.symm hae]) (by simp)
  have hn:its.toArray.size=i:=by have:=rv.length;simp;omega
  subst hn
  exact W.done s _ _ ⟨⟨old,he⟩,hl,pT⟩ fun h' tk hk=>⟨rfl,I.turnedCh hk hf⟩
 self:=fun _ _ _ _ _ st h=>let ⟨_,he⟩:=st.1;wpAny_pyIter_enum he h
noncomputable def Jl (K:PySem.W.Frag) (tl:TE):TI:=fun σ H R=>tl σ H fun x H1=>∃ a,x= .ref a∧(((∃ xs,SqL K H1 a xs)∧R (Ite K a) H1)∨((∃ xs,SqT K H1 a xs)∧R (Itet K a) H1))
section
variable {X:Cx} {K:PySem.W.Frag}
theorem uT {l:Expr} {tl:TE} {elts:List Expr} {k:Nat} {tpos p pos:Pos} (h:X.K=K) (hg:Gl X "enumerate") (hm:X.mg "enumerate"=none) (hl:PE X l tl) (hs:starEach [l] X.env=[(false,eval l X.env)]:=by rfl):
  PI X (.Tuple elts k tpos) (.Call (.Name "enumerate" p) [l] [] pos) (Jl K tl):=by
 subst h
 intro pins s σ H R I h
 refine Call_ (oy I hg hm boot_enumerate (PyProof.Rows.callWith_type1 (thn (aa hl af hs pos pins s σ H (fun vs H1=>match vs with | [x]=>∃ a,x= .ref a∧(((∃ xs,SqL X.K H1 a xs)∧R (Ite X.K a) H1)∨((∃ xs,SqT X.K H1 a xs)∧R (Itet X.K a) H1)) | _=>False) I h) fun us s1 ⟨vs,H1,I1,r1,q1⟩=>?_) hs rfl))
 match vs,r1,q1 with
 | [x],r1,q1=>
 obtain ⟨u,rfl,ru⟩:=r1.one
 obtain ⟨a,rfl,q1⟩:=q1
 cases ru
 have fin:∀ b∈[s1.heap.objs.size + 1,s1.heap.objs.size],FpOk X pins H1 b:=fun b hb=>by
  have hb':s1.heap.objs.size≤b:=(List.mem_cons.mp hb).elim (fun z=>by rw [z];exact Nat.le_succ _) (fun z=>by rw [List.mem_singleton.mp z];exact Nat.le_refl _)
  exact I1.fpOk hb' (I1.hok.fresh hb')
 rcases q1 with ⟨⟨xs,hq⟩,q⟩ | ⟨⟨xs,hq⟩,q⟩
 ·obtain ⟨its,rv,pl,hz⟩:=I1.list hq
  refine call_enumerate_list pl.isList fun h' he hit hsz hk=>wpAny_pyIter_enum he ?_
  exact ⟨s1.heap.objs.size + 1,[s1.heap.objs.size + 1,s1.heap.objs.size],_,_,H1,rfl,I1.kept (t':=s1.toks) hk,tL a _ _ (Nat.ne_of_gt (Nat.lt_succ_self _)),⟨⟨_,he⟩,hit⟩,fin,q⟩
 ·obtain ⟨its,rv,pl,hz⟩:=I1.tuple hq
  refine kr (show s1.heap.IsTuple a its.toArray from pl) fun h' he hit hsz hk=>wpAny_pyIter_enum he ?_
  exact ⟨s1.heap.objs.size + 1,[s1.heap.objs.size + 1,s1.heap.objs.size],_,_,H1,rfl,I1.kept (t':=s1.toks) hk,BH a _ _ (Nat.ne_of_gt (Nat.lt_succ_self _)),⟨⟨_,he⟩,hit⟩,fin,q⟩
end
theorem ka {K:PySem.W.Frag} {n:Nat} {fx:List Nat} {g:TG} {tc:TT} {te:TE} {σ:St} {H1:Hp} {D:Addr} {Q:Hp→Prop} {a:Addr} {xs:List V} (Pv:Nat→List V→Hp→Prop) (h0:Pv 0 [] (upd H1 D (.lst []))) (hl:∀ i ys H,i≤xs.length→Pv i ys H→SqL K H a xs)
  (hs:∀ i x ys H p H',xs[i]? =some x→Pv i ys H→H p=none→Same H H'→H' p=some (.tup [.int i,x])→g (.ref p) (df n fx σ) H' fun σ4 H4=>tc σ4 H4 fun b H5=>if b=true then te σ4 H5 fun v H6=>H6 D=some (.lst ys)∧ys.length < sizeLine∧Pv (i + 1) (ys++[v]) (upd H6 D (.lst (ys++[v]))) else Pv (i + 1) ys H5)
  (hd:∀ ys H,Pv xs.length ys H→Q H):
  ∃ W:Nat→Nat→List V→Hp→Prop,(∃ m,W 0 m [] (upd H1 D (.lst [])))∧∀ i m ys H2,W i m ys H2→((Ite K a).stop i H2∧Q H2)∨
    ((Ite K a).go i H2∧∃ N:List V→Hp→Prop,(∀ ys' H',N ys' H'→∃ m',m' < m∧W (i + 1) m' ys' H')∧∀ x H3,(Ite K a).yld i H2 x H3→g x (df n fx σ) H3 fun σ4 H4=>tc σ4 H4 fun b H5=>
      if b=true then te σ4 H5 fun v H6=>H6 D=some (.lst ys)∧ys.length < sizeLine∧N (ys++[v]) (upd H6 D (.lst (ys++[v]))) else N ys H5):=by
 refine ⟨fun i m ys H=>m=xs.length - i∧i≤xs.length∧Pv i ys H,⟨xs.length,by simp,Nat.zero_le _,h0⟩,?_⟩
 rintro i m ys H ⟨rfl,hi,p⟩
 have q:=hl i ys H hi p
 by_cases hlt:i < xs.length
 ·refine .inr ⟨⟨xs,xs[i],q,by simp [hlt]⟩,Pv (i + 1),fun ys' H' p'=>⟨xs.length - (i + 1),by omega,rfl,hlt,p'⟩,fun x H' y=>?_⟩
  obtain ⟨r,v,f,e1,e2,y⟩:=y
  subst e1 e2
  exact hs i v ys H r _ (y xs q) p f (fP f) bc
 ·have e:i=xs.length:=by omega
  subst e
  exact .inl ⟨⟨xs,q,rfl⟩,hd ys H p⟩
theorem Db {K:PySem.W.Frag} {n:Nat} {fx:List Nat} {g:TG} {tc:TT} {te:TE} {σ:St} {H1:Hp} {D:Addr} {Q:Hp→Prop} {a:Addr} {xs:List V} (Pv:Nat→List V→Hp→Prop) (h0:Pv 0 [] (upd H1 D (.lst []))) (hl:∀ i ys H,i≤xs.length→Pv i ys H→SqT K H a xs)
  (hs:∀ i x ys H p H',xs[i]? =some x→Pv i ys H→H p=none→Same H H'→H' p=some (.tup [.int i,x])→g (.ref p) (df n fx σ) H' fun σ4 H4=>tc σ4 H4 fun b H5=>if b=true then te σ4 H5 fun v H6=>H6 D=some (.lst ys)∧ys.length < sizeLine∧Pv (i + 1) (ys++[v]) (upd H6 D (.lst (ys++[v]))) else Pv (i + 1) ys H5)
  (hd:∀ ys H,Pv xs.length ys H→Q H):
  ∃ W:Nat→Nat→List V→Hp→Prop,(∃ m,W 0 m [] (upd H1 D (.lst [])))∧∀ i m ys H2,W i m ys H2→((Itet K a).stop i H2∧Q H2)∨
    ((Itet K a).go i H2∧∃ N:List V→Hp→Prop,(∀ ys' H',N ys' H'→∃ m',m' < m∧W (i + 1) m' ys' H')∧∀ x H3,(Itet K a).yld i H2 x H3→g x (df n fx σ) H3 fun σ4 H4=>tc σ4 H4 fun b H5=>
      if b=true then te σ4 H5 fun v H6=>H6 D=some (.lst ys)∧ys.length < sizeLine∧N (ys++[v]) (upd H6 D (.lst (ys++[v]))) else N ys H5):=by
 refine ⟨fun i m ys H=>m=xs.length - i∧i≤xs.length∧Pv i ys H,⟨xs.length,by simp,Nat.zero_le _,h0⟩,?_⟩
 rintro i m ys H ⟨rfl,hi,p⟩
 have q:=hl i ys H hi p
 by_cases hlt:i < xs.length
 ·refine .inr ⟨⟨xs,xs[i],q,by simp [hlt]⟩,Pv (i + 1),fun ys' H' p'=>⟨xs.length - (i + 1),by omega,rfl,hlt,p'⟩,fun x H' y=>?_⟩
  obtain ⟨r,v,f,e1,e2,y⟩:=y
  subst e1 e2
  exact hs i v ys H r _ (y xs q) p f (fP f) bc
 ·have e:i=xs.length:=by omega
  subst e
  exact .inl ⟨⟨xs,q,rfl⟩,hd ys H p⟩
section
variable {σ:St} {H:Hp} {te:TE} {R:It→Hp→Prop}
theorem j0 {K:PySem.W.Frag} (h:te σ H fun x H1=>∃ a,x= .ref a∧(((∃ xs,SqL K H1 a xs)∧R (Ite K a) H1)∨((∃ xs,SqT K H1 a xs)∧R (Itet K a) H1))):Jl K te σ H R:=h
end
namespace ZP
noncomputable abbrev Busy (h:Heap) (z TI TO T:Addr) (fl:Bool):Prop:=h.get? z=some {cls:= .type "zip",data:= .fields #[rawInt T,.bool fl,.bool false,.ref TI,.ref TO]}
section
variable {prog:Program} {w:World} {A:Around} {E:Value→Shared→Prop} {s:Shared}
theorem Fb {z TI TO T:Addr} {fl:Bool} {oT:Obj} {Q:Bool→Shared→Prop} (hz:Busy s.heap z TI TO T fl) (hT:s.heap.get? T=some oT) (h:∀ h',Busy h' z TI TO T true→Heap.SameBut z s.heap h'→Q false {s with heap:=h'}):
  wpAny (model prog w) A (Builtin.SmallTypes.ownedTupleIsFree (.ref z)) Q E s:=by
 unfold Builtin.SmallTypes.ownedTupleIsFree
 refine wpAny_bind (wpAny_field hz rfl (x:=rawInt T) rfl ?_)
 show wpAny _ _ (loadIfAlive ((T:Int).toNat) >>=_) _ _ s
 rw [Int.toNat_natCast]
 refine wpAny_bind (PySem.W.kdx_alive hT ?_)
 rw [if_neg (by simp)]
 refine wpAny_bind (wpAny_field hz rfl (x:= .bool fl) rfl ?_)
 cases fl with
 | true=>
   rw [if_neg (by decide)]
   exact wpAny_pure (h s.heap hz ⟨rfl,fun _ _=>rfl⟩)
 | false=>
   rw [if_pos (by decide)]
   refine wpAny_bind (wpAny_setField_rec hz (by show 1 < 5;decide) fun h' e hs=>wpAny_pure (h h' e hs))
theorem Fc {z TI TO T i1 i2 l1 l2:Addr} {fl:Bool} {oT:Obj} {i:Nat} {xs ys:Array Value} {x y:Value} {Q:Option Value→Shared→Prop} (ap:ZipApart z TI TO i1 i2 l1 l2) (hz:Busy s.heap z TI TO T fl) (hT:s.heap.get? T=some oT)
  (hI:IsPair s.heap TI (.ref i1) (.ref i2)) (h1:s.heap.IsListIter i1 l1 i) (h2:s.heap.IsListIter i2 l2 i) (hl1:s.heap.IsList l1 xs) (hl2:s.heap.IsList l2 ys) (hx:xs[i]? =some x) (hy:ys[i]? =some y)
  (h:∀ h',Busy h' z TI TO T true→h'.IsListIter i1 l1 (i + 1)→h'.IsListIter i2 l2 (i + 1)→(∀ b o,b≠z→b≠i1→b≠i2→s.heap.get? b=some o→h'.get? b=some o)→h'.get? s.heap.objs.size=some {cls:= .type "tuple",data:= .seq #[x,y]}→Q (some (.ref s.heap.objs.size)) {s with heap:=h'}):
  wpAny (model prog w) A (pyNext (.ref z)) Q E s:=by
 have ty:s.TypeIs (.ref z) "zip":=⟨_,hz,rfl⟩
 unfold pyNext
 refine wpAny_bind (wpAny_attempt (wpAny_callSpecial?_slot (name:=Str.ofString "__next__") ty F.slot_zip_next (wpAny_call_entry F.slot_zip_next ty F.entry_zip_next ?_ (F.args_zip_next_1 _))))
 unfold Builtin.«zip.__next__»
 refine wpAny_bind (wpAny_of_eq (a:=(Value.ref z,[])) rfl ?_)
 dsimp only
 refine wpAny_bind (wpAny_field hz rfl (x:= .bool false) rfl ?_)
 refine wpAny_bind (wpAny_field hz rfl (x:= .ref TI) rfl ?_)
 refine wpAny_bind (wpAny_seqItems hI rfl ?_)
 dsimp only
 rw [if_neg (show ¬ (#[Value.ref i1,Value.ref i2].isEmpty=true) from Bool.false_ne_true)]
 refine wpAny_bind (Fb hz hT fun h' hz' hs=>?_)
 rw [if_neg (by decide)]
 rw [← Array.forIn_toList]
 simp only [List.forIn_cons,List.forIn_nil]
 have keep:∀ {b:Addr} {o:Obj},b≠z→s.heap.get? b=some o→h'.get? b=some o:=fun nb e=>(hs.2 _ nb).trans e
 have h1':h'.IsListIter i1 l1 i:=h1.at fun o e=>keep ap.i1z e
 have h2':h'.IsListIter i2 l2 i:=h2.at fun o e=>keep ap.i2z e
 have hl1':h'.IsList l1 xs:=let ⟨o,e,c⟩:=hl1;⟨o,keep ap.l1z e,c⟩
 have hl2':h'.IsList l2 ys:=let ⟨o,e,c⟩:=hl2;⟨o,keep ap.l2z e,c⟩
 refine wpAny_bind (wpAny_bind (wpAny_bind (wpAny_holding ?_)))
 show wpAny _ _ (Builtin.SmallTypes.nextOf (.ref i1) >>=fun x=>pure (some x)) _ _ _
 refine wpAny_bind (wpAny_nextOf_list_item h1' hl1' hx fun h3 it3 sm3=>wpAny_pure ?_)
 dsimp only
 refine wpAny_pure ?_
 dsimp only
 have keep3:∀ {b:Addr} {o:Obj},b≠i1→h'.get? b=some o→h3.get? b=some o:=fun nb e=>(sm3.2 _ nb).trans e
 refine wpAny_bind (wpAny_bind (wpAny_holding ?_))
 show wpAny _ _ (Builtin.SmallTypes.nextOf (.ref i2) >>=fun x=>pure (some x)) _ _ _
 refine wpAny_bind (wpAny_nextOf_list_item (h2'.at fun o e=>keep3 (Ne.symm ap.i12) e) (let ⟨o,e,c⟩:=hl2';⟨o,keep3 ap.l2i1 e,c⟩) hy fun h4 it4 sm4=>wpAny_pure ?_)
 have keep4:∀ {b:Addr} {o:Obj},b≠i2→h3.get? b=some o→h4.get? b=some o:=fun nb e=>(sm4.2 _ nb).trans e
 dsimp only
 refine wpAny_pure ?_
 dsimp only
 refine wpAny_pure ?_
 dsimp only
 have es:h4.objs.size=s.heap.objs.size:=sm4.1.trans (sm3.1.trans hs.1)
 refine wpAny_bind (wpAny_newTuple (wpAny_pure ⟨_,rfl,wpAny_pure ?_⟩) (by show 2≤sizeLine;rw [sizeLine_eq];decide))
 show Q (some (.ref h4.objs.size)) {s with heap:=h4.push _}
 rw [es]
 refine h _ ?_ ?_ ?_ (fun b o nz n1 n2 e=>Heap.get?_push_of_some _ (keep4 n2 (keep3 n1 (keep nz e)))) ?_
 ·exact Heap.get?_push_of_some _ (keep4 (Ne.symm ap.i2z) (keep3 (Ne.symm ap.i1z) hz'))
 ·exact it3.at fun o e=>Heap.get?_push_of_some _ (keep4 ap.i12 e)
 ·exact it4.at fun o e=>Heap.get?_push_of_some _ e
 ·rw [← es];exact Heap.get?_push_size _ rfl
theorem HH {z TI TO T i1 i2 l1 l2:Addr} {fl:Bool} {oT:Obj} {i:Nat} {xs:Array Value} {Q:Option Value→Shared→Prop} (hh:A.handled=none) (ap:ZipApart z TI TO i1 i2 l1 l2) (hz:Busy s.heap z TI TO T fl) (hT:s.heap.get? T=some oT)
  (hI:IsPair s.heap TI (.ref i1) (.ref i2)) (h1:s.heap.IsListIter i1 l1 i) (hl1:s.heap.IsList l1 xs) (hx:xs[i]? =none)
  (h:∀ h',(∀ b o,b≠z→b≠i1→s.heap.get? b=some o→h'.get? b=some o)→Q none {s with heap:=h'}):
  wpAny (model prog w) A (pyNext (.ref z)) Q E s:=by
 have ty:s.TypeIs (.ref z) "zip":=⟨_,hz,rfl⟩
 unfold pyNext
 refine wpAny_bind (wpAny_attempt (wpAny_callSpecial?_slot (name:=Str.ofString "__next__") ty F.slot_zip_next (wpAny_call_entry F.slot_zip_next ty F.entry_zip_next ?_ (F.args_zip_next_1 _))))
 unfold Builtin.«zip.__next__»
 refine wpAny_bind (wpAny_of_eq (a:=(Value.ref z,[])) rfl ?_)
 dsimp only
 refine wpAny_bind (wpAny_field hz rfl (x:= .bool false) rfl ?_)
 refine wpAny_bind (wpAny_field hz rfl (x:= .ref TI) rfl ?_)
 refine wpAny_bind (wpAny_seqItems hI rfl ?_)
 dsimp only
 rw [if_neg (show ¬ (#[Value.ref i1,Value.ref i2].isEmpty=true) from Bool.false_ne_true)]
 refine wpAny_bind (Fb hz hT fun h' hz' hs=>?_)
 rw [if_neg (by decide)]
 rw [← Array.forIn_toList]
 simp only [List.forIn_cons,List.forIn_nil]
 have keep:∀ {b:Addr} {o:Obj},b≠z→s.heap.get? b=some o→h'.get? b=some o:=fun nb e=>(hs.2 _ nb).trans e
 have h1':h'.IsListIter i1 l1 i:=h1.at fun o e=>keep ap.i1z e
 have hl1':h'.IsList l1 xs:=let ⟨o,e,c⟩:=hl1;⟨o,keep ap.l1z e,c⟩
 refine wpAny_bind (wpAny_bind (wpAny_bind (wpAny_holding ?_)))
 show wpAny _ _ (Builtin.SmallTypes.nextOf (.ref i1) >>=fun x=>pure (some x)) _ _ _
 refine wpAny_bind (wpAny_nextOf_list_end (by first | exact hh | (rw [show A.in1.handled=none from hh])) h1' hl1' hx fun h3 e ex he=>?_)
 refine wpAny_bind (wpAny_isInstance (T:="StopIteration") (b:=true) (s:={s with heap:=h3}) (let ⟨o,a,b⟩:=he;⟨o,a,b⟩) isSubtype_stop ?_)
 exact wpAny_pure (h h3 fun b o nz n1 eb=>ex b o n1 (keep nz eb))
structure ZGot (h:Heap) (lo:Nat) (xs ys:Array Value) (as:List Addr):Prop where
 rise:as.Pairwise (· < ·)
 above:∀ a∈as,lo≤a∧a < h.objs.size
 pairs:∀ (j:Nat) (a:Addr),as[j]? =some a→∃ x y,xs[j]? =some x∧ys[j]? =some y∧h.IsTuple a #[x,y]
structure ZSt (h:Heap) (z TI TO i1 i2 l1 l2:Addr) (lo:Nat) (xs ys:Array Value) (i:Nat) (as:List Addr):Prop where
 zp:(i=0∧IsZip h z TI TO .none)∨∃ T fl,Busy h z TI TO T fl∧as[0]? =some T
 hI:IsPair h TI (.ref i1) (.ref i2)
 hO:∃ a b,IsPair h TO a b
 h1:h.IsListIter i1 l1 i
 h2:h.IsListIter i2 l2 i
 hl1:h.IsList l1 xs
 hl2:h.IsList l2 ys
 len:as.length=i
 got:ZGot h lo xs ys as
structure Und (z TI TO i1 i2 l1 l2 S:Addr) (lo:Nat):Prop where
 ap:ZipApart z TI TO i1 i2 l1 l2
 Sz:S≠z
 STI:S≠TI
 STO:S≠TO
 Si1:S≠i1
 Si2:S≠i2
 Sl1:S≠l1
 Sl2:S≠l2
 z:z < lo
 TO:TO < lo
 i1:i1 < lo
 i2:i2 < lo
 S:S < lo
theorem iz {h:Heap} {a:Addr} {o:Obj} (e:h.get? a=some o):a < h.objs.size:=Heap.lt_size e
theorem ZGot.keep {h h':Heap} {lo:Nat} {xs ys:Array Value} {as:List Addr} (g:ZGot h lo xs ys as) (k:∀ b o,lo≤b→h.get? b=some o→h'.get? b=some o):ZGot h' lo xs ys as:=by
 have k2:∀ a∈as,h'.IsTuple a #[.none,.none]→True:=fun _ _ _=>trivial
 refine ⟨g.rise,fun a ha=>?_,fun j a hj=>?_⟩
 ·obtain ⟨j,hj⟩:=List.mem_iff_getElem?.mp ha
  obtain ⟨x,y,_,_,o,e,_⟩:=g.pairs j a hj
  exact ⟨(g.above a ha).1,iz (k a o (g.above a ha).1 e)⟩
 ·obtain ⟨x,y,hx,hy,o,e,c⟩:=g.pairs j a hj
  exact ⟨x,y,hx,hy,o,k a o (g.above a (List.mem_of_getElem? hj)).1 e,c⟩
theorem ZGot.more {h:Heap} {lo:Nat} {xs ys:Array Value} {as:List Addr} {a:Addr} {x y:Value} (g:ZGot h lo xs ys as) (ha:∀ b∈as,b < a) (hlo:lo≤a) (hx:xs[as.length]? =some x) (hy:ys[as.length]? =some y) (ht:h.IsTuple a #[x,y]):ZGot h lo xs ys (as++[a]):=by
 refine ⟨List.pairwise_append.mpr ⟨g.rise,List.pairwise_singleton _ _,fun b hb c hc=>by rw [List.mem_singleton.mp hc];exact ha b hb⟩,fun b hb=>?_,fun j b hj=>?_⟩
 ·rcases List.mem_append.mp hb with z | z
  ·exact g.above b z
  ·rw [List.mem_singleton.mp z];obtain ⟨o,e,_⟩:=ht;exact ⟨hlo,iz e⟩
 ·by_cases hl:j < as.length
  ·rw [List.getElem?_append_left hl] at hj;exact g.pairs j b hj
  ·rw [List.getElem?_append_right (by omega)] at hj
   have e0:j=as.length:=by
    have:=(List.getElem?_eq_some_iff.mp hj).1
    simp at this;omega
   subst e0
   rw [Nat.sub_self] at hj
   have:a=b:=by simpa using hj
   subst this
   exact ⟨x,y,hx,hy,ht⟩
theorem loop {R:Result→Shared→Prop} {z TI TO i1 i2 l1 l2 S:Addr} {lo:Nat} {xs ys:Array Value} (hh:A.handled=none) (U:Und z TI TO i1 i2 l1 l2 S lo) (hn:xs.size≤sizeLine) (hxy:ys.size=xs.size) (res:Value) {h₁:Heap}
  (hR:∀ h' tk acc c as,(∀ b o,b≠S→b≠z→b≠TO→b≠i1→b≠i2→h₁.get? b=some o→h'.get? b=some o)→h'.get? S=some {cls:= .type "list",data:= .seq acc c}→acc.toList=as.map .ref→as.length=xs.size→ZGot h' lo xs ys as→R (.ok (.ret res)) {s with heap:=h',toks:=tk}):
  ∀ (k i:Nat) (h:Heap) (tk c:Nat) (acc:Array Value) (as:List Addr),xs.size - i=k→i≤xs.size→lo≤h.objs.size→ZSt h z TI TO i1 i2 l1 l2 lo xs ys i as→
    (∀ b o,b≠S→b≠z→b≠TO→b≠i1→b≠i2→h₁.get? b=some o→h.get? b=some o)→h.get? S=some {cls:= .type "list",data:= .seq acc c}→acc.toList=as.map .ref→
    codeAny (model prog w) A (Code.builtin "list.extend.loop" {pos:=[.ref S,.ref z,res]}) R {s with heap:=h,toks:=tk}:=by
 have ap:=U.ap
 intro k
 induction k with
 | zero=>
   intro i h tk c acc as hk hi hlo st kh hS hacc
   have hin:i=xs.size:=by omega
   subst hin
   refine codeAny_builtin F.entry_extend_loop ?_
   rw [Around.under_plainId F.plain_extend_loop]
   show wpAny _ A.in1 (pyNext (.ref z) >>=_) _ _ _
   refine wpAny_bind ?_
   have fin:∀ h' tk',(∀ b o,b≠z→b≠TO→b≠i1→b≠i2→h.get? b=some o→h'.get? b=some o)→R (.ok (.ret res)) {s with heap:=h',toks:=tk'}:=fun h' tk' kk=>
    hR h' tk' acc c as (fun b o n1 n2 n3 n4 n5 e=>kk b o n2 n3 n4 n5 (kh b o n1 n2 n3 n4 n5 e)) (kk S _ U.Sz U.STO U.Si1 U.Si2 hS) hacc st.len (st.got.keep fun b o hb e=>kk b o (Nat.ne_of_gt (Nat.lt_of_lt_of_le U.z hb)) (Nat.ne_of_gt (Nat.lt_of_lt_of_le U.TO hb)) (Nat.ne_of_gt (Nat.lt_of_lt_of_le U.i1 hb)) (Nat.ne_of_gt (Nat.lt_of_lt_of_le U.i2 hb)) e)
   rcases st.zp with ⟨h0,hz⟩ | ⟨T,fl,hz,hT⟩
   ·have W:=WalksT.zip2 (prog:=prog) (w:=w) (A:=A.in1) hh z TI TO i1 i2 l1 l2 ap xs ys
    have em:min xs.size ys.size=xs.size:=by omega
    rw [em] at W
    refine W.done {s with heap:=h,toks:=tk} _ _ ⟨hz,st.hI,st.hO,st.h1,st.h2,st.hl1,st.hl2⟩ fun h' tk' kk=>?_
    exact wpAny_pure (fin h' tk' fun b o n2 n3 n4 n5 e=>kk b o (by simp [n2,n3,n4,n5]) e)
   ·obtain ⟨x,y,_,_,oT,eT,_⟩:=st.got.pairs 0 T hT
    refine HH (s:={s with heap:=h,toks:=tk}) hh ap hz eT st.hI st.h1 st.hl1 (by simp) fun h' kk=>?_
    exact wpAny_pure (fin h' tk fun b o n2 n3 n4 n5 e=>kk b o n2 n4 e)
 | succ k ih=>
   intro i h tk c acc as hk hi hlo st kh hS hacc
   have hlt:i < xs.size:=by omega
   have hx:xs[i]? =some xs[i]:=Array.getElem?_eq_getElem hlt
   have hy:ys[i]? =some (ys[i]'(by omega)):=Array.getElem?_eq_getElem (by omega)
   generalize xs[i]=x at hx
   generalize ys[i]'_=y at hy
   refine codeAny_builtin F.entry_extend_loop ?_
   rw [Around.under_plainId F.plain_extend_loop]
   show wpAny _ A.in1 (pyNext (.ref z) >>=_) _ _ _
   refine wpAny_bind ?_
   have go:∀ (a:Addr) (h':Heap) (tk':Nat),h.objs.size≤a→h'.IsTuple a #[x,y]→(∀ b o,b≠z→b≠TO→b≠i1→b≠i2→h.get? b=some o→h'.get? b=some o)→lo≤h'.objs.size→
     (∃ T fl,Busy h' z TI TO T fl∧(as++[a])[0]? =some T)→IsPair h' TI (.ref i1) (.ref i2)→(∃ a b,IsPair h' TO a b)→h'.IsListIter i1 l1 (i + 1)→h'.IsListIter i2 l2 (i + 1)→h'.IsList l1 xs→h'.IsList l2 ys→
     wpAny (model prog w) A.in1 (Builtin.List.listUpdate (.ref S) (fun q=>q.push (.ref a)) >>=fun _=>again (Code.builtin "list.extend.loop" {pos:=[.ref S,.ref z,res]}))
      (fun fin s'=>match fin with | .done f=>R (.ok f) s' | .again c'=>c'.quiet=true∧codeAny (model prog w) A c' R s') (fun e s'=>R (.error e) s') {s with heap:=h',toks:=tk'}:=by
    intro a h' tk' ha ht kk hlo' hzp hI hO h1 h2 hl1 hl2
    have hS':=kk S _ U.Sz U.STO U.Si1 U.Si2 hS
    have aS:a≠S:=Nat.ne_of_gt (Nat.lt_of_lt_of_le (iz hS) ha)
    have hsz:acc.size=i:=by have:=congrArg List.length hacc;rw [List.length_map,st.len] at this;simpa using this
    have oth:∀ b o,b≠S→h'.get? b=some o→(h'.update S (Obj.mapSeq fun q=>q.push (.ref a))).get? b=some o:=fun b o hb e=>(Heap.get?_update_other _ _ (Ne.symm hb)).trans e
    have hS2:=Heap.get?_update_self (Obj.mapSeq (fun q=>q.push (Value.ref a))) hS' rfl
    refine wpAny_bind (wpAny_updateSeq (s:={s with heap:=h',toks:=tk'}) hS' rfl (wpAny_pure ⟨plainId_quiet F.plain_extend_loop _,?_⟩) (by rw [hsz];omega) (by rw [Array.size_push,hsz];omega))
    refine ih (i + 1) (h'.update S _) tk' _ (acc.push (.ref a)) (as++[a]) (by omega) hlt ?_ ⟨.inr ?_,?_,?_,?_,?_,?_,?_,?_,?_⟩ ?_ hS2 ?_
    ·have es:(h'.update S (Obj.mapSeq fun q=>q.push (.ref a))).objs.size=h'.objs.size:=(Heap.SameBut.update ..).1
     rw [es];exact hlo'
    ·obtain ⟨T,fl,e,q⟩:=hzp;exact ⟨T,fl,oth _ _ (Ne.symm U.Sz) e,q⟩
    ·exact oth _ _ (Ne.symm U.STI) hI
    ·obtain ⟨p,q,e⟩:=hO;exact ⟨p,q,oth _ _ (Ne.symm U.STO) e⟩
    ·exact h1.at fun o e=>oth _ o (Ne.symm U.Si1) e
    ·exact h2.at fun o e=>oth _ o (Ne.symm U.Si2) e
    ·exact let ⟨o,e,c⟩:=hl1;⟨o,oth _ o (Ne.symm U.Sl1) e,c⟩
    ·exact let ⟨o,e,c⟩:=hl2;⟨o,oth _ o (Ne.symm U.Sl2) e,c⟩
    ·rw [List.length_append,st.len];rfl
    ·have g:=st.got.keep (h':=h'.update S (Obj.mapSeq fun q=>q.push (.ref a))) fun b o hb e=>oth b o (Nat.ne_of_gt (Nat.lt_of_lt_of_le U.S hb)) (kk b o (Nat.ne_of_gt (Nat.lt_of_lt_of_le U.z hb)) (Nat.ne_of_gt (Nat.lt_of_lt_of_le U.TO hb)) (Nat.ne_of_gt (Nat.lt_of_lt_of_le U.i1 hb)) (Nat.ne_of_gt (Nat.lt_of_lt_of_le U.i2 hb)) e)
     refine g.more (fun b hb=>Nat.lt_of_lt_of_le (st.got.above b hb).2 ha) (Nat.le_trans hlo ha) (by rw [st.len];exact hx) (by rw [st.len];exact hy) (let ⟨o,e,c⟩:=ht;⟨o,oth _ o aS e,c⟩)
    ·exact fun b o n1 n2 n3 n4 n5 e=>oth b o n1 (kk b o n2 n3 n4 n5 (kh b o n1 n2 n3 n4 n5 e))
    ·rw [Array.toList_push,hacc,List.map_append];rfl
   rcases st.zp with ⟨h0,hz⟩ | ⟨T,fl,hz,hT⟩
   ·have W:=WalksT.zip2 (prog:=prog) (w:=w) (A:=A.in1) hh z TI TO i1 i2 l1 l2 ap xs ys
    have em:min xs.size ys.size=xs.size:=by omega
    rw [em] at W
    refine W.item i {s with heap:=h,toks:=tk} _ _ hlt ⟨hz,st.hI,st.hO,st.h1,st.h2,st.hl1,st.hl2⟩ fun T vals h' tk' hp hT ht mid kk=>?_
    obtain ⟨x',y',ex,ey,rfl⟩:=hp
    rw [hx] at ex;cases ex
    rw [hy] at ey;cases ey
    obtain ⟨m1,m2,m3,m4,m5,m6,m7,_⟩:=mid
    have as0:as=[]:=List.eq_nil_of_length_eq_zero (st.len.trans h0)
    refine go T h' tk' hT ht (fun b o n2 n3 n4 n5 e=>kk b o (by simp [n2,n3,n4,n5]) e) ?_ ⟨T,false,m1,by rw [as0];rfl⟩ m2 m3 m4 m5 m6 m7
    obtain ⟨o,e,_⟩:=ht
    exact Nat.le_of_lt (Nat.lt_of_le_of_lt (Nat.le_trans hlo hT) (iz e))
   ·obtain ⟨_,_,_,_,oT,eT,_⟩:=st.got.pairs 0 T hT
    refine Fc (s:={s with heap:=h,toks:=tk}) ap hz eT st.hI st.h1 st.h2 st.hl1 st.hl2 hx hy fun h' hz' b1 b2 kk ht=>?_
    refine go h.objs.size h' tk (Nat.le_refl _) ⟨_,ht,rfl,_,rfl⟩ (fun b o n2 n3 n4 n5 e=>kk b o n2 n4 n5 e) ?_ ⟨T,true,hz',?_⟩ (kk TI _ ap.TIz ap.TIi1 ap.TIi2 st.hI) (let ⟨p,q,e⟩:=st.hO;⟨p,q,kk TO _ ap.TOz ap.TOi1 ap.TOi2 e⟩) b1 b2 (let ⟨o,e,c⟩:=st.hl1;⟨o,kk l1 o ap.l1z ap.l1i1 ap.l1i2 e,c⟩) (let ⟨o,e,c⟩:=st.hl2;⟨o,kk l2 o ap.l2z ap.l2i1 ap.l2i2 e,c⟩)
    ·have ht':h'.get? h.objs.size=_:=ht
     exact Nat.le_of_lt (Nat.lt_of_le_of_lt hlo (iz ht'))
    ·have:0 < as.length:=(List.getElem?_eq_some_iff.mp hT).1
     rw [List.getElem?_append_left this];exact hT
theorem NZ:typeLookup (.type "zip") "__len__"=pure none:=by rw [typeLookup_type,builtinLookup_eq_fast];kernel_rfl
theorem MK:typeLookup (.type "zip") "__length_hint__"=pure none:=by rw [typeLookup_type,builtinLookup_eq_fast];kernel_rfl
structure New (h:Heap) (z TI TO i1 i2 l1 l2:Addr) (xs ys:Array Value):Prop where
 ap:ZipApart z TI TO i1 i2 l1 l2
 hz:IsZip h z TI TO .none
 hI:IsPair h TI (.ref i1) (.ref i2)
 hO:∃ a b,IsPair h TO a b
 h1:h.IsListIter i1 l1 0
 h2:h.IsListIter i2 l2 0
 hl1:h.IsList l1 xs
 hl2:h.IsList l2 ys
theorem New.keep {h h':Heap} {z TI TO i1 i2 l1 l2:Addr} {xs ys:Array Value} (n:New h z TI TO i1 i2 l1 l2 xs ys) (k:∀ b o,h.get? b=some o→(b=z∨b=TI∨b=TO∨b=i1∨b=i2∨b=l1∨b=l2)→h'.get? b=some o):New h' z TI TO i1 i2 l1 l2 xs ys where
 ap:=n.ap
 hz:=k _ _ n.hz (by simp)
 hI:=k _ _ n.hI (by simp)
 hO:=let ⟨a,b,e⟩:=n.hO;⟨a,b,k _ _ e (by simp)⟩
 h1:=n.h1.at fun o e=>k _ o e (by simp)
 h2:=n.h2.at fun o e=>k _ o e (by simp)
 hl1:=let ⟨o,e,c⟩:=n.hl1;⟨o,k _ o e (by simp),c⟩
 hl2:=let ⟨o,e,c⟩:=n.hl2;⟨o,k _ o e (by simp),c⟩
theorem M0 {R:Result→Shared→Prop} {z TI TO i1 i2 l1 l2 S:Addr} {lo:Nat} {xs ys:Array Value} (hh:A.handled=none) (U:Und z TI TO i1 i2 l1 l2 S lo) (N:New s.heap z TI TO i1 i2 l1 l2 xs ys) (hn:xs.size≤sizeLine) (hxy:ys.size=xs.size) (hlo:lo≤s.heap.objs.size) (res:Value) {c₀:Nat} (hS:s.heap.get? S=some {cls:= .type "list",data:= .seq #[] c₀})
  (hR:∀ h' tk acc c as,(∀ b o,b≠S→b≠z→b≠TO→b≠i1→b≠i2→s.heap.get? b=some o→h'.get? b=some o)→h'.get? S=some {cls:= .type "list",data:= .seq acc c}→acc.toList=as.map .ref→as.length=xs.size→ZGot h' lo xs ys as→R (.ok (.ret res)) {s with heap:=h',toks:=tk}):
  wpAny (model prog w) A.in1 (Builtin.List.listExtendWith (.ref S) (.ref z) res)
   (fun fin s'=>match fin with | .done f=>R (.ok f) s' | .again c'=>c'.quiet=true∧codeAny (model prog w) A c' R s') (fun e s'=>R (.error e) s') s:=by
 have ty:s.TypeIs (.ref z) "zip":=⟨_,N.hz,rfl⟩
 have h1:Builtin.List.listSameRef (.ref S) (.ref z)=false:=by simp [Builtin.List.listSameRef,U.Sz]
 unfold Builtin.List.listExtendWith
 refine wpAny_bind (wpAny_typeOf ty ?_)
 rw [if_neg (by rw [h1];decide)]
 refine wpAny_bind (wpAny_pyIter_zip N.hz ?_)
 refine wpAny_bind (wpAny_holding ?_)
 unfold Builtin.List.listLengthHint
 refine wpAny_bind (wpAny_specialOf ty NZ ?_)
 show wpAny _ A.in1 (specialOf (Value.ref z) (Str.ofString "__length_hint__") >>=_) _ _ _
 refine wpAny_bind (wpAny_specialOf ty MK ?_)
 refine wpAny_pure ?_
 dsimp only
 rw [if_pos (by decide)]
 refine wpAny_bind (wpAny_rule (wpAny_bind ?_))
 show wpAny _ _ (updateSeq S (fun x=>x.push .none) >>=fun _=>updateSeq S fun x=>x.pop) _ _ s
 have e1:=Heap.get?_update_self (Obj.mapSeq (fun x=>x.push Value.none)) hS rfl
 have oth1:∀ b o,b≠S→s.heap.get? b=some o→(s.heap.update S (Obj.mapSeq (fun x=>x.push Value.none))).get? b=some o:=fun b o hb e=>(Heap.get?_update_other _ _ (Ne.symm hb)).trans e
 have z1:(s.heap.update S (Obj.mapSeq (fun x=>x.push Value.none))).objs.size=s.heap.objs.size:=(Heap.SameBut.update ..).1
 refine wpAny_bind (wpAny_updateSeq hS rfl ?_ (by show 0≤sizeLine;exact Nat.zero_le _) (by show 1≤sizeLine + 1;omega))
 generalize hg1:s.heap.update S (Obj.mapSeq (fun x=>x.push Value.none))=g1 at e1 oth1 z1
 refine wpAny_updateSeq (s:={s with heap:=g1}) e1 rfl ?_ (by show 1≤sizeLine;rw [sizeLine_eq];decide) (by show 0≤sizeLine + 1;omega)
 have e2:=Heap.get?_update_self (Obj.mapSeq (fun x=>x.pop)) e1 rfl
 have oth2:∀ b o,b≠S→g1.get? b=some o→(g1.update S (Obj.mapSeq (fun x=>x.pop))).get? b=some o:=fun b o hb e=>(Heap.get?_update_other _ _ (Ne.symm hb)).trans e
 have z2:(g1.update S (Obj.mapSeq (fun x=>x.pop))).objs.size=g1.objs.size:=(Heap.SameBut.update ..).1
 generalize hg2:g1.update S (Obj.mapSeq (fun x=>x.pop))=g2 at e2 oth2 z2
 refine wpAny_pure ⟨plainId_quiet F.plain_extend_loop _,?_⟩
 have N2:New g2 z TI TO i1 i2 l1 l2 xs ys:=N.keep fun b o e hb=>by
  have nb:b≠S:=by
   rcases hb with rfl | rfl | rfl | rfl | rfl | rfl | rfl
   ·exact Ne.symm U.Sz
   ·exact Ne.symm U.STI
   ·exact Ne.symm U.STO
   ·exact Ne.symm U.Si1
   ·exact Ne.symm U.Si2
   ·exact Ne.symm U.Sl1
   ·exact Ne.symm U.Sl2
  exact oth2 b o nb (oth1 b o nb e)
 exact loop (s:=s) (h₁:=s.heap) hh U hn hxy res hR xs.size 0 g2 s.toks _ #[] [] (Nat.sub_zero _) (Nat.zero_le _) (by rw [z2,z1];exact hlo) ⟨.inl ⟨rfl,N2.hz⟩,N2.hI,N2.hO,N2.h1,N2.h2,N2.hl1,N2.hl2,rfl,⟨List.Pairwise.nil,fun _ h=>absurd h (by simp),fun j a hj=>by simp at hj⟩⟩ (fun b o n1 _ _ _ _ e=>oth2 b o n1 (oth1 b o n1 e)) e2 rfl
theorem init {R:Result→Shared→Prop} {z TI TO i1 i2 l1 l2 S:Addr} {lo:Nat} {xs ys:Array Value} (hh:A.handled=none) (U:Und z TI TO i1 i2 l1 l2 S lo) (N:New s.heap z TI TO i1 i2 l1 l2 xs ys) (hn:xs.size≤sizeLine) (hxy:ys.size=xs.size) (hlo:lo≤s.heap.objs.size) (hS:s.heap.get? S=some {cls:= .type "list",data:= .seq #[]})
  (hR:∀ h' tk acc c as,(∀ b o,b≠S→b≠z→b≠TO→b≠i1→b≠i2→s.heap.get? b=some o→h'.get? b=some o)→h'.get? S=some {cls:= .type "list",data:= .seq acc c}→acc.toList=as.map .ref→as.length=xs.size→ZGot h' lo xs ys as→R (.ok (.ret .none)) {s with heap:=h',toks:=tk}):
  wpAny (model prog w) A.in1 (Builtin.«list.__init__» ⟨[.ref S,.ref z],[]⟩)
   (fun fin s'=>match fin with | .done f=>R (.ok f) s' | .again c'=>c'.quiet=true∧codeAny (model prog w) A c' R s') (fun e s'=>R (.error e) s') s:=by
 show wpAny _ _ (do let old ← Builtin.List.listItems (.ref S);Builtin.List.listUpdate (.ref S) (fun _=>#[]);letGo old.toList.reverse;Builtin.List.listExtendWith (.ref S) (.ref z) .none) _ _ s
 refine wpAny_bind ?_
 unfold Builtin.List.listItems
 refine wpAny_bind (wpAny_seqItems hS rfl (wpAny_pure ?_))
 show wpAny _ _ (updateSeq S (fun _=>#[]) >>=fun _=>letGo (#[]:Array Value).toList.reverse >>=fun _=>Builtin.List.listExtendWith (.ref S) (.ref z) .none) _ _ s
 refine wpAny_bind (wpAny_updateSeq hS rfl ?_)
 have hS2:=Heap.get?_update_self (Obj.mapSeq (fun _=>(#[]:Array Value))) hS rfl
 have oth:∀ b o,b≠S→s.heap.get? b=some o→(s.heap.update S (Obj.mapSeq (fun _=>(#[]:Array Value)))).get? b=some o:=fun b o hb e=>(Heap.get?_update_other _ _ (Ne.symm hb)).trans e
 have es:(s.heap.update S (Obj.mapSeq (fun _=>(#[]:Array Value)))).objs.size=s.heap.objs.size:=(Heap.SameBut.update ..).1
 refine wpAny_bind (wpAny_letGo ?_)
 refine M0 (s:={s with heap:=_}) hh U (N.keep fun b o e hb=>oth b o ?_ e) hn hxy (by show lo≤(s.heap.update S _).objs.size;rw [es];exact hlo) .none hS2 fun h' tk acc c as k a1 a2 a3 a4=>hR h' tk acc c as (fun b o n1 n2 n3 n4 n5 e=>k b o n1 n2 n3 n4 n5 (oth b o n1 e)) a1 a2 a3 a4
 rcases hb with rfl | rfl | rfl | rfl | rfl | rfl | rfl
 ·exact Ne.symm U.Sz
 ·exact Ne.symm U.STI
 ·exact Ne.symm U.STO
 ·exact Ne.symm U.Si1
 ·exact Ne.symm U.Si2
 ·exact Ne.symm U.Sl1
 ·exact Ne.symm U.Sl2
theorem call_list {Q:Value→Shared→Prop} {z TI TO i1 i2 l1 l2:Addr} {xs ys:Array Value} (hh:A.handled=none) (N:New s.heap z TI TO i1 i2 l1 l2 xs ys) (hn:xs.size≤sizeLine) (hxy:ys.size=xs.size)
  (hQ:∀ h' tk acc c as,(∀ b o,b≠z→b≠TO→b≠i1→b≠i2→s.heap.get? b=some o→h'.get? b=some o)→h'.get? s.heap.objs.size=some {cls:= .type "list",data:= .seq acc c}→acc.toList=as.map .ref→as.length=xs.size→ZGot h' (s.heap.objs.size + 1) xs ys as→Q (.ref s.heap.objs.size) {s with heap:=h',toks:=tk}):
  wpAny (model prog w) A (call (.type "list") [.ref z]) Q E s:=by
 have lz:=iz N.hz
 have lTI:=iz N.hI
 obtain ⟨pa,pb,eO⟩:=N.hO
 have lTO:=iz eO
 have li1:i1 < s.heap.objs.size:=let ⟨o,e,_⟩:=N.h1;iz e
 have li2:i2 < s.heap.objs.size:=let ⟨o,e,_⟩:=N.h2;iz e
 have ll1:l1 < s.heap.objs.size:=let ⟨o,e,_⟩:=N.hl1;iz e
 have ll2:l2 < s.heap.objs.size:=let ⟨o,e,_⟩:=N.hl2;iz e
 refine callType_codes (Q₁:=fun obj s₁=>obj= .ref s.heap.objs.size∧s₁={s with heap:=s.heap.push {cls:= .type "list",data:= .seq #[]}}) F.called_list (F.typeCall_list_1 _) F.entry_list_init (code_list_new _ ⟨rfl,rfl⟩) fun obj s₁ h₁=>?_
 obtain ⟨rfl,rfl⟩:=h₁
 have hS:(s.heap.push {cls:= .type "list",data:= .seq #[]}).get? s.heap.objs.size=some {cls:= .type "list",data:= .seq #[]}:=Heap.get?_push_size _ rfl
 have up:∀ {b:Addr},b < s.heap.objs.size→b < s.heap.objs.size + 1:=fun h=>Nat.lt_succ_of_lt h
 have ne:∀ {b:Addr},b < s.heap.objs.size→s.heap.objs.size≠b:=fun h=>Nat.ne_of_gt h
 have U:Und z TI TO i1 i2 l1 l2 s.heap.objs.size (s.heap.objs.size + 1):=⟨N.ap,ne lz,ne lTI,ne lTO,ne li1,ne li2,ne ll1,ne ll2,up lz,up lTO,up li1,up li2,Nat.lt_succ_self _⟩
 have sz:(s.heap.push {cls:= .type "list",data:= .seq #[]}).objs.size=s.heap.objs.size + 1:=by simp [Heap.push]
 refine ⟨⟨_,hS,rfl⟩,F.args_list_init_2 _ _,init (A:=A.in1) (s:={s with heap:=_}) hh U (N.keep fun b o e _=>Heap.get?_push_of_some _ e) hn hxy (Nat.le_of_eq sz.symm) hS fun h' tk acc c as k a1 a2 a3 a4=>?_⟩
 exact ⟨rfl,hQ h' tk acc c as (fun b o n2 n3 n4 n5 e=>k b o (Nat.ne_of_lt (iz e)) n2 n3 n4 n5 (Heap.get?_push_of_some _ e)) a1 a2 a3 a4⟩
end
end ZP
open PySem PySem.Spec PyProof.Rows
theorem wF:∀ as:List Addr,Vals (as.map V.ref) (as.map Value.ref)
 | []=> .nil
 | _::as=> .cons rfl (wF as)
theorem IK {X:Cx} {pins:List (Addr×Obj)} {σ:St} {s0 s:Shared} {H0:Hp} (I0:Inv X pins σ H0 s0):∀ (as:List Addr) (xs ys:List V) (H:Hp),Inv X pins σ H s→as.Pairwise (· < ·)→(∀ a∈as,s0.heap.objs.size≤a∧H a=none)→as.length=xs.length→as.length=ys.length→
  (∀ (j:Nat) (a:Addr) (x y:V),as[j]? =some a→xs[j]? =some x→ys[j]? =some y→∃ u v,RelV x u∧RelV y v∧s.heap.IsTuple a #[u,v])→
  ∃ H2,Inv X pins σ H2 s∧Same H H2∧(∀ b,b∉as→H2 b=H b)∧∀ (j:Nat) (a:Addr) (x y:V),as[j]? =some a→xs[j]? =some x→ys[j]? =some y→H2 a=some (.tup [x,y])
 | [],_,_,H,I,_,_,_,_,_=>⟨H,I,Same.refl _,fun _ _=>rfl,fun j a x y h=>by simp at h⟩
 | a::as,[],_,H,I,_,_,h,_,_=>by simp at h
 | a::as,_,[],H,I,_,_,_,h,_=>by simp at h
 | a::as,x::xs,y::ys,H,I,pw,fr,l1,l2,ht=>by
   obtain ⟨u,v,ru,rv,o,e,c⟩:=ht 0 a x y rfl rfl rfl
   have fa:=fr a (List.mem_cons_self ..)
   have pw':=List.pairwise_cons.mp pw
   have na:a∉as:=fun h=>Nat.lt_irrefl _ (pw'.1 a h)
   have I1:Inv X pins σ (upd H a (.tup [x,y])) s:=I.track (I0.fpN (Heap.get?_none_of_le fa.1) fa.2) ⟨AV,[u,v],.cons ru (.cons rv .nil),o,e,c⟩
   obtain ⟨H2,I2,s2,o2,g2⟩:=IK I0 as xs ys (upd H a (.tup [x,y])) I1 pw'.2 (fun b hb=>⟨(fr b (List.mem_cons_of_mem _ hb)).1,by rw [aJ (fun z:b=a=>na (by rw [← z];exact hb))];exact (fr b (List.mem_cons_of_mem _ hb)).2⟩) (by simpa using l1) (by simpa using l2) fun j b x' y' h1 h2 h3=>ht (j + 1) b x' y' (by simpa using h1) (by simpa using h2) (by simpa using h3)
   refine ⟨H2,I2,fun b ob h=>s2 b ob (by rw [aJ (al h fa.2)];exact h),fun b hb=>?_,fun j b x' y' h1 h2 h3=>?_⟩
   ·rw [o2 b fun z=>hb (List.mem_cons_of_mem _ z),aJ (fun z:b=a=>hb (by rw [z];exact List.mem_cons_self ..))]
   ·cases j with
    | zero=>
      have e1:a=b:=by simpa using h1
      have e2:x=x':=by simpa using h2
      have e3:y=y':=by simpa using h3
      subst e1 e2 e3
      exact s2 a _ bc
    | succ j=>exact g2 j b x' y' (by simpa using h1) (by simpa using h2) (by simpa using h3)
noncomputable def Li (K:PySem.W.Frag) (Q:VK) (x y:V) (H:Hp):Prop:=∃ a b xs ys,x= .ref a∧y= .ref b∧SqL K H a xs∧SqL K H b ys∧xs.length=ys.length∧
 ∀ (D:Addr) (ps:List Addr) (H3:Hp),H D=none→Same H H3→H3 D=some (.lst (ps.map V.ref))→ps.length=xs.length→(∀ (j:Nat) (p:Addr) (x y:V),ps[j]? =some p→xs[j]? =some x→ys[j]? =some y→H3 p=some (.tup [x,y]))→Q (.ref D) H3
noncomputable def tZip (K:PySem.W.Frag) (t1 t2:TE):TE:=fun σ H Q=>t1 σ H fun x H1=>t2 σ H1 fun y H2=>Li K Q x y H2
theorem NA {K:PySem.W.Frag} {t1 t2:TE} {σ:St} {H:Hp} {Q:VK} (h:t1 σ H fun x H1=>t2 σ H1 fun y H2=>Li K Q x y H2):tZip K t1 t2 σ H Q:=h
section
variable {X:Cx}
theorem M3 {K:PySem.W.Frag} {e1 e2:Expr} {t1 t2:TE} {p1 p2:Pos} {pins:List (Addr×Obj)} {s:Shared} {σ:St} {H:Hp} {Q:VK} (hK:X.K=K) (g2:Gl X "zip") (n2:X.mg "zip"=none) (he1:PE X e1 t1) (he2:PE X e2 t2) (h2:starEach [e1,e2] X.env=(false,eval e1 X.env)::starEach [e2] X.env) (h3:starEach [e2] X.env=[(false,eval e2 X.env)])
  (I:Inv X pins σ H s) (h:tZip K t1 t2 σ H Q) (Q':Value→Shared→Prop)
  (hQ:∀ (s1:Shared) (h':Heap) (H1:Hp) (a b:Addr) (xs ys:List V) (its jts:List Value),Inv X pins σ H1 s1→Vals xs its→Vals ys jts→its.length≤sizeLine→xs.length=ys.length→h'.objs.size=s1.heap.objs.size + 5→(∀ c o,s1.heap.get? c=some o→h'.get? c=some o)→
   ZP.New h' (s1.heap.objs.size + 4) (s1.heap.objs.size + 2) (s1.heap.objs.size + 3) s1.heap.objs.size (s1.heap.objs.size + 1) a b its.toArray jts.toArray→
   (∀ (D:Addr) (ps:List Addr) (H3:Hp),H1 D=none→Same H1 H3→H3 D=some (.lst (ps.map V.ref))→ps.length=xs.length→(∀ (j:Nat) (p:Addr) (x y:V),ps[j]? =some p→xs[j]? =some x→ys[j]? =some y→H3 p=some (.tup [x,y]))→Q (.ref D) H3)→
   Q' (.ref (s1.heap.objs.size + 4)) {s1 with heap:=h'}):
  wpAny (model X.prog X.w) X.A (eval (.Call (.Name "zip" p1) [e1,e2] [] p2) X.env) Q' X.xe s:=by
 subst hK
 refine Call_ (oy I g2 n2 PyProof.Rows.boot_zip (PyProof.Rows.callWith_type1 (thn (aa he1 (aa he2 af h3) h2 p2 pins s σ H (fun vs H1=>match vs with | [x,y]=>Li X.K Q x y H1 | _=>False) I h) fun us s1 ⟨vs,H1,I1,r1,q1⟩=>?_) h2 (by rw [h3];rfl)))
 match vs,r1,q1 with
 | [x,y],r1,q1=>
 obtain ⟨a,b,xs,ys,ex,ey,sa,sb,hl,q⟩:=q1
 subst ex ey
 cases r1 with
 | cons rx r2=>
 cases r2 with
 | cons ry r3=>
 cases r3
 cases rx
 cases ry
 obtain ⟨its,ra,pa,hza⟩:=I1.list sa
 obtain ⟨jts,rb,pb,hzb⟩:=I1.list sb
 have la:a < s1.heap.objs.size:=let ⟨o,e,_⟩:=pa.isList;Heap.lt_size e
 have lb:b < s1.heap.objs.size:=let ⟨o,e,_⟩:=pb.isList;Heap.lt_size e
 refine call_zip_2 pa.isList pb.isList fun h' z1 z2 z3 z4 z5 hsz k=>?_
 exact hQ s1 h' H1 a b xs ys its jts I1 ra rb (by rw [← ra.length];exact hza) hl hsz k ⟨zipApart_new la lb,z1,z2,⟨_,_,z3⟩,z4,z5,let ⟨o,e,c⟩:=pa.isList;⟨o,k _ o e,c⟩,let ⟨o,e,c⟩:=pb.isList;⟨o,k _ o e,c⟩⟩ q
theorem tU {K:PySem.W.Frag} {e1 e2:Expr} {t1 t2:TE} {p1 p2 q1 q2:Pos} (hK:X.K=K) (hc:X.calm=true) (g1:Gl X "list") (g2:Gl X "zip") (n1:X.mg "list"=none) (n2:X.mg "zip"=none) (he1:PE X e1 t1) (he2:PE X e2 t2)
  (h1:starEach [Expr.Call (.Name "zip" p1) [e1,e2] [] p2] X.env=[(false,eval (.Call (.Name "zip" p1) [e1,e2] [] p2) X.env)]:=by rfl) (h2:starEach [e1,e2] X.env=(false,eval e1 X.env)::starEach [e2] X.env:=by rfl) (h3:starEach [e2] X.env=[(false,eval e2 X.env)]:=by rfl):
  PE X (.Call (.Name "list" q1) [.Call (.Name "zip" p1) [e1,e2] [] p2] [] q2) (tZip K t1 t2):=by
 intro pins s σ H Q I h
 refine Call_ (oy I g1 n1 PyProof.Rows.boot_list (PyProof.Rows.callWith_type1 (Q:=EP X pins σ Q) ?_ h1 rfl))
 rw [h1]
 show wpAny _ _ (spliced ((false,eval (.Call (.Name "zip" p1) [e1,e2] [] p2) X.env)::backTo q2 [])) _ _ s
 refine Calls.spliced_cons (M3 hK g2 n2 he1 he2 h2 h3 I h _ fun s1 h' H1 a b xs ys its jts I1 ra rb hza hl hsz k N q=>Calls.spliced_nil ?_)
 have hlj:jts.toArray.size=its.toArray.size:=by have:=ra.length;have:=rb.length;simp;omega
 refine ZP.call_list (s:={s1 with heap:=h'}) (I1.ok.hd hc) N (by simpa using hza) hlj fun h2 tk acc c as kk hD hacc hlen G=>?_
 have kk2:∀ b o,s1.heap.get? b=some o→h2.get? b=some o:=fun b o e=>by
  have lt:=Heap.lt_size e
  exact kk b o (Nat.ne_of_lt (Nat.lt_of_lt_of_le lt (Nat.le_add_right _ _))) (Nat.ne_of_lt (Nat.lt_of_lt_of_le lt (Nat.le_add_right _ _))) (Nat.ne_of_lt lt) (Nat.ne_of_lt (Nat.lt_of_lt_of_le lt (Nat.le_add_right _ _))) (k b o e)
 have I2:Inv X pins σ H1 {s1 with heap:=h2,toks:=tk}:=I1.kept (t':=tk) kk2
 have lx:as.length=xs.length:=by rw [hlen,ra.length];simp
 have fra:∀ p∈as,s1.heap.objs.size≤p∧H1 p=none:=fun p hp=>by
  have h0:s1.heap.objs.size≤p:=Nat.le_trans (by show s1.heap.objs.size≤h'.objs.size + 1;rw [hsz];exact Nat.le_trans (Nat.le_add_right _ _) (Nat.le_succ _)) (G.above p hp).1
  exact ⟨h0,I1.hok.fresh h0⟩
 obtain ⟨H3,I3,s3,o3,g3⟩:=IK I1 as xs ys H1 I2 G.rise fra lx (lx.trans hl) fun j p x y hp hx hy=>by
  obtain ⟨u,v,hu,hv,ht⟩:=G.pairs j p hp
  rw [List.getElem?_toArray] at hu hv
  obtain ⟨u',eu,ru⟩:=ra.get hx
  obtain ⟨v',ev,rv⟩:=rb.get hy
  rw [eu] at hu;cases hu
  rw [ev] at hv;cases hv
  exact ⟨u,v,ru,rv,ht⟩
 have le5:s1.heap.objs.size≤h'.objs.size:=by rw [hsz];exact Nat.le_add_right _ _
 have fD:H1 h'.objs.size=none:=I1.hok.fresh le5
 have nD:h'.objs.size∉as:=fun z=>Nat.not_succ_le_self _ (G.above _ z).1
 have fD3:H3 h'.objs.size=none:=by rw [o3 _ nD];exact fD
 have hDn:s1.heap.get? h'.objs.size=none:=Heap.get?_none_of_le le5
 have I4:Inv X pins σ (upd H3 h'.objs.size (.lst (as.map V.ref))) {s1 with heap:=h2,toks:=tk}:=I3.track (I1.fpN hDn fD3) ⟨by rw [List.length_map,lx,ra.length];exact hza,as.map .ref,c,wF as,by rw [← hacc];exact hD⟩
 refine ⟨.ref h'.objs.size,_,I4,rfl,q h'.objs.size as _ fD (fun b ob e=>?_) bc lx fun j p x y hp hx hy=>?_⟩
 ·rw [aJ (al (s3 b ob e) fD3)];exact s3 b ob e
 ·have:=g3 j p x y hp hx hy
  rw [aJ (al this fD3)];exact this
end
structure FunD (K:PySem.W.Frag) (x qual:Str) (st:Stmt) (f:Addr) (fd:FuncData) (dv:Value):Prop where
 ex:∃ (oc:Value) (od:Option Addr) (T:Addr) (kV doc pm:Value) (an:Option Addr) (cdv ct:Value) (osl:Array (Option Value)) (tc:Value) (td:Option Addr) (n:Nat) (tsl:Array (Option Value)),
  fd=PySem.W.fnOf x qual (ax st) (aw st) (ad st) (.ref T) kV doc pm an cdv ct∧K.lookup f=some ⟨oc,od,.func fd,osl⟩∧PySem.W.codeIn K cdv qual=true∧K.lookup T=some ⟨tc,td,.seq #[dv] n,tsl⟩
 kp:PySem.W.keepIn K (.ref f)=true
section
variable {σ:St} {H:Hp} {Q:VK} {te:TE}
noncomputable def GC (C:Addr) (m:Str) (sp:Sp) (dvs:List V) (W:XW) (tr:TA) (σ:St) (Q:VK) (x:V) (H:Hp):Prop:=∃ a dx fs,x= .ref a∧H a=some (.ins C dx fs)∧fs.lookup m=none∧tr σ H fun vs H2=>sp (x::(vs++dvs)) H2 Q (W σ)
theorem m8 {C:Addr} {m:Str} {sp:Sp} {dvs:List V} {W:XW} {tr:TA} (h:te σ H (GC C m sp dvs W tr σ Q)):IM C m sp dvs W te tr σ H Q:=h
theorem im {C dx p:Addr} {m:Str} {fs:List (Str×V)} {sp:Sp} {dvs:List V} {W:XW} {tr:TA} (e:H p=some (.ins C dx fs)) (l:fs.lookup m=none) (h:tr σ H fun vs H2=>sp (.ref p::(vs++dvs)) H2 Q (W σ)):GC C m sp dvs W tr σ Q (.ref p) H:=⟨p,dx,fs,rfl,e,l,h⟩
end
noncomputable abbrev xBM:List Value:=[.type "ValueError",.type "Exception",.type "BaseException",.type "object"]
structure XOwn (K:PySem.W.Frag) (C W f:Addr):Prop where
 lk:∃ nm q N bs sn sub ab col dd k0 k1 k2 k3 k5,K.lookup C=some (excClassObj nm q C N bs (.ref W::xBM) true sn sub ab col dd k0 k1 k2 k3 k5 "ValueError.__new__")
 up:PySem.W.excIn K W xBM "ValueError.__new__"=true
 init:PySem.W.findIn K (.ref C) "__init__"=some (some (.ref f))
 fn:PySem.W.isFn K (.ref f)=true
 kp:PySem.W.keepIn K (.ref C)=true
 sa:PySem.W.findIn K (.ref C) "__setattr__"=some (some (.builtin "object.__setattr__"))
 mo:PySem.W.mroIn K C (.type "object")=some true
 mv:PySem.W.mroIn K C (.type "ValueError")=some true
section
variable {X:Cx} {pins:List (Addr×Obj)} {σ:St} {H:Hp} {s:Shared} {p C W f:Addr} {fs:List (Str×V)}
structure Of (K:PySem.W.Frag) (W:Addr):Prop where
 ga:PySem.W.specialIn K (.ref W) "__getattribute__"=some (some (.builtin "type.__getattribute__"))
 rd:PySem.W.readsIn K W (.type "type")=true
 fd:PySem.W.findCls K (.ref W) (.type "type") "__init__"=some (.val (.builtin "ValueError.__init__"))
end
end L2
namespace PySem
end PySem
namespace L2
open PySem PySem.Spec PyProof.Rows
end L2
namespace PySem
end PySem
namespace L2
open PySem PySem.Spec PyProof.Rows
noncomputable def del (H:Hp) (p:Addr):Hp:=fun b=>if b=p then none else H b
inductive PH (X:Cx) (Wo:XW):List ExceptHandler→(Ends→XW)→Prop where
 | nil:PH X Wo [] (fun _=>Wo)
 | cons {G:Addr} {g n:Str} {i:Nat} {gp hp:Pos} {b₀:Stmt} {suite:List Stmt} {ts:TS} {hs:List ExceptHandler} {WR:Ends→XW} (cg:Ll X.K G) (hg:Gl X g) (hm:X.mg g=some (.ref G)) (hi:X.N[i]? =some n) (hk:X.env.scope.names.lookup n=some .local)
   (hs':∀ pins e,PSs (X.mark pins e) (b₀::suite) ts) (hdb:(g == ("__debug__":Str))=false) (r:PH X Wo hs WR):PH X Wo (.ExceptHandler (some (.Name g gp)) (some n) (b₀::suite) hp::hs) (fun D=>WTry X.K G i (WR D) ts D)
theorem LV {l:Addr} {y:V} {ys:List V} {H:Hp} {Q:VK} (e:H l=some (.lst (ys++[y]))) (h:∀ H2,Upd H H2 l (.lst ys)→Q y H2):rPop (.ref l) [] H Q:=⟨l,ys++[y],y,rfl,rfl,e,by simp,by rw [List.dropLast_concat];exact h _ Upd.of⟩
structure Ln (osc:Scope) (ON N:List Str) (n:Nat) (fx:List Nat) (x0:Str) (sc:Scope):Prop where
 kind:sc.kind= .function
 one:∃ pre post,sc.names=pre++(x0,.cell)::post∧(∀ y∈pre,y.2≠.cell)∧∀ y∈post,y.2≠.cell
 its:sc.names.lookup x0=some .cell
 own:∀ y∈sc.names,y.2= .local→sc.names.lookup y.1=some .local
 fre:∀ y∈sc.names,y.2= .free→osc.names.lookup y.1=some .cell∨osc.names.lookup y.1=some .free
 len:N.length=n + fx.length
 frn:∀ k,k < fx.length→∃ x j,N[n + k]? =some x∧fx[k]? =some j∧ON[j]? =some x∧sc.names.lookup x=some .free
noncomputable def Mp:List V→Hp→VK→Prop:=fun xs H Q=>∃ i j,xs=[.int i,.int j]∧CDiv i j∧∀ p,H p=none→Q (.ref p) (upd H p (.tup [.int (i / j),.int (i % j)]))
theorem Dg {X:Cx}:jU X (.builtin "divmod") Mp:=Ax
theorem Mc {i j:Int} {H:Hp} {Q:VK} (h1:0 < j) (h2:j < 1073741824) (h:∀ p H2,H p=none→Same H H2→H2 p=some (.tup [.int (i / j),.int (i % j)])→Q (.ref p) H2):Mp [.int i,.int j] H Q:=⟨i,j,rfl,⟨h1,h2⟩,fun p hp=>h p _ hp (fP hp) bc⟩
theorem Hc {l b:Addr} {xs zs:List V} {H:Hp} {Q:VK} (e:H l=some (.lst xs)) (e2:H b=some (.lst zs)) (hl:xs.length + zs.length≤sizeLine) (n:l≠b) (h:∀ H2,Upd H H2 l (.lst (xs++zs))→Q .non H2):EL (.ref l) [.ref b] H Q:=by
 first
 | exact ⟨l,b,xs,zs,rfl,rfl,e,e2,hl,h _ Upd.of⟩
 | exact ⟨l,b,xs,zs,rfl,rfl,e,e2,hl,n,h _ Upd.of⟩
end L2
set_option autoImplicit false
namespace M
theorem KS (a b:Nat):(a||| b) / 2=a / 2||| b / 2:=by
 apply Nat.eq_of_testBit_eq;intro i
 simp [Nat.testBit_div_two,Nat.testBit_or]
theorem Id (a b:Nat):(a&&&b) / 2=a / 2&&&b / 2:=by
 apply Nat.eq_of_testBit_eq;intro i
 simp [Nat.testBit_div_two,Nat.testBit_and]
theorem Bj (a b:Nat):(a^^^b) / 2=a / 2^^^b / 2:=by
 apply Nat.eq_of_testBit_eq;intro i
 simp [Nat.testBit_div_two,Nat.testBit_xor]
theorem or_sum (a:Nat):∀ b:Nat,a||| b=(a^^^b) + (a&&&b):=by
 induction a using Nat.strongRecOn with
 | ind a ih=>
   intro b
   by_cases ha:a=0
   ·subst ha;simp
   ·have h:=ih (a / 2) (by omega) (b / 2)
    have e1:=Nat.div_add_mod (a||| b) 2
    have e2:=Nat.div_add_mod (a^^^b) 2
    have e3:=Nat.div_add_mod (a&&&b) 2
    rw [KS] at e1
    rw [Bj] at e2
    rw [Id] at e3
    have m1:(a||| b) % 2=(a % 2||| b % 2):=by have:=@Nat.or_mod_two_pow a b 1;simpa using this
    have m2:(a^^^b) % 2=(a % 2^^^b % 2):=by have:=@Nat.xor_mod_two_pow a b 1;simpa using this
    have m3:(a&&&b) % 2=(a % 2&&&b % 2):=by have:=@Nat.and_mod_two_pow a b 1;simpa using this
    have c:(a % 2||| b % 2)=(a % 2^^^b % 2) + (a % 2&&&b % 2):=by
     rcases Nat.mod_two_eq_zero_or_one a with h1 | h1<;>rcases Nat.mod_two_eq_zero_or_one b with h2 | h2<;>rw [h1,h2]<;>decide
    omega
noncomputable def pb:Nat→Nat→Bool
 | 0,_=>false
 | w + 1,m=>(m.testBit w)^^(pb w m)
theorem EX (w a b:Nat):pb w (a^^^b)=(pb w a^^pb w b):=by
 induction w with
 | zero=>rfl
 | succ w ih=>
   simp only [pb,Nat.testBit_xor,ih]
   cases a.testBit w<;>cases b.testBit w<;>cases pb w a<;>cases pb w b<;>rfl
theorem pJ (h j m:Nat):pb (h + j) m=(pb h m^^pb j (m>>>h)):=by
 induction j with
 | zero=>simp [pb]
 | succ j ih=>
   rw [Nat.add_succ]
   simp only [pb,ih,Nat.testBit_shiftRight]
   cases m.testBit (h + j)<;>cases pb h m<;>cases pb j (m>>>h)<;>rfl
theorem Jc (h m:Nat):pb h (m % 2 ^ h)=pb h m:=by
 suffices ∀ j,j≤h→pb j (m % 2 ^ h)=pb j m from this h (Nat.le_refl h)
 intro j
 induction j with
 | zero=>intro _;rfl
 | succ j ih=>
   intro hj
   simp only [pb]
   rw [ih (by omega),Nat.testBit_mod_two_pow]
   simp [show j < h by omega]
theorem Ky (w j m:Nat) (hm:m < 2 ^ w):pb (w + j) m=pb w m:=by
 rw [pJ,Nat.shiftRight_eq_div_pow,Nat.div_eq_of_lt hm]
 have:∀ j,pb j 0=false:=by intro j;induction j with
  | zero=>rfl
  | succ j ih=>simp [pb,ih]
 rw [this];simp
theorem pb_up {w w' m:Nat} (hm:m < 2 ^ w) (h:w≤w'):pb w' m=pb w m:=by
 obtain ⟨j,rfl⟩:=Nat.exists_eq_add_of_le h
 exact Ky w j m hm
theorem pb_fold (w h m:Nat) (hw:h≤w) (hm:m < 2 ^ w) (h2:w≤2 * h):pb h ((m>>>h)^^^(m&&&(2 ^ h - 1)))=pb w m:=by
 rw [Nat.and_two_pow_sub_one_eq_mod,EX,Jc]
 obtain ⟨j,rfl⟩:=Nat.exists_eq_add_of_le hw
 rw [pJ]
 have hlt:m>>>h < 2 ^ j:=by
  rw [Nat.shiftRight_eq_div_pow]
  exact Nat.div_lt_of_lt_mul (by rw [← Nat.pow_add];exact hm)
 rw [pb_up hlt (show j≤h by omega)]
 cases pb j (m>>>h)<;>cases pb h m<;>rfl
theorem fold_lt (w h m:Nat) (hm:m < 2 ^ w) (h2:w≤2 * h):(m>>>h)^^^(m&&&(2 ^ h - 1)) < 2 ^ h:=by
 apply Nat.xor_lt_two_pow
 ·rw [Nat.shiftRight_eq_div_pow]
  refine Nat.div_lt_of_lt_mul ?_
  rw [← Nat.pow_add]
  exact Nat.lt_of_lt_of_le hm (Nat.pow_le_pow_right (by decide) (by omega))
 ·rw [Nat.and_two_pow_sub_one_eq_mod]
  exact Nat.mod_lt _ (Nat.two_pow_pos h)
noncomputable def pl (w m:Nat):List Nat:=(List.range w).filter m.testBit
theorem pl_up {w w' m:Nat} (hm:m < 2 ^ w) (h:w≤w'):pl w' m=pl w m:=by
 obtain ⟨j,rfl⟩:=Nat.exists_eq_add_of_le h
 unfold pl
 rw [List.range_add,List.filter_append]
 have:List.filter m.testBit (List.map (fun x=>w + x) (List.range j))=[]:=by
  rw [List.filter_eq_nil_iff]
  intro a ha
  obtain ⟨k,_,rfl⟩:=List.mem_map.mp ha
  rw [Nat.testBit_lt_two_pow (Nat.lt_of_lt_of_le hm (Nat.pow_le_pow_right (by decide) (Nat.le_add_right w k)))]
  simp
 rw [this,List.append_nil]
noncomputable def xm (ps:List Nat):Nat:=ps.foldl (fun a p=>a^^^2 ^ p) 0
theorem JK (ps:List Nat):∀ (a k:Nat),(ps.foldl (fun a p=>a^^^2 ^ p) a).testBit k=(a.testBit k^^(ps.count k % 2 == 1)):=by
 induction ps with
 | nil=>intro a k;simp
 | cons p ps ih=>
   intro a k
   rw [List.foldl_cons,ih,Nat.testBit_xor,Nat.testBit_two_pow,List.count_cons]
   by_cases h:p=k
   ·subst h
    simp only [decide_true,beq_self_eq_true,if_true]
    rcases Nat.mod_two_eq_zero_or_one (List.count p ps) with z | z
    ·have e:(List.count p ps + 1) % 2=1:=by omega
     rw [z,e];cases a.testBit p<;>rfl
    ·have e:(List.count p ps + 1) % 2=0:=by omega
     rw [z,e];cases a.testBit p<;>rfl
   ·have hb:(p == k)=false:=beq_eq_false_iff_ne.mpr h
    simp [hb,h]
theorem Ls (ps:List Nat) (k:Nat):(xm ps).testBit k=(ps.count k % 2 == 1):=by
 unfold xm;rw [JK];simp
theorem mz (w k:Nat) (p:Nat→Bool):((List.range w).filter p).count k=if k < w∧p k=true then 1 else 0:=by
 have nd:((List.range w).filter p).Nodup:=List.Pairwise.filter p List.nodup_range
 by_cases h:k < w∧p k=true
 ·rw [if_pos h]
  have hm:k∈(List.range w).filter p:=List.mem_filter.mpr ⟨List.mem_range.mpr h.1,h.2⟩
  exact List.Nodup.count nd |>.trans (by rw [if_pos hm])
 ·rw [if_neg h]
  refine List.count_eq_zero.mpr fun hm=>h ?_
  obtain ⟨a,b⟩:=List.mem_filter.mp hm
  exact ⟨List.mem_range.mp a,b⟩
theorem Ho (w m k:Nat):(pl w m).count k=if k < w∧m.testBit k=true then 1 else 0:=mz w k m.testBit
theorem xm_ext {w m:Nat} {ps:List Nat} (hm:m < 2 ^ w) (h:∀ k,ps.count k % 2=(pl w m).count k % 2):xm ps=m:=by
 apply Nat.eq_of_testBit_eq;intro k
 rw [Ls,h,Ho]
 by_cases hk:k < w
 ·cases e:m.testBit k<;>simp [hk,e]
 ·rw [Nat.testBit_lt_two_pow (Nat.lt_of_lt_of_le hm (Nat.pow_le_pow_right (by decide) (Nat.not_lt.mp hk)))]
  simp [hk]
noncomputable def Span:List Nat→Nat→Prop
 | [],x=>x=0
 | r::rs,x=>Span rs x∨Span rs (x^^^r)
theorem lE:∀ rs:List Nat,Span rs 0
 | []=>rfl
 | _::rs=> .inl (lE rs)
theorem bf (x r:Nat):x^^^r^^^r=x:=by rw [Nat.xor_assoc,Nat.xor_self,Nat.xor_zero]
theorem cN (a b c:Nat):a^^^b^^^c=a^^^c^^^b:=by rw [Nat.xor_assoc,Nat.xor_comm b c,← Nat.xor_assoc]
theorem dj:∀ (rs:List Nat) (r x:Nat),Span (rs++[r]) x↔Span rs x∨Span rs (x^^^r)
 | [],r,x=>Iff.rfl
 | q::rs,r,x=>by
   show Span (rs++[r]) x∨Span (rs++[r]) (x^^^q)↔(Span rs x∨Span rs (x^^^q))∨(Span rs (x^^^r)∨Span rs (x^^^r^^^q))
   rw [dj rs r x,dj rs r (x^^^q),cN x q r]
   constructor
   ·rintro ((h | h) | (h | h))
    ·exact .inl (.inl h)
    ·exact .inr (.inl h)
    ·exact .inl (.inr h)
    ·exact .inr (.inr h)
   ·rintro ((h | h) | (h | h))
    ·exact .inl (.inl h)
    ·exact .inr (.inl h)
    ·exact .inl (.inr h)
    ·exact .inr (.inr h)
theorem span_xor:∀ {rs:List Nat} {x y:Nat},Span rs x→Span rs y→Span rs (x^^^y)
 | [],x,y,h,k=>by
   have h:x=0:=h
   have k:y=0:=k
   subst h;subst k;exact rfl
 | r::rs,x,y,h,k=>by
   rcases h with h | h<;>rcases k with k | k
   ·exact .inl (span_xor h k)
   ·refine .inr ?_
    have:=span_xor h k
    rwa [← Nat.xor_assoc] at this
   ·refine .inr ?_
    have:=span_xor h k
    rwa [cN] at this
   ·refine .inl ?_
    have:=span_xor h k
    rwa [← Nat.xor_assoc,cN x r y,bf] at this
noncomputable def sm:List Nat→Nat→Nat
 | [],_=>0
 | r::rs,p=>(if p.testBit 0 then r else 0)^^^sm rs (p / 2)
theorem sm_zero:∀ rs:List Nat,sm rs 0=0
 | []=>rfl
 | r::rs=>by show (if (0:Nat).testBit 0 then r else 0)^^^sm rs (0 / 2)=0;rw [show (0:Nat) / 2=0 from rfl,sm_zero rs];simp
theorem xor4 (a b c d:Nat):a^^^b^^^(c^^^d)=a^^^c^^^(b^^^d):=by
 rw [Nat.xor_assoc,← Nat.xor_assoc b c d,Nat.xor_comm b c,Nat.xor_assoc c b d,← Nat.xor_assoc a c]
theorem sm_xor:∀ (rs:List Nat) (p q:Nat),sm rs (p^^^q)=sm rs p^^^sm rs q
 | [],p,q=>by show (0:Nat)=0^^^0;simp
 | r::rs,p,q=>by
   show (if (p^^^q).testBit 0 then r else 0)^^^sm rs ((p^^^q) / 2)=((if p.testBit 0 then r else 0)^^^sm rs (p / 2))^^^((if q.testBit 0 then r else 0)^^^sm rs (q / 2))
   rw [Bj,sm_xor rs,Nat.testBit_xor,xor4]
   congr 1
   cases p.testBit 0<;>cases q.testBit 0<;>simp
theorem fI:∀ (rs:List Nat) (r p:Nat),sm (rs++[r]) p=sm rs p^^^(if p.testBit rs.length then r else 0)
 | [],r,p=>by show (if p.testBit 0 then r else 0)^^^0=0^^^_;rw [Nat.xor_zero,Nat.zero_xor];rfl
 | q::rs,r,p=>by
   show (if p.testBit 0 then q else 0)^^^sm (rs++[r]) (p / 2)=((if p.testBit 0 then q else 0)^^^sm rs (p / 2))^^^_
   rw [fI rs r (p / 2),Nat.testBit_div_two,Nat.xor_assoc]
   rfl
theorem fW {rs:List Nat} {r p:Nat} (h:p < 2 ^ rs.length):sm (rs++[r]) p=sm rs p:=by
 rw [fI,Nat.testBit_lt_two_pow h];simp
theorem IS (rs:List Nat) (r:Nat):sm (rs++[r]) (2 ^ rs.length)=r:=by
 rw [fI]
 have e:sm rs (2 ^ rs.length)=0:=by
  have:∀ (rs:List Nat) (k:Nat),rs.length≤k→sm rs (2 ^ k)=0:=by
   intro rs
   induction rs with
   | nil=>intro k _;rfl
   | cons q rs ih=>
     intro k hk
     have hk:rs.length + 1≤k:=hk
     obtain ⟨j,rfl⟩:∃ j,k=j + 1:=⟨k - 1,by omega⟩
     show (if (2 ^ (j + 1)).testBit 0 then q else 0)^^^sm rs (2 ^ (j + 1) / 2)=0
     have e1:(2 ^ (j + 1)) / 2=2 ^ j:=by rw [Nat.pow_succ];omega
     have e2:(2 ^ (j + 1)).testBit 0=false:=by rw [Nat.testBit_two_pow];simp
     rw [e1,e2,ih j (by omega)]
     simp
  exact this rs _ (Nat.le_refl _)
 rw [e,Nat.testBit_two_pow_self];simp
theorem sm_span:∀ (rs:List Nat) (p:Nat),Span rs (sm rs p)
 | [],p=>rfl
 | r::rs,p=>by
   show Span rs _∨Span rs _
   have ih:=sm_span rs (p / 2)
   cases h:p.testBit 0 with
   | true=>refine .inr ?_;rw [show sm (r::rs) p=r^^^sm rs (p / 2) from by show (if p.testBit 0 then r else 0)^^^_=_;rw [h];rfl,Nat.xor_comm r,bf];exact ih
   | false=>refine .inl ?_;rw [show sm (r::rs) p=sm rs (p / 2) from by show (if p.testBit 0 then r else 0)^^^_=_;rw [h];simp];exact ih
theorem gf:∀ {rs:List Nat} {x:Nat},Span rs x→∃ p,p < 2 ^ rs.length∧sm rs p=x
 | [],x,h=>⟨0,Nat.one_pos,(show x=0 from h).symm⟩
 | r::rs,x,h=>by
   rcases h with h | h
   ·obtain ⟨p,hp,e⟩:=gf h
    refine ⟨2 * p,by rw [List.length_cons,Nat.pow_succ];omega,?_⟩
    show (if (2 * p).testBit 0 then r else 0)^^^sm rs (2 * p / 2)=x
    rw [show 2 * p / 2=p by omega,show (2 * p).testBit 0=false by simp [Nat.testBit_zero],e];simp
   ·obtain ⟨p,hp,e⟩:=gf h
    refine ⟨2 * p + 1,by rw [List.length_cons,Nat.pow_succ];omega,?_⟩
    show (if (2 * p + 1).testBit 0 then r else 0)^^^sm rs ((2 * p + 1) / 2)=x
    rw [show (2 * p + 1) / 2=p by omega,show (2 * p + 1).testBit 0=true by simp [Nat.testBit_zero],e]
    show r^^^(x^^^r)=x
    rw [Nat.xor_comm,bf]
theorem Ff {x t:Nat} (h1:2 ^ t≤x) (h2:x < 2 ^ (t + 1)):x.log2=t:=by
 have hx:x≠0:=by have:=Nat.two_pow_pos t;omega
 have a:=(Nat.log2_lt hx).mpr h2
 have b:t≤x.log2:=(Nat.le_log2 hx).mpr h1
 omega
theorem mJ {x:Nat} (h:x≠0):x.testBit x.log2=true:=by
 have:=Nat.testBit_log2 h
 exact this
theorem xor_lt_pow {x y t:Nat} (h1:x < 2 ^ t) (h2:y < 2 ^ t):x^^^y < 2 ^ t:=Nat.xor_lt_two_pow h1 h2
theorem GS {x y:Nat} (hx:x≠0) (hy:y≠0) (h:x.log2=y.log2):x^^^y < 2 ^ x.log2:=by
 have h1:x^^^y < 2 ^ (x.log2 + 1):=xor_lt_pow Nat.lt_log2_self (by rw [h];exact Nat.lt_log2_self)
 have hb:(x^^^y).testBit x.log2=false:=by
  rw [Nat.testBit_xor,mJ hx,show y.testBit x.log2=true by rw [h];exact mJ hy];rfl
 apply Nat.lt_pow_two_of_testBit
 intro i hi
 rcases Nat.lt_or_eq_of_le hi with hi | hi
 ·exact Nat.testBit_lt_two_pow (Nat.lt_of_lt_of_le h1 (Nat.pow_le_pow_right (by decide) hi))
 ·rw [← hi];exact hb
theorem xor_less {x y:Nat} (hx:x≠0) (hy:y≠0) (h:x.log2=y.log2):x^^^y < x:=
 Nat.lt_of_lt_of_le (GS hx hy h) (Nat.log2_self_le hx)
theorem kZ {x y:Nat} (hy:y≠0) (h:x < 2 ^ y.log2):(x^^^y).log2=y.log2:=by
 have h1:x^^^y < 2 ^ (y.log2 + 1):=xor_lt_pow (Nat.lt_of_lt_of_le h (Nat.pow_le_pow_right (by decide) (by omega))) Nat.lt_log2_self
 have hb:(x^^^y).testBit y.log2=true:=by rw [Nat.testBit_xor,Nat.testBit_lt_two_pow h,mJ hy];rfl
 exact Ff (Nat.ge_two_pow_of_testBit hb) h1
theorem zQ {x y:Nat} (hx:x≠0) (hy:y≠0) (h:x.log2≠y.log2):(x^^^y).log2=x.log2∨(x^^^y).log2=y.log2:=by
 rcases Nat.lt_or_gt_of_ne h with h | h
 ·exact .inr (kZ hy (Nat.lt_of_lt_of_le Nat.lt_log2_self (Nat.pow_le_pow_right (by decide) h)))
 ·refine .inl ?_
  rw [Nat.xor_comm]
  exact kZ hx (Nat.lt_of_lt_of_le Nat.lt_log2_self (Nat.pow_le_pow_right (by decide) h))
noncomputable def Fre (rows:List Nat) (i:Nat):Prop:=i < rows.length∧¬ Span (rows.take i) (rows.getD i 0)
theorem Fre.snoc {rows:List Nat} {i:Nat} (r:Nat) (h:Fre rows i):Fre (rows++[r]) i:=by
 obtain ⟨hi,hn⟩:=h
 refine ⟨by rw [List.length_append];omega,?_⟩
 rw [List.take_append_of_le_length (Nat.le_of_lt hi),List.getD_eq_getElem?_getD,List.getElem?_append_left hi,← List.getD_eq_getElem?_getD]
 exact hn
theorem Fre.last {rows:List Nat} {r:Nat} (h:¬ Span rows r):Fre (rows++[r]) rows.length:=by
 refine ⟨by rw [List.length_append];simp,?_⟩
 rw [List.take_left,List.getD_eq_getElem?_getD,List.getElem?_append_right (Nat.le_refl _),Nat.sub_self]
 exact h
noncomputable def Frs (rows:List Nat) (q:Nat):Prop:=∀ i,q.testBit i=true→Fre rows i
theorem Frs.zero (rows:List Nat):Frs rows 0:=fun i h=>by rw [Nat.zero_testBit] at h;cases h
theorem Frs.xor {rows:List Nat} {p q:Nat} (hp:Frs rows p) (hq:Frs rows q):Frs rows (p^^^q):=fun i h=>by
 rw [Nat.testBit_xor] at h
 cases h1:p.testBit i with
 | true=>exact hp i h1
 | false=>rw [h1] at h;exact hq i (by simpa using h)
theorem Frs.snoc {rows:List Nat} {q:Nat} (r:Nat) (h:Frs rows q):Frs (rows++[r]) q:=fun i hi=>(h i hi).snoc r
theorem Frs.more {rows:List Nat} {q r:Nat} (h:Frs rows q) (hr:¬ Span rows r):Frs (rows++[r]) (q^^^2 ^ rows.length):=(h.snoc r).xor fun i hi=>by
 rw [Nat.testBit_two_pow] at hi
 have e:rows.length=i:=by simpa using hi
 rw [← e];exact Fre.last hr
structure Ech (es:List (Nat×Nat)) (rows:List Nat):Prop where
 nz:∀ e∈es,e.1≠0
 lt:∀ e∈es,e.2 < 2 ^ rows.length
 sm:∀ e∈es,sm rows e.2=e.1
 nd:(es.map fun e=>e.1.log2).Nodup
 all:∀ y,Span rows y→y≠0→∃ e∈es,e.1.log2=y.log2
 sub:∀ e∈es,Frs rows e.2
theorem Ech.nil:Ech [] []:=⟨fun _ h=>absurd h (by simp),fun _ h=>absurd h (by simp),fun _ h=>absurd h (by simp),.nil,fun y h n=>absurd h n,fun _ h=>absurd h (by simp)⟩
theorem Ech.span {es:List (Nat×Nat)} {rows:List Nat} (I:Ech es rows) {e:Nat×Nat} (h:e∈es):Span rows e.1:=by
 rw [← I.sm e h];exact sm_span _ _
theorem yW {rows:List Nat} {r p:Nat} (h:p < 2 ^ rows.length):sm (rows++[r]) (p^^^2 ^ rows.length)=sm rows p^^^r:=by
 rw [sm_xor,fW h,IS]
theorem zP {n p:Nat} (h:p < 2 ^ n):p^^^2 ^ n < 2 ^ (n + 1):=
 xor_lt_pow (Nat.lt_of_lt_of_le h (Nat.pow_le_pow_right (by decide) (by omega))) (Nat.pow_lt_pow_right (by decide) (by omega))
theorem Ech.null {es:List (Nat×Nat)} {rows:List Nat} (I:Ech es rows) {r q:Nat} (hq:q < 2 ^ rows.length) (e:r^^^M.sm rows q=0):Span rows r∧Ech es (rows++[r]):=by
 have hr:r=M.sm rows q:=by
  have:=congrArg (·^^^M.sm rows q) e
  simpa [bf] using this
 have hs:Span rows r:=by rw [hr];exact sm_span _ _
 refine ⟨hs,I.nz,fun e h=>?_,fun e h=>?_,I.nd,fun y hy n=>?_,fun e h=>(I.sub e h).snoc r⟩
 ·rw [List.length_append];exact Nat.lt_of_lt_of_le (I.lt e h) (Nat.pow_le_pow_right (by decide) (by simp))
 ·rw [fW (I.lt e h)];exact I.sm e h
 ·rcases (dj rows r y).mp hy with hy | hy
  ·exact I.all y hy n
  ·have:=span_xor hy hs
   rw [bf] at this
   exact I.all y this n
theorem Ech.more {es:List (Nat×Nat)} {rows:List Nat} (I:Ech es rows) {r q:Nat} (hq:q < 2 ^ rows.length) (e:r^^^M.sm rows q≠0) (hn:∀ e∈es,e.1.log2≠(r^^^M.sm rows q).log2) (hf:Frs rows q):
  ¬ Span rows r∧Ech (es++[(r^^^M.sm rows q,q^^^2 ^ rows.length)]) (rows++[r]):=by
 have hns:¬ Span rows r:=fun hs=>by
  obtain ⟨x,hx,ex⟩:=I.all _ (span_xor hs (sm_span rows q)) e
  exact hn x hx ex
 refine ⟨hns,fun x h=>?_,fun x h=>?_,fun x h=>?_,?_,fun y hy n=>?_,fun x h=>(List.mem_append.mp h).elim (fun h=>(I.sub x h).snoc r) fun h=>by rw [List.mem_singleton] at h;subst h;exact hf.more hns⟩
 ·rcases List.mem_append.mp h with h | h
  ·exact I.nz x h
  ·rw [List.mem_singleton] at h;subst h;exact e
 ·rw [List.length_append]
  rcases List.mem_append.mp h with h | h
  ·exact Nat.lt_of_lt_of_le (I.lt x h) (Nat.pow_le_pow_right (by decide) (by simp))
  ·rw [List.mem_singleton] at h;subst h;exact zP hq
 ·rcases List.mem_append.mp h with h | h
  ·rw [fW (I.lt x h)];exact I.sm x h
  ·rw [List.mem_singleton] at h;subst h
   show M.sm _ (q^^^_)=r^^^M.sm rows q
   rw [yW hq,Nat.xor_comm]
 ·rw [List.map_append,List.nodup_append]
  refine ⟨I.nd,by simp,fun a ha b hb=>?_⟩
  obtain ⟨x,hx,rfl⟩:=List.mem_map.mp ha
  rw [List.map_singleton,List.mem_singleton] at hb
  subst hb
  exact hn x hx
 ·rcases (dj rows r y).mp hy with hy | hy
  ·obtain ⟨x,hx,ex⟩:=I.all y hy n
   exact ⟨x,List.mem_append_left _ hx,ex⟩
  ·
   have hz:=span_xor hy (sm_span rows q)
   have ey:y=(y^^^r^^^M.sm rows q)^^^(r^^^M.sm rows q):=by
    rw [xor4,Nat.xor_self,Nat.xor_zero,bf]
   generalize hz':y^^^r^^^M.sm rows q=z at hz ey
   by_cases z0:z=0
   ·refine ⟨_,List.mem_append_right _ (List.mem_singleton.mpr rfl),?_⟩
    show (r^^^M.sm rows q).log2=y.log2
    rw [ey,z0,Nat.zero_xor]
   ·obtain ⟨x,hx,ex⟩:=I.all z hz z0
    have ne:z.log2≠(r^^^M.sm rows q).log2:=by rw [← ex];exact hn x hx
    rcases zQ z0 e ne with h | h
    ·exact ⟨x,List.mem_append_left _ hx,by rw [ex,ey,h]⟩
    ·refine ⟨_,List.mem_append_right _ (List.mem_singleton.mpr rfl),?_⟩
     show (r^^^M.sm rows q).log2=y.log2
     rw [ey,h]
noncomputable def tt (p:Prop):Bool:=@decide p (Classical.propDecidable p)
theorem Lv {p:Prop} (h:p):tt p=true:=@decide_eq_true _ (Classical.propDecidable _) h
theorem Lw {p:Prop} (h:¬ p):tt p=false:=@decide_eq_false _ (Classical.propDecidable _) h
noncomputable def fr (rows:List Nat):List Nat:=(List.range rows.length).filter fun i=> !tt (Span (rows.take i) (rows.getD i 0))
theorem FP (rows:List Nat) (r:Nat):fr (rows++[r])=fr rows++(if tt (Span rows r)=true then [] else [rows.length]):=by
 unfold fr
 rw [List.length_append,List.length_singleton,List.range_succ,List.filter_append]
 have e1:(List.range rows.length).filter (fun i=> !tt (Span ((rows++[r]).take i) ((rows++[r]).getD i 0)))=(List.range rows.length).filter (fun i=> !tt (Span (rows.take i) (rows.getD i 0))):=by
  apply List.filter_congr
  intro i hi
  have hi:=List.mem_range.mp hi
  have a:(rows++[r]).take i=rows.take i:=List.take_append_of_le_length (Nat.le_of_lt hi)
  have b:(rows++[r]).getD i 0=rows.getD i 0:=by
   rw [List.getD_eq_getElem?_getD,List.getD_eq_getElem?_getD,List.getElem?_append_left hi]
  rw [a,b]
 rw [e1]
 congr 1
 have a:(rows++[r]).take rows.length=rows:=List.take_left
 have b:(rows++[r]).getD rows.length 0=r:=by
  rw [List.getD_eq_getElem?_getD,List.getElem?_append_right (Nat.le_refl _),Nat.sub_self];rfl
 rw [List.filter_cons,a,b]
 cases tt (Span rows r)<;>rfl
theorem fr_len (rows:List Nat):(fr rows).length≤rows.length:=by
 have:=List.length_filter_le (fun i=> !tt (Span (rows.take i) (rows.getD i 0))) (List.range rows.length)
 rw [List.length_range] at this
 exact this
theorem fr_in {rows:List Nat} {r:Nat} (h:Span rows r):fr (rows++[r])=fr rows:=by rw [FP,Lv h];simp
theorem fr_out {rows:List Nat} {r:Nat} (h:¬ Span rows r):fr (rows++[r])=fr rows++[rows.length]:=by rw [FP,Lw h];rfl
structure Nul (nms rows:List Nat):Prop where
 lt:∀ x∈nms,x < 2 ^ rows.length
 nz:∀ x∈nms,x≠0
 sm:∀ x∈nms,sm rows x=0
 pw:nms.Pairwise fun a b=>a.log2 < b.log2
 len:nms.length + (fr rows).length=rows.length
theorem Nul.nil:Nul [] []:=⟨fun _ h=>absurd h (by simp),fun _ h=>absurd h (by simp),fun _ h=>absurd h (by simp),.nil,rfl⟩
theorem Nul.keep {nms rows:List Nat} (I:Nul nms rows) {r:Nat} (h:¬ Span rows r):Nul nms (rows++[r]) where
 lt:=fun x hx=>by rw [List.length_append];exact Nat.lt_of_lt_of_le (I.lt x hx) (Nat.pow_le_pow_right (by decide) (by simp))
 nz:=I.nz
 sm:=fun x hx=>by rw [fW (I.lt x hx)];exact I.sm x hx
 pw:=I.pw
 len:=by rw [fr_out h,List.length_append,List.length_append,← I.len];simp;omega
theorem qP {n q:Nat} (h:q < 2 ^ n):q^^^2 ^ n≠0∧(q^^^2 ^ n).log2=n:=by
 have e:(2 ^ n:Nat).log2=n:=Ff (Nat.le_refl _) (Nat.pow_lt_pow_right (by decide) (by omega))
 have h0:(2 ^ n:Nat)≠0:=by have:=Nat.two_pow_pos n;omega
 have hl:=kZ (x:=q) h0 (by rw [e];exact h)
 refine ⟨fun z=>?_,by rw [hl,e]⟩
 have hb:(q^^^2 ^ n).testBit n=true:=by rw [Nat.testBit_xor,Nat.testBit_lt_two_pow h,Nat.testBit_two_pow_self];rfl
 rw [z] at hb
 simp at hb
theorem log2_under {n q:Nat} (h0:q≠0) (h:q < 2 ^ n):q.log2 < n:=(Nat.log2_lt h0).mpr h
theorem Nul.snoc {nms rows:List Nat} (I:Nul nms rows) {r q:Nat} (hq:q < 2 ^ rows.length) (e:r^^^M.sm rows q=0) (hs:Span rows r):Nul (nms++[q^^^2 ^ rows.length]) (rows++[r]) where
 lt:=fun x hx=>by
  rw [List.length_append]
  rcases List.mem_append.mp hx with hx | hx
  ·exact Nat.lt_of_lt_of_le (I.lt x hx) (Nat.pow_le_pow_right (by decide) (by simp))
  ·rw [List.mem_singleton] at hx;subst hx;exact zP hq
 nz:=fun x hx=>by
  rcases List.mem_append.mp hx with hx | hx
  ·exact I.nz x hx
  ·rw [List.mem_singleton] at hx;subst hx;exact (qP hq).1
 sm:=fun x hx=>by
  rcases List.mem_append.mp hx with hx | hx
  ·rw [fW (I.lt x hx)];exact I.sm x hx
  ·rw [List.mem_singleton] at hx;subst hx;rw [yW hq,Nat.xor_comm];exact e
 pw:=by
  rw [List.pairwise_append]
  refine ⟨I.pw,List.pairwise_singleton _ _,fun a ha b hb=>?_⟩
  rw [List.mem_singleton] at hb
  subst hb
  rw [(qP hq).2]
  exact log2_under (I.nz a ha) (I.lt a ha)
 len:=by rw [fr_in hs,List.length_append,List.length_append,← I.len];simp;omega
noncomputable def Inj (ws:List Nat):Prop:=∀ p,p < 2 ^ ws.length→sm ws p=0→p=0
theorem sm_lt {t:Nat}:∀ {ws:List Nat} (p:Nat),(∀ x∈ws,x < 2 ^ t)→sm ws p < 2 ^ t
 | [],p,_=>Nat.two_pow_pos t
 | w::ws,p,h=>by
   refine xor_lt_pow ?_ (sm_lt _ fun x hx=>h x (List.mem_cons_of_mem _ hx))
   split
   ·exact h w (List.mem_cons_self ..)
   ·exact Nat.two_pow_pos t
theorem Inj.nil:Inj []:=fun p h _=>by
 have:p < 1:=h
 omega
theorem Bc:∀ (n:Nat) (l:List Nat),l.Nodup→(∀ x∈l,x < n)→l.length≤n
 | 0,l,_,h=>by
   cases l with
   | nil=>exact Nat.le_refl _
   | cons x r=>exact absurd (h x (List.mem_cons_self ..)) (Nat.not_lt_zero _)
 | n + 1,l,nd,h=>by
   have ih:=Bc n (l.erase n) (nd.erase n) fun x hx=>by
    have hm:=(nd.mem_erase_iff).mp hx
    have:=h x hm.2
    have:=hm.1
    omega
   by_cases hm:n∈l
   ·rw [List.length_erase_of_mem hm] at ih;omega
   ·rw [List.erase_of_not_mem hm] at ih;omega
theorem span_lt {t:Nat}:∀ {rs:List Nat} {x:Nat},(∀ r∈rs,r < 2 ^ t)→Span rs x→x < 2 ^ t
 | [],x,_,h=>by have h:x=0:=h;rw [h];exact Nat.two_pow_pos t
 | r::rs,x,b,h=>by
   have ih:=fun x=>span_lt (rs:=rs) (x:=x) fun y hy=>b y (List.mem_cons_of_mem _ hy)
   rcases h with h | h
   ·exact ih x h
   ·have:=xor_lt_pow (ih _ h) (b r (List.mem_cons_self ..))
    rwa [bf] at this
structure Sums (ks rows:List Nat):Prop where
 nd:ks.Nodup
 all:∀ x,x∈ks↔Span rows x
theorem Sums.zero:Sums [0] []:=⟨by simp,fun x=>by rw [List.mem_singleton];exact Iff.rfl⟩
theorem JI {a b r:Nat} (h:a^^^r=b^^^r):a=b:=by
 have:=congrArg (·^^^r) h
 simpa [bf] using this
theorem Sums.step {ks rows:List Nat} (S:Sums ks rows) {r:Nat} (h:¬ Span rows r):Sums (ks++ks.map (·^^^r)) (rows++[r]):=by
 refine ⟨?_,fun x=>?_⟩
 ·rw [List.nodup_append]
  refine ⟨S.nd,?_,fun a ha b hb e=>?_⟩
  ·exact List.Pairwise.map _ (fun a b hab e=>hab (JI e)) S.nd
  ·obtain ⟨c,hc,rfl⟩:=List.mem_map.mp hb
   subst e
   have:=span_xor ((S.all _).mp ha) ((S.all _).mp hc)
   rw [cN,Nat.xor_self,Nat.zero_xor] at this
   exact h this
 ·rw [List.mem_append,dj,S.all,List.mem_map]
  constructor
  ·rintro (h | ⟨y,hy,rfl⟩)
   ·exact .inl h
   ·refine .inr ?_;rw [bf];exact (S.all _).mp hy
  ·rintro (h | h)
   ·exact .inl h
   ·exact .inr ⟨x^^^r,(S.all _).mpr h,bf x r⟩
theorem Sums.keep {ks rows:List Nat} (S:Sums ks rows) {r:Nat} (h:Span rows r):Sums ks (rows++[r]):=
 ⟨S.nd,fun x=>by
  rw [S.all,dj]
  refine ⟨.inl,fun q=>q.elim id fun q=>?_⟩
  have:=span_xor q h
  rwa [bf] at this⟩
theorem Sums.few {ks rows:List Nat} (S:Sums ks rows) {t:Nat} (h:∀ r∈rows,r < 2 ^ t):ks.length≤2 ^ t:=Bc _ _ S.nd fun x hx=>span_lt h ((S.all x).mp hx)
end M
namespace Sx
open PySem L2
noncomputable abbrev nat (k:Nat):V:= .int (k:Int)
theorem Kn {k:Nat} {A:Around} (r:Room k A):A.units + 100 < cLine:=by have:=r.un;omega
theorem iteB {c:Bool} {A B:Prop} (h1:c=true→A) (h2:c=false→B):if c=true then A else B:=by
 cases c
 ·rw [if_neg Bool.false_ne_true];exact h2 rfl
 ·rw [if_pos rfl];exact h1 rfl
theorem uL (h:Nat):(2:Int) ^ h=((2 ^ h:Nat):Int):=by norm_cast
theorem shl1 (k:Nat):(1:Int) * 2 ^ ((k:Int).toNat)=((2 ^ k:Nat):Int):=by rw [Int.toNat_natCast,Int.one_mul];norm_cast
theorem Gq (a b:Nat):Builtin.bitOr (a:Int) (b:Int)=((a||| b:Nat):Int):=by
 have e1:Builtin.bitNot (a:Int)= -(a:Int) - 1:=by first | rfl | (unfold Builtin.bitNot;omega)
 have e2:Builtin.bitNot (b:Int)= -(b:Int) - 1:=by first | rfl | (unfold Builtin.bitNot;omega)
 unfold Builtin.bitOr Builtin.bitAnd
 rw [decide_eq_false (show ¬ (0:Int)≤Builtin.bitNot (a:Int) by rw [e1];omega),decide_eq_false (show ¬ (0:Int)≤Builtin.bitNot (b:Int) by rw [e2];omega)]
 have n:∀ x:Int,Builtin.bitNot (Builtin.bitNot x)=x:=fun x=>by unfold Builtin.bitNot;omega
 simp only [n,Int.toNat_natCast]
theorem cJ (a b:Nat):Builtin.bitXor (a:Int) (b:Int)=((a^^^b:Nat):Int):=by
 unfold Builtin.bitXor
 rw [Gq,aO]
 have:=M.or_sum a b
 omega
theorem yp:Builtin.Int.intBits ((0:Nat):Int)=0:=by decide
theorem kb {m:Nat} (h:m≠0):Builtin.Int.intBits (m:Int)=m.log2 + 1:=by
 unfold Builtin.Int.intBits
 have e:((m:Int) == 0)=false:=by rw [beq_eq_false_iff_ne];omega
 rw [e,if_neg Bool.false_ne_true,Int.natAbs_natCast]
theorem IC (m i:Nat):Builtin.bitAnd ((m:Int) / 2 ^ ((0 + (i:Int)).toNat)) 1=if m.testBit i then 1 else 0:=by
 have e0:(0 + (i:Int)).toNat=i:=by omega
 rw [e0,uL]
 have e1:(m:Int) / ((2 ^ i:Nat):Int)=((m>>>i:Nat):Int):=by rw [Nat.shiftRight_eq_div_pow];norm_cast
 rw [e1,show (1:Int)=((1:Nat):Int) from rfl,aO,Nat.and_one_is_mod]
 have:m.testBit i=(m>>>i % 2 == 1):=by
  rw [Nat.testBit_eq_decide_div_mod_eq,Nat.shiftRight_eq_div_pow]
  rcases Nat.mod_two_eq_zero_or_one (m / 2 ^ i) with h | h<;>rw [h]<;>rfl
 rw [this]
 rcases Nat.mod_two_eq_zero_or_one (m>>>i) with h | h<;>rw [h]<;>rfl
structure En where
 a:Addr
 m:Nat
 p:Nat
noncomputable def l7 (es:List En):List (Key×V):=es.map fun e=>(Sum.inl ((e.m.log2:Nat):Int),V.ref e.a)
theorem pU:∀ (es:List En) (z:Int),(∃ e∈es,((e.m.log2:Nat):Int)=z∧valV (l7 es) (Sum.inl z)=some (.ref e.a))∨((∀ e∈es,((e.m.log2:Nat):Int)≠z)∧valV (l7 es) (Sum.inl z)=none)
 | [],z=> .inr ⟨fun _ h=>absurd h (by simp),rfl⟩
 | e::es,z=>by
   by_cases h:((e.m.log2:Nat):Int)=z
   ·exact .inl ⟨e,List.mem_cons_self ..,h,pF (by show (Sum.inl _:Key)=_;rw [h])⟩
   ·have hv:valV (l7 (e::es)) (Sum.inl z)=valV (l7 es) (Sum.inl z):=pG (by show ¬ (Sum.inl _:Key)=_;intro q;exact h (Sum.inl.inj q))
    rcases pU es z with ⟨x,hx,e1,e2⟩ | ⟨h1,h2⟩
    ·exact .inl ⟨x,List.mem_cons_of_mem _ hx,e1,by rw [hv];exact e2⟩
    ·refine .inr ⟨fun x hx=>?_,by rw [hv];exact h2⟩
     rcases List.mem_cons.mp hx with rfl | hx
     ·exact h
     ·exact h1 x hx
theorem Hl {kvs:List (Key×V)} {k:Key} {v:V} (h:valV kvs k=none):putK kvs k v=kvs++[(k,v)]:=by
 unfold putK
 rw [ur,h]
 rfl
structure StA (H:Hp) (C p d f n:Addr) (rows:List Nat):Prop where
 ho:∃ dx,H p=some (.ins C dx [("by_top",.ref d),("free_places",.ref f),("null_masks",.ref n)])
 he:∃ es:List En,H d=some (.dK (l7 es))∧(∀ e∈es,H e.a=some (.tup [nat e.m,nat e.p]))∧M.Ech (es.map fun e=>(e.m,e.p)) rows∧es.length=(M.fr rows).length
 hf:H f=some (.lst ((M.fr rows).map nat))
 hn:∃ nms,H n=some (.lst (nms.map nat))∧M.Nul nms rows
 ne:f≠n
theorem StA.same {H H2:Hp} {C p d f n:Addr} {rows:List Nat} (x:StA H C p d f n rows) (s:Same H H2):StA H2 C p d f n rows where
 ho:=let ⟨dx,h⟩:=x.ho;⟨dx,s _ _ h⟩
 he:=let ⟨es,h,t,g,l⟩:=x.he;⟨es,s _ _ h,fun e he=>s _ _ (t e he),g,l⟩
 hf:=s _ _ x.hf
 hn:=let ⟨nms,h,g⟩:=x.hn;⟨nms,s _ _ h,g⟩
 ne:=x.ne
theorem StA.null {H H2:Hp} {C p d f n:Addr} {rows:List Nat} (x:StA H C p d f n rows) {r q:Nat} (hq:q < 2 ^ rows.length) (e:r^^^M.sm rows q=0) {nms:List Nat} (hn:M.Nul nms rows) (hl:H n=some (.lst (nms.map nat)))
  (u:Upd H H2 n (.lst (nms.map nat++[nat (q^^^2 ^ rows.length)]))):StA H2 C p d f n (rows++[r]):=by
 obtain ⟨dx,ho⟩:=x.ho
 obtain ⟨es,hd,ht,g,l⟩:=x.he
 obtain ⟨hs,g2⟩:=g.null hq e
 refine ⟨⟨dx,u.oth _ _ (iN ho hl (by simp)) ho⟩,⟨es,u.oth _ _ (iN hd hl (by simp)) hd,fun e he=>u.oth _ _ (iN (ht e he) hl (by simp)) (ht e he),g2,by rw [M.fr_in hs];exact l⟩,?_,⟨nms++[q^^^2 ^ rows.length],?_,hn.snoc hq e hs⟩,x.ne⟩
 ·rw [M.fr_in hs];exact u.oth _ _ x.ne x.hf
 ·rw [List.map_append];exact u.at'
theorem StA.more {H H2 H3 H4:Hp} {C p d f n t:Addr} {rows:List Nat} (x:StA H C p d f n rows) {r q:Nat} (hq:q < 2 ^ rows.length) (e:r^^^M.sm rows q≠0) (hn:∀ y,M.Span rows y→y≠0→y.log2≠(r^^^M.sm rows q).log2) (hf:M.Frs rows q)
  (u:Upd H H2 f (.lst ((M.fr rows).map nat++[nat rows.length]))) (s:Same H2 H3) (ht:H3 t=some (.tup [nat (r^^^M.sm rows q),nat (q^^^2 ^ rows.length)])) {es:List En} (hd:H d=some (.dK (l7 es))) (ht':∀ e∈es,H e.a=some (.tup [nat e.m,nat e.p])) (g:M.Ech (es.map fun e=>(e.m,e.p)) rows) (l:es.length=(M.fr rows).length)
  (u':Upd H3 H4 d (.dK (putK (l7 es) (Sum.inl (((r^^^M.sm rows q).log2:Nat):Int)) (.ref t)))):StA H4 C p d f n (rows++[r]):=by
 obtain ⟨dx,ho⟩:=x.ho
 obtain ⟨nms,hnn,gn⟩:=x.hn
 have hn':∀ e∈es.map (fun e=>(e.m,e.p)),e.1.log2≠(r^^^M.sm rows q).log2:=fun e he=>hn e.1 (g.span he) (g.nz e he)
 obtain ⟨hs,g2⟩:=g.more hq e hn' hf
 have hd2:=s _ _ (u.oth _ _ (iN hd x.hf (by simp)) hd)
 have hv:valV (l7 es) (Sum.inl (((r^^^M.sm rows q).log2:Nat):Int))=none:=by
  rcases pU es (((r^^^M.sm rows q).log2:Nat):Int) with ⟨z,hz,e1,_⟩ | ⟨_,h⟩
  ·exact absurd (Int.ofNat_inj.mp e1) (hn' (z.m,z.p) (List.mem_map.mpr ⟨z,hz,rfl⟩))
  ·exact h
 have go:∀ (b:Addr) (ob:HO),H b=some ob→b≠f→b≠d→H4 b=some ob:=fun b ob h h1 h2=>u'.oth _ _ h2 (s _ _ (u.oth _ _ h1 h))
 refine ⟨⟨dx,go _ _ ho (iN ho x.hf (by simp)) (iN ho hd (by simp))⟩,⟨es++[⟨t,r^^^M.sm rows q,q^^^2 ^ rows.length⟩],?_,fun e he=>?_,?_,?_⟩,?_,⟨nms,go _ _ hnn (Ne.symm x.ne) (iN hnn hd (by simp)),gn.keep hs⟩,x.ne⟩
 ·rw [u'.at',Hl hv]
  unfold l7
  rw [List.map_append]
  rfl
 ·rcases List.mem_append.mp he with he | he
  ·exact go _ _ (ht' e he) (iN (ht' e he) x.hf (by simp)) (iN (ht' e he) hd (by simp))
  ·rw [List.mem_singleton] at he;subst he
   exact u'.oth _ _ (iN ht hd2 (by simp)) ht
 ·rw [List.map_append];exact g2
 ·rw [M.fr_out hs,List.length_append,List.length_append,l];rfl
 ·rw [M.fr_out hs,List.map_append]
  exact u'.oth _ _ (fun z=>by rw [z] at x;have:=x.hf;rw [hd] at this;cases this) (s _ _ u.at')
noncomputable def LJ (C:Addr):Sp:=fun vs H Q _=>∃ p d f n rows x,vs=[.ref p,nat x]∧StA H C p d f n rows∧
 ∀ t H2 q,H t=none→Same H H2→H2 t=some (.tup [nat (x^^^M.sm rows q),nat q])→q < 2 ^ rows.length→(x^^^M.sm rows q≠0→∀ y,M.Span rows y→y≠0→y.log2≠(x^^^M.sm rows q).log2)→M.Frs rows q→Q (.ref t) H2
noncomputable def LK (C:Addr):Sp:=fun vs H Q _=>∃ p d f n rows r,vs=[.ref p,nat rows.length,nat r]∧StA H C p d f n rows∧rows.length≤1000∧
 ∀ H2,(∀ b o,b≠d→b≠f→b≠n→H b=some o→H2 b=some o)→StA H2 C p d f n (rows++[r])→Q .non H2
noncomputable def JR (C:Addr):Sp:=fun vs H Q _=>∃ x dx r rows,vs=[.ref x,.ref r]∧H r=some (.lst (rows.map nat))∧rows.length≤1000∧H x=some (.ins C dx [])∧
 ∀ H2 d f n,(∀ b o,b≠x→H b=some o→H2 b=some o)→StA H2 C x d f n rows→Q .non H2
noncomputable def J0:Sp:=fun vs H Q _=>∃ r rows,vs=[.ref r]∧H r=some (.lst (rows.map nat))∧rows.length≤1000∧∀ D H2,H D=none→Same H H2→H2 D=some (.lst ((M.fr rows).map nat))→Q (.ref D) H2
theorem aK {α:Type} {f:α→V} {ws:List α} {i:Nat} {x:V} (h:(ws.map f)[i]? =some x):∃ k,ws[i]? =some k∧x=f k:=by
 rw [List.getElem?_map] at h
 cases e:ws[i]? with
 | none=>rw [e] at h;cases h
 | some k=>rw [e] at h;exact ⟨k,rfl,(Option.some.inj h).symm⟩
theorem take_succ {α:Type} {ws:List α} {i:Nat} {w:α} (h:ws[i]? =some w):ws.take (i + 1)=ws.take i++[w]:=by rw [List.take_succ,h];rfl
theorem AX {α:Type} {ws:List α} {i:Nat} {w:α} (h:ws[i]? =some w):(ws.take i).length=i:=by
 rw [List.length_take]
 have:=(List.getElem?_eq_some_iff.mp h).1
 omega
theorem ml (ns:List Nat):(ns.map nat).all rg=true:=by simp [rg]
theorem IV {K:PySem.W.Frag} {H:Hp} {Q:VK} {neg:Bool} {p q:Addr} {ns:List Nat} (e:SqL K H p (ns.map nat)) (e':SqL K H q (ns.map nat)) (h:Q (.bl (!neg)) H):rEqL K neg (.ref p) (.ref q) H Q:=by
 refine ⟨p,q,_,_,rfl,rfl,e,e',ml ns,ml ns,?_⟩
 rw [FS (ml ns)]
 cases neg<;>exact h
theorem FF {A:Around} {k:Nat} (hr:Room k A):A.units < cLine:=by have:=hr.un;omega
noncomputable def IR:Sp:=fun vs H Q _=>∃ c k,vs=[.int c,.int k]∧0≤k∧k < 100000∧∀ r:Nat,r < 2147483587→Q (nat r) H
noncomputable def A1 (K:PySem.W.Frag):Sp:=fun vs H Q _=>∃ (a:Addr) (ns:List Int),vs=[.ref a]∧SqL K H a (ns.map V.int)∧ns.length≤63∧∀ H',Q (.bl true) H'
theorem M9 {H:Hp} {Q:VK} {E:XK} {c k:Int} (h0:0≤k) (h1:k < 100000) (q:∀ r:Nat,r < 2147483587→Q (nat r) H):IR [.int c,.int k] H Q E:=⟨c,k,rfl,h0,h1,q⟩
structure Prs (H:Hp) (ws:List Nat) (D:Addr) (ps:List (Addr×Nat)):Prop where
 l:H D=some (.lst (ps.map fun q=>V.ref q.1))
 t:∀ q∈ps,H q.1=some (.tup [nat q.2,nat (M.sm ws q.2)])
 b:∀ q∈ps,q.2 < 2 ^ ws.length
end Sx
namespace M
theorem Ex:∀ (l:List Nat) (p:Nat),sm l (p % 2 ^ l.length)=sm l p
 | [],p=>rfl
 | r::l,p=>by
   show (if (p % 2 ^ (l.length + 1)).testBit 0 then r else 0)^^^sm l (p % 2 ^ (l.length + 1) / 2)=(if p.testBit 0 then r else 0)^^^sm l (p / 2)
   have e1:(p % 2 ^ (l.length + 1)).testBit 0=p.testBit 0:=by rw [Nat.testBit_mod_two_pow];simp
   have e2:p % 2 ^ (l.length + 1) / 2=(p / 2) % 2 ^ l.length:=by
    apply Nat.eq_of_testBit_eq
    intro i
    rw [Nat.testBit_div_two,Nat.testBit_mod_two_pow,Nat.testBit_mod_two_pow,Nat.testBit_div_two]
    congr 1
    simp
   rw [e1,e2,Ex l]
theorem pW:∀ (a b:List Nat) (p:Nat),sm (a++b) p=sm a p^^^sm b (p / 2 ^ a.length)
 | [],b,p=>by show sm b p=0^^^sm b (p / 1);rw [Nat.zero_xor,Nat.div_one]
 | r::a,b,p=>by
   show (if p.testBit 0 then r else 0)^^^sm (a++b) (p / 2)=((if p.testBit 0 then r else 0)^^^sm a (p / 2))^^^sm b (p / 2 ^ (a.length + 1))
   rw [pW a b (p / 2),Nat.xor_assoc,Nat.div_div_eq_div_mul,Nat.pow_succ,Nat.mul_comm 2]
theorem tN {m:Nat} (c:Nat→Bool):∀ (l:List Nat) (p:Nat),∃ β:Bool,sm (l.map fun x=>if c x then x^^^m else x) p=sm l p^^^(if β then m else 0)
 | [],p=>⟨false,by show (0:Nat)=0^^^0;simp⟩
 | r::l,p=>by
   obtain ⟨β,e⟩:=tN c l (p / 2)
   refine ⟨β^^(p.testBit 0&&c r),?_⟩
   show (if p.testBit 0 then (if c r then r^^^m else r) else 0)^^^sm (l.map fun x=>if c x then x^^^m else x) (p / 2)=((if p.testBit 0 then r else 0)^^^sm l (p / 2))^^^_
   rw [e]
   cases p.testBit 0<;>cases c r<;>cases β<;>simp
   ·rw [Nat.xor_assoc]
   ·rw [Nat.xor_assoc,Nat.xor_comm m,← Nat.xor_assoc]
   ·rw [← Nat.xor_assoc,cN (r^^^m) _ m,bf]
theorem Inj.elim {a b:List Nat} {m:Nat} (I:Inj (a++m::b)) (c:Nat→Bool):Inj ((a++b).map fun x=>if c x then x^^^m else x):=by
 intro p hp e
 rw [List.length_map,List.length_append] at hp
 obtain ⟨β,e1⟩:=tN (m:=m) c (a++b) p
 rw [e1,pW] at e
 have ha:=Nat.two_pow_pos a.length
 have hlow:p % 2 ^ a.length < 2 ^ a.length:=Nat.mod_lt _ ha
 have hhi:p / 2 ^ a.length < 2 ^ b.length:=by
  rw [Nat.div_lt_iff_lt_mul ha,← Nat.pow_add,Nat.add_comm];exact hp
 have hq1:(p % 2 ^ a.length + 2 ^ a.length * ((if β then 1 else 0) + 2 * (p / 2 ^ a.length))) % 2 ^ a.length=p % 2 ^ a.length:=by
  rw [Nat.add_mul_mod_self_left,Nat.mod_mod]
 have hq2:(p % 2 ^ a.length + 2 ^ a.length * ((if β then 1 else 0) + 2 * (p / 2 ^ a.length))) / 2 ^ a.length=(if β then 1 else 0) + 2 * (p / 2 ^ a.length):=by
  rw [Nat.add_mul_div_left _ _ ha,Nat.div_eq_of_lt hlow,Nat.zero_add]
 have key:=I (p % 2 ^ a.length + 2 ^ a.length * ((if β then 1 else 0) + 2 * (p / 2 ^ a.length))) ?_ ?_
 ·have k1:p % 2 ^ a.length=0:=by omega
  have k2:2 ^ a.length * ((if β then 1 else 0) + 2 * (p / 2 ^ a.length))=0:=by omega
  have k3:(if β then 1 else 0) + 2 * (p / 2 ^ a.length)=0:=by
   rcases Nat.mul_eq_zero.mp k2 with h | h
   ·omega
   ·exact h
  have k4:p / 2 ^ a.length=0:=by omega
  have:=Nat.div_add_mod p (2 ^ a.length)
  rw [k1,k4] at this
  omega
 ·rw [List.length_append,List.length_cons]
  have e2:2 ^ (a.length + (b.length + 1))=2 ^ a.length * (2 * 2 ^ b.length):=by rw [Nat.pow_add,Nat.pow_succ,Nat.mul_comm (2 ^ b.length)]
  rw [e2]
  have h1:(if β then 1 else 0) + 2 * (p / 2 ^ a.length) + 1≤2 * 2 ^ b.length:=by cases β<;>simp<;>omega
  have h2:=Nat.mul_le_mul_left (2 ^ a.length) h1
  rw [Nat.mul_add (2 ^ a.length),Nat.mul_one] at h2
  omega
 ·rw [pW,← Ex a,hq1,Ex,hq2]
  show sm a p^^^((if ((if β then 1 else 0) + 2 * (p / 2 ^ a.length)).testBit 0 then m else 0)^^^sm b (((if β then 1 else 0) + 2 * (p / 2 ^ a.length)) / 2))=0
  have t0:((if β then 1 else 0) + 2 * (p / 2 ^ a.length)).testBit 0=β:=by
   cases β<;>simp [Nat.testBit_zero]<;>omega
  have t1:((if β then 1 else 0) + 2 * (p / 2 ^ a.length)) / 2=p / 2 ^ a.length:=by
   cases β<;>simp<;>omega
  rw [t0,t1,Nat.xor_comm (if β=true then m else 0),← Nat.xor_assoc]
  exact e
theorem jW:∀ (l:List Nat) (j:Nat),sm l (2 ^ j)=l.getD j 0
 | [],j=>by simp [sm]
 | r::l,0=>by
   show (if (2 ^ 0).testBit 0 then r else 0)^^^sm l (2 ^ 0 / 2)=r
   rw [show (2 ^ 0:Nat) / 2=0 from rfl,sm_zero]
   simp
 | r::l,j + 1=>by
   show (if (2 ^ (j + 1)).testBit 0 then r else 0)^^^sm l (2 ^ (j + 1) / 2)=l.getD j 0
   have e1:(2 ^ (j + 1)) / 2=2 ^ j:=by rw [Nat.pow_succ];omega
   have e2:(2 ^ (j + 1)).testBit 0=false:=by rw [Nat.testBit_two_pow];simp
   rw [e1,e2,jW l j]
   simp
theorem Inj.nz {l:List Nat} (I:Inj l) {m:Nat} (h:m∈l):m≠0:=by
 intro e
 subst e
 obtain ⟨j,hj,ej⟩:=List.mem_iff_getElem.mp h
 have:=I (2 ^ j) (Nat.pow_lt_pow_right (by decide) hj) (by rw [jW,List.getD_eq_getElem?_getD,List.getElem?_eq_getElem hj,ej];rfl)
 have:=Nat.two_pow_pos j
 omega
theorem iL {P:List Nat→Prop} (h0:P []) (hs:∀ l w,P l→P (l++[w])):∀ l,P l:=by
 intro l
 rw [← List.reverse_reverse l]
 generalize l.reverse=k
 induction k with
 | nil=>exact h0
 | cons a k ih=>rw [List.reverse_cons];exact hs _ _ ih
theorem pl_next (i m:Nat):pl (i + 1) m=pl i m++(if m.testBit i then [i] else []):=by
 unfold pl
 rw [List.range_succ,List.filter_append]
 congr 1
 by_cases h:m.testBit i=true
 ·rw [if_pos h];simp [h]
 ·rw [if_neg h];simp [h]
theorem pl_lt {w m n:Nat} (h:m < 2 ^ n):∀ x∈pl w m,x < n:=by
 intro x hx
 have hb:=(List.mem_filter.mp hx).2
 refine Nat.lt_of_not_le fun hn=>?_
 rw [Nat.testBit_lt_two_pow (Nat.lt_of_lt_of_le h (Nat.pow_le_pow_right (by decide) hn))] at hb
 cases hb
noncomputable def xs (rows ps:List Nat):Nat:=ps.foldl (fun a k=>a^^^rows.getD k 0) 0
end M
namespace Sx
open PySem L2
theorem zL (l:List Nat):l.map nat=(l.map fun (k:Nat)=>(k:Int)).map V.int:=by rw [List.map_map];rfl
section
variable {H:Hp} {Q:VK}
theorem L1 {p:Addr} {l:List Nat} (e:H p=some (.lst (l.map nat))) (h0:0 < l.length) (h:∀ m∈l,(∀ x∈l,x≤m)→Q (nat m) H):Mo [.ref p] H Q:=by
 refine ⟨p,l.map fun (k:Nat)=>(k:Int),rfl,by rw [e,zL],by rw [List.length_map];exact h0,fun m hm hx=>?_⟩
 obtain ⟨k,hk,rfl⟩:=List.mem_map.mp hm
 refine h k hk fun x hx'=>?_
 have:=hx (x:Int) (List.mem_map.mpr ⟨x,hx',rfl⟩)
 omega
theorem AY:∀ l:List Nat,(l.map fun (k:Nat)=>(k:Int)).sum=((l.sum:Nat):Int)
 | []=>rfl
 | x::l=>by rw [List.map_cons,List.sum_cons,List.sum_cons,AY l];push_cast;rfl
theorem LT {p:Addr} {l:List Nat} (e:H p=some (.lst (l.map nat))) (h:Q (nat l.sum) H):Mn [.ref p] H Q:=by
 refine ⟨p,l.map fun (k:Nat)=>(k:Int),rfl,by rw [e,zL],?_⟩
 rw [AY]
 exact h
theorem Ij (l:List Nat):eqVs (l.map nat) []=l.isEmpty:=by
 unfold eqVs
 cases l with
 | nil=>rfl
 | cons x l=>simp
theorem Kh {K:PySem.W.Frag} {neg:Bool} {p q:Addr} {l:List Nat} (e:SqL K H p (l.map nat)) (e':SqL K H q []) (h:Q (.bl (if neg then !l.isEmpty else l.isEmpty)) H):rEqL K neg (.ref p) (.ref q) H Q:=by
 refine ⟨p,q,_,_,rfl,rfl,e,e',ml l,rfl,?_⟩
 rw [Ij]
 exact h
end
theorem AC (m:Nat):m < 2 ^ Builtin.Int.intBits (m:Int):=by
 by_cases h:m=0
 ·subst h;decide
 ·rw [kb h];exact Nat.lt_log2_self
theorem AD {m w:Nat} (hm:m < 2 ^ w):Builtin.Int.intBits (m:Int)≤w:=by
 by_cases h:m=0
 ·subst h;rw [yp];exact Nat.zero_le _
 ·rw [kb h];exact (Nat.log2_lt h).mpr hm
noncomputable def JZ:Sp:=fun vs H Q _=>∃ m:Nat,vs=[nat m]∧m < 2 ^ 1000∧∀ D H2,H D=none→Same H H2→H2 D=some (.lst ((M.pl 1000 m).map nat))→Q (.ref D) H2
noncomputable def JW:Sp:=fun vs H Q _=>∃ (D:Addr) (l:List Nat),vs=[.ref D]∧H D=some (.lst (l.map nat))∧M.Inj l∧l.length≤1000∧∀ H2,Same H H2→Q (.bl true) H2
end Sx
namespace M
noncomputable abbrev od (m:Nat):Bool:=pb 1000 m
theorem gK (a b:Nat):od (a^^^b)=(od a^^od b):=EX 1000 a b
theorem iW (m a b:Nat):m&&&(a^^^b)=(m&&&a)^^^(m&&&b):=by
 apply Nat.eq_of_testBit_eq;intro i
 simp only [Nat.testBit_and,Nat.testBit_xor]
 cases m.testBit i<;>simp
theorem pR (m a b:Nat):(a^^^b)&&&m=(a&&&m)^^^(b&&&m):=by
 apply Nat.eq_of_testBit_eq;intro i
 simp only [Nat.testBit_and,Nat.testBit_xor]
 cases m.testBit i<;>simp
theorem uW:∀ w:Nat,pb w 0=false
 | 0=>rfl
 | w + 1=>by show ((0:Nat).testBit w^^pb w 0)=false;rw [uW w];simp
theorem pb_pow {w t:Nat} (h:t < w):pb w (2 ^ t)=true:=by
 rw [pb_up (w:=t + 1) (Nat.pow_lt_pow_right (by decide) (by omega)) h]
 show ((2 ^ t).testBit t^^pb t (2 ^ t))=true
 have e:pb t (2 ^ t)=false:=by
  rw [← Jc,Nat.mod_self,uW]
 rw [e,Nat.testBit_two_pow_self];rfl
theorem Ku (t y:Nat):2 ^ t&&&y=if y.testBit t then 2 ^ t else 0:=by
 apply Nat.eq_of_testBit_eq;intro i
 rw [Nat.testBit_and,Nat.testBit_two_pow]
 by_cases h:t=i
 ·subst h
  cases y.testBit t<;>simp
 ·cases y.testBit t<;>simp [h,Nat.testBit_two_pow]
theorem E6 {t:Nat} (h:t < 1000) (y:Nat):od (2 ^ t&&&y)=y.testBit t:=by
 rw [Ku]
 cases y.testBit t with
 | true=>rw [if_pos rfl];exact pb_pow h
 | false=>rw [if_neg Bool.false_ne_true];exact uW 1000
theorem od_zero:od 0=false:=uW 1000
theorem Jf {y k:Nat} (h:y < 2 ^ k):y.testBit k=false:=Nat.testBit_lt_two_pow h
theorem Ej {y t k:Nat} (h:y≠0) (e:y.log2=t) (l:t < k):y < 2 ^ k:=Nat.lt_of_lt_of_le (by rw [← e];exact Nat.lt_log2_self) (Nat.pow_le_pow_right (by decide) l)
structure Bar (rows:List Nat) (b m:Nat):Prop where
 ev:∀ y,Span rows y→od (m&&&y)=false
 bit:m.testBit b=true
 low:∀ k,k < b→m.testBit k=false
 oth:∀ k,k≠b→(∀ y,Span rows y→y≠0→y.log2≠k)→m.testBit k=false
 lt:∀ W,(∀ r∈rows,r < 2 ^ W)→b < W→m < 2 ^ W
structure BarI (es:List (Nat×Nat)) (ts:List Nat) (b m:Nat):Prop where
 ev:∀ e∈es,e.1.log2∈ts→od (m&&&e.1)=false
 bit:m.testBit b=true
 low:∀ k,k < b→m.testBit k=false
 oth:∀ k,k≠b→(∀ e∈es,e.1.log2≠k)→m.testBit k=false
 lt:∀ W,(∀ e∈es,e.1 < 2 ^ W)→b < W→m < 2 ^ W
theorem BarI.zero (es:List (Nat×Nat)) (b:Nat):BarI es [] b (2 ^ b) where
 ev:=fun _ _ h=>absurd h (by simp)
 bit:=Nat.testBit_two_pow_self
 low:=fun k h=>by rw [Nat.testBit_two_pow];simp;omega
 oth:=fun k h _=>by rw [Nat.testBit_two_pow];simp;omega
 lt:=fun W _ h=>Nat.pow_lt_pow_right (by decide) h
theorem HN {m y b:Nat} (h:∀ k,k < b→m.testBit k=false) (hy:y < 2 ^ b):m&&&y=0:=by
 apply Nat.eq_of_testBit_eq;intro i
 rw [Nat.testBit_and,Nat.zero_testBit]
 by_cases hi:i < b
 ·rw [h i hi];rfl
 ·rw [Nat.testBit_lt_two_pow (Nat.lt_of_lt_of_le hy (Nat.pow_le_pow_right (by decide) (by omega)))];simp
theorem AU {es:List (Nat×Nat)} (nd:(es.map fun e=>e.1.log2).Nodup) {e f:Nat×Nat} (he:e∈es) (hf:f∈es) (h:e.1.log2=f.1.log2):e=f:=by
 obtain ⟨i,hi,rfl⟩:=List.mem_iff_getElem.mp he
 obtain ⟨j,hj,rfl⟩:=List.mem_iff_getElem.mp hf
 have key:∀ i j (hi:i < es.length) (hj:j < es.length),i < j→es[i].1.log2≠es[j].1.log2:=fun i j hi hj hij=>by
  have:=List.pairwise_iff_getElem.mp nd i j (by rw [List.length_map];exact hi) (by rw [List.length_map];exact hj) hij
  rw [List.getElem_map,List.getElem_map] at this
  exact this
 rcases Nat.lt_trichotomy i j with h1 | h1 | h1
 ·exact absurd h (key i j hi hj h1)
 ·subst h1;rfl
 ·exact absurd h.symm (key j i hj hi h1)
theorem BarI.keep {es:List (Nat×Nat)} {ts:List Nat} {b m:Nat} (I:BarI es ts b m) {e:Nat×Nat} (nd:(es.map fun e=>e.1.log2).Nodup) (he:e∈es) (h:od (m&&&e.1)=false):BarI es (ts++[e.1.log2]) b m where
 ev:=fun f hf hm=>by
  rcases List.mem_append.mp hm with hm | hm
  ·exact I.ev f hf hm
  ·rw [List.mem_singleton] at hm
   rw [AU nd hf he hm];exact h
 bit:=I.bit
 low:=I.low
 oth:=I.oth
 lt:=I.lt
theorem BarI.flip {es:List (Nat×Nat)} {ts:List Nat} {b m:Nat} (I:BarI es ts b m) {e:Nat×Nat} (nd:(es.map fun e=>e.1.log2).Nodup) (nz:∀ e∈es,e.1≠0) (he:e∈es) (h:od (m&&&e.1)=true) (up:∀ t∈ts,t < e.1.log2) (hb:e.1.log2≠b) (h1000:e.1.log2 < 1000):BarI es (ts++[e.1.log2]) b (m^^^2 ^ e.1.log2):=by
 have hgt:b < e.1.log2:=by
  refine Nat.lt_of_le_of_ne (Nat.le_of_not_lt fun hlt=>?_) (Ne.symm hb)
  rw [HN I.low (Ej (nz e he) rfl hlt),od_zero] at h
  cases h
 have e0:=nz e he
 refine ⟨fun f hf hm=>?_,?_,fun k hk=>?_,fun k hk hn=>?_,fun W hW hbW=>?_⟩
 ·rw [pR,gK,E6 h1000]
  rcases List.mem_append.mp hm with hm | hm
  ·rw [I.ev f hf hm,Jf (Ej (nz f hf) rfl (up _ hm))];rfl
  ·rw [List.mem_singleton] at hm
   rw [AU nd hf he hm,h,mJ e0];rfl
 ·rw [Nat.testBit_xor,I.bit,Nat.testBit_two_pow];simp;omega
 ·rw [Nat.testBit_xor,I.low k hk,Nat.testBit_two_pow];simp;omega
 ·rw [Nat.testBit_xor,I.oth k hk hn,Nat.testBit_two_pow]
  have:=hn e he
  simp;omega
 ·exact xor_lt_pow (I.lt W hW hbW) (Nat.lt_of_le_of_lt (Nat.log2_self_le e0) (hW e he))
theorem Ech.even_all {es:List (Nat×Nat)} {rows:List Nat} (g:Ech es rows) {m:Nat} (h:∀ e∈es,od (m&&&e.1)=false):∀ y,Span rows y→od (m&&&y)=false:=by
 intro y
 induction y using Nat.strongRecOn with
 | ind y ih=>
   intro hy
   by_cases y0:y=0
   ·subst y0;rw [Nat.and_zero,od_zero]
   ·obtain ⟨e,he,el⟩:=g.all y hy y0
    have e0:=g.nz e he
    have hl:=xor_less y0 e0 el.symm
    have h1:=ih _ hl (span_xor hy (g.span he))
    have h2:=h e he
    have h3:od (m&&&(y^^^e.1))=(od (m&&&y)^^od (m&&&e.1)):=by rw [iW,gK]
    rw [h1,h2] at h3
    simpa using h3.symm
theorem BarI.done {es:List (Nat×Nat)} {rows:List Nat} (g:Ech es rows) {ts:List Nat} {b m:Nat} (I:BarI es ts b m) (all:∀ e∈es,e.1.log2∈ts):Bar rows b m where
 ev:=g.even_all fun e he=>I.ev e he (all e he)
 bit:=I.bit
 low:=I.low
 oth:=fun k hk h=>I.oth k hk fun e he=>h e.1 (g.span he) (g.nz e he)
 lt:=fun W hW hb=>I.lt W (fun e he=>span_lt hW (g.span he)) hb
theorem Bar.odd {rows:List Nat} {b m x q:Nat} (B:Bar rows b m) (h0:x^^^sm rows q≠0) (hb:(x^^^sm rows q).log2=b) (h1000:b < 1000):od (m&&&x)=true:=by
 have e1:m&&&x=(m&&&(x^^^sm rows q))^^^(m&&&sm rows q):=by rw [← iW,bf]
 rw [e1,gK,B.ev _ (sm_span rows q)]
 have e2:m&&&(x^^^sm rows q)=2 ^ b:=by
  apply Nat.eq_of_testBit_eq;intro i
  rw [Nat.testBit_and,Nat.testBit_two_pow]
  rcases Nat.lt_trichotomy i b with h | h | h
  ·rw [B.low i h];simp;omega
  ·subst h;rw [B.bit,← hb,mJ h0];simp
  ·rw [Jf (Ej h0 hb h)];simp;omega
 rw [e2]
 show (pb 1000 (2 ^ b)^^false)=true
 rw [pb_pow h1000];rfl
theorem BJ:∀ rows:List Nat,∃ ks,Sums ks rows∧ks.length=2 ^ (fr rows).length:=by
 refine iL ⟨[0],Sums.zero,rfl⟩ fun rows r ih=>?_
 obtain ⟨ks,S,e⟩:=ih
 by_cases h:Span rows r
 ·exact ⟨ks,S.keep h,by rw [fr_in h];exact e⟩
 ·refine ⟨_,S.step h,?_⟩
  rw [fr_out h,List.length_append,List.length_append,List.length_map,e,List.length_singleton,Nat.pow_succ]
  omega
theorem EK {rows:List Nat} {t:Nat} (h:∀ r∈rows,r < 2 ^ t):(fr rows).length≤t:=by
 obtain ⟨ks,S,e⟩:=BJ rows
 have:=S.few h
 rw [e] at this
 exact (Nat.pow_le_pow_iff_right (by decide)).mp this
theorem jV {l:List Nat} {m:Nat} (h:m∈l):Span l m:=by
 obtain ⟨j,hj,rfl⟩:=List.mem_iff_getElem.mp h
 have:=sm_span l (2 ^ j)
 rw [jW,List.getD_eq_getElem?_getD,List.getElem?_eq_getElem hj] at this
 exact this
end M
namespace Sx
open PySem L2
noncomputable def cell (ns:List Int) (k:Int):Int:=if k < ns.length then ns.getD k.toNat 0 else 41 * k + 3
noncomputable def A2 (K:PySem.W.Frag):Sp:=fun vs H Q _=>∃ (p:Addr) (ns:List Int) (k:Int),vs=[.ref p,.int k]∧SqL K H p (ns.map V.int)∧0≤k∧Q (.int (cell ns k)) H
theorem Gk {K:PySem.W.Frag} {H:Hp} {Q:VK} {E:XK} {p:Addr} {ns:List Int} {k:Int} (e:SqL K H p (ns.map V.int)) (h0:0≤k) (q:Q (.int (cell ns k)) H):A2 K [.ref p,.int k] H Q E:=⟨p,ns,k,rfl,e,h0,q⟩
noncomputable def JX:Sp:=fun vs H Q _=>∃ m:Nat,vs=[nat m]∧m < 2 ^ 1000∧Q (.bl (!M.od m)) H
theorem FR (n h:Nat):Builtin.bitXor ((n:Int) / 2 ^ ((h:Int).toNat)) (Builtin.bitAnd (n:Int) (1 * 2 ^ ((h:Int).toNat) - 1))=(((n>>>h)^^^(n&&&(2 ^ h - 1)):Nat):Int):=by
 rw [Int.toNat_natCast,Int.one_mul,uL]
 have e1:(n:Int) / ((2 ^ h:Nat):Int)=((n>>>h:Nat):Int):=by rw [Nat.shiftRight_eq_div_pow];norm_cast
 have e2:((2 ^ h:Nat):Int) - 1=((2 ^ h - 1:Nat):Int):=by have:=Nat.two_pow_pos h;omega
 rw [e1,e2,aO,cJ]
theorem FI (wd:Nat):((wd:Int) + 1) / 2=(((wd + 1) / 2:Nat):Int):=by omega
theorem Hu {n:Nat} (h:n < 2):decide (nat n=V.int 0)= !M.od n:=by
 have:n=0∨n=1:=by omega
 rcases this with rfl | rfl
 ·rw [M.od_zero];decide
 ·rw [show M.od 1=true from M.pb_pow (t:=0) (by decide)];decide
noncomputable def Nl (rows:List Nat) (b:Nat):Prop:=∀ y,M.Span rows y→y≠0→y.log2≠b
noncomputable def LM (C:Addr):Sp:=fun vs H Q _=>∃ (p d f n:Addr) (rows:List Nat) (b:Nat),vs=[.ref p,nat b]∧StA H C p d f n rows∧b < 1000∧(∀ r∈rows,r < 2 ^ 1000)∧(M.fr rows).length < 64∧Nl rows b∧
 ∀ m H2,Same H H2→M.Bar rows b m→Q (nat m) H2
structure Acr (rows:List Nat) (wd:Nat) (ms:List Nat):Prop where
 len:ms.length + (M.fr rows).length=wd
 inj:M.Inj ms
 lt:∀ m∈ms,m < 2 ^ wd
 ev:∀ m∈ms,∀ y,M.Span rows y→M.od (m&&&y)=false
 all:∀ z,z < 2 ^ wd→(∀ y,M.Span rows y→M.od (z&&&y)=false)→M.Span ms z
theorem HV (es:List En):(l7 es).map (·.1)=(es.map fun e=>((e.m.log2:Nat):Int)).map Sum.inl:=by unfold l7;rw [List.map_map,List.map_map];rfl
theorem yT {es:List En} {ns:List Int} (hp:ns.Perm (es.map fun e=>((e.m.log2:Nat):Int))) (hw:ns.Pairwise (·≤·)) (nd:(es.map fun e=>e.m.log2).Nodup):
  ∃ ts:List Nat,ns=ts.map (fun (k:Nat)=>(k:Int))∧ts.Pairwise (· < ·)∧(∀ t,t∈ts↔∃ e∈es,e.m.log2=t):=by
 have hn:∀ x∈ns,((x.toNat:Nat):Int)=x:=fun x hx=>by
  obtain ⟨e,_,rfl⟩:=List.mem_map.mp (hp.mem_iff.mp hx)
  omega
 have e1:ns=(ns.map Int.toNat).map (fun (k:Nat)=>(k:Int)):=by
  rw [List.map_map]
  exact (List.map_id ns).symm.trans (List.map_congr_left fun x hx=>(hn x hx).symm)
 have hp2:(ns.map Int.toNat).Perm (es.map fun e=>e.m.log2):=by
  have:=hp.map Int.toNat
  rw [List.map_map] at this
  exact this
 refine ⟨ns.map Int.toNat,e1,?_,fun t=>?_⟩
 ·have nd2:(ns.map Int.toNat).Nodup:=hp2.nodup_iff.mpr nd
  have hle:(ns.map Int.toNat).Pairwise (·≤·):=by
   rw [List.pairwise_map]
   exact hw.imp fun h=>by omega
  exact List.Pairwise.imp (R:=fun a b=>a≤b∧a≠b) (fun h=>by omega) (List.Pairwise.and hle nd2)
 ·rw [hp2.mem_iff,List.mem_map]
end Sx
namespace M
noncomputable def cm (a b:Nat):Nat:=if b=0 then 0 else (if b % 2=1 then a else 0)^^^2 * cm a (b / 2)
termination_by b
decreasing_by omega
noncomputable def Dv (d x:Nat):Prop:=∃ q,cm q d=x
structure Rm (d x r:Nat):Prop where
 lt:r < 2 ^ d.log2
 dv:Dv d (x^^^r)
end M
namespace Sx
open PySem L2
noncomputable def dg (m:Nat):Int:=(Builtin.Int.intBits (m:Int):Int) - 1
theorem J4 (a p:Nat):(a:Int) * 2 ^ ((p:Int).toNat)=((a * 2 ^ p:Nat):Int):=by rw [Int.toNat_natCast];push_cast;rfl
end Sx
namespace M
structure Ord (d e:Nat):Prop where
 pos:1≤e
 one:Rm d (2 ^ e) 1
 least:∀ j,1≤j→j < e→¬ Rm d (2 ^ j) 1
 le:e≤2 ^ d.log2
end M
namespace Sx
open PySem L2
noncomputable def Eh (k:String):Bool:=subB k "int"&& !subB k "bool"
noncomputable def nB (x:V) (w:Int):Bool:=match x with
 | .int i=>decide (0≤i)&&decide (((Builtin.Int.intBits i:Nat):Int)≤w)
 | _=>false
noncomputable def pI (K:PySem.W.Frag):Sp:=fun vs H Q _=>∃ x k,vs=[x]∧k7 K H x k∧Q (.bl (Eh k)) H
noncomputable def yU (K:PySem.W.Frag):Sp:=fun vs H Q _=>∃ x k w,vs=[x,.int w]∧k7 K H x k∧Q (.bl (nB x w)) H
theorem lv {K:PySem.W.Frag} {H:Hp} {Q:VK} {E:XK} {x:V} {k:String} (hk:k7 K H x k) (q:Q (.bl (Eh k)) H):pI K [x] H Q E:=⟨x,k,rfl,hk,q⟩
theorem rS {K:PySem.W.Frag} {H:Hp} {Q:VK} {E:XK} {x:V} {k:String} {i:Int} (hk:k7 K H x k) (q:Q (.bl (nB x i)) H):yU K [x,.int i] H Q E:=⟨x,k,i,rfl,hk,q⟩
theorem pP {c m:Int} (h:0 < m):∃ k:Nat,c % m=(k:Int)∧(k:Int) < m:=by
 obtain ⟨k,hk⟩:=Int.eq_ofNat_of_zero_le (Int.emod_nonneg c (Int.ne_of_gt h))
 exact ⟨k,hk,by rw [← hk];exact Int.emod_lt_of_pos c h⟩
end Sx
namespace M
noncomputable def bn (b:Bool):Nat:=if b then 1 else 0
noncomputable def pk (s:Nat→Bool) (t:Nat):Nat→Nat
 | 0=>0
 | L + 1=>pk s t L^^^(if s (t + L) then 2 ^ L else 0)
theorem pk_lt (s:Nat→Bool) (t:Nat):∀ L,pk s t L < 2 ^ L
 | 0=>Nat.one_pos
 | L + 1=>by
   have ih:=pk_lt s t L
   refine xor_lt_pow (Nat.lt_of_lt_of_le ih (Nat.pow_le_pow_right (by decide) (by omega))) ?_
   split
   ·exact Nat.pow_lt_pow_right (by decide) (by omega)
   ·exact Nat.two_pow_pos _
theorem EU (s:Nat→Bool) (t:Nat):∀ L p,(pk s t L).testBit p=(decide (p < L)&&s (t + p))
 | 0,p=>by simp [pk]
 | L + 1,p=>by
   rw [pk,Nat.testBit_xor,EU s t L p]
   rcases Nat.lt_trichotomy p L with h | h | h
   ·have e:(if s (t + L)=true then 2 ^ L else 0:Nat).testBit p=false:=by
     cases s (t + L)<;>simp [Nat.testBit_two_pow];omega
    rw [e];simp [h,show p < L + 1 by omega]
   ·subst h
    cases hs:s (t + p)<;>simp [Nat.testBit_two_pow_self]
   ·have e:(if s (t + L)=true then 2 ^ L else 0:Nat).testBit p=false:=by
     cases s (t + L)<;>simp [Nat.testBit_two_pow];omega
    rw [e];simp [show ¬ p < L by omega,show ¬ p < L + 1 by omega]
theorem A9 {s u:Nat→Bool} {t v:Nat}:∀ {L:Nat},(∀ p,p < L→s (t + p)=u (v + p))→pk s t L=pk u v L
 | 0,_=>rfl
 | L + 1,h=>by rw [pk,pk,A9 fun p hp=>h p (by omega),h L (by omega)]
noncomputable def lf (G:Nat):Nat→(Nat→Bool)→Nat→Bool
 | 0,_,_=>false
 | L + 1,s,t=>lf G L s t^^(G.testBit L&&s (t + L))
noncomputable def tr (as:List Nat) (x:Nat):Nat:=pk (fun k=>od (as.getD k 0&&&x)) 0 as.length
noncomputable def stt (as:List Nat) (x:Nat):Nat→Nat
 | 0=>x
 | t + 1=>tr as (stt as x t)
noncomputable def ans (as:List Nat) (o x t:Nat):Bool:=od (o&&&stt as x t)
noncomputable def lm (L G:Nat):List Nat:=(List.range (L - 1)).map (fun p=>2 ^ (p + 1))++(if 0 < L then [G] else [])
end M
namespace Sx
open PySem L2
noncomputable abbrev Pr3:=Addr×Nat×Nat
noncomputable def refs (ps:List Pr3):List V:=ps.map fun q=>V.ref q.1
noncomputable def Prt (H:Hp) (ps:List Pr3):Prop:=∀ q∈ps,H q.1=some (.tup [nat q.2.1,nat q.2.2])
theorem Prt.same {H H2:Hp} {ps:List Pr3} (x:Prt H ps) (s:Same H H2):Prt H2 ps:=fun q h=>s _ _ (x q h)
structure MaA (H:Hp) (C p:Addr) (m:Nat) (nx os:List Pr3):Prop where
 ho:∃ dx tn to,H p=some (.ins C dx [("inputs",nat m),("nexts",.ref tn),("outs",.ref to)])∧H tn=some (.tup (refs nx))∧H to=some (.tup (refs os))
 hn:Prt H nx
 hs:Prt H os
theorem MaA.same {H H2:Hp} {C p:Addr} {m:Nat} {nx os:List Pr3} (x:MaA H C p m nx os) (s:Same H H2):MaA H2 C p m nx os:=
 ⟨let ⟨dx,tn,to,a,b,c⟩:=x.ho;⟨dx,tn,to,s _ _ a,s _ _ b,s _ _ c⟩,x.hn.same s,x.hs.same s⟩
noncomputable def sq (bs:List Bool):Nat→Bool:=fun i=>bs.getD i false
noncomputable def Ep:Sp:=fun vs H Q _=>∃ (r:Addr) (ps:List Nat),vs=[.ref r]∧H r=some (.lst (ps.map nat))∧(∀ p∈ps,p < 1000)∧Q (nat (M.xm ps)) H
noncomputable def GY:Sp:=fun vs H Q _=>∃ (t:Addr) (x y n m:Nat),vs=[.ref t,nat n,nat m]∧H t=some (.tup [nat x,nat y])∧x < 2 ^ n∧y < 2 ^ m∧Q (.bl true) H
structure Tab (H:Hp) (n o:Addr) (m:Nat) (nx os:List Pr3):Prop where
 m6:m≤6
 n:H n=some (.lst (refs nx))
 o:H o=some (.lst (refs os))
 pn:Prt H nx
 po:Prt H os
 ln:nx.length≤120
 lo:os.length≤6
 bn:∀ q∈nx++os,q.2.1 < 2 ^ nx.length∧q.2.2 < 2 ^ m
noncomputable def JY:Sp:=fun vs H Q _=>∃ (n o:Addr) (m:Nat) (nx os:List Pr3),vs=[nat m,.ref n,.ref o]∧Tab H n o m nx os∧∀ H2,Same H H2→Q .non H2
noncomputable def JU (C:Addr):Sp:=fun vs H Q _=>∃ (x dx n o:Addr) (m:Nat) (nx os:List Pr3),vs=[.ref x,nat m,.ref n,.ref o]∧H x=some (.ins C dx [])∧Tab H n o m nx os∧∀ H2,(∀ b ob,b≠x→H b=some ob→H2 b=some ob)→MaA H2 C x m nx os→Q .non H2
noncomputable def Em (C:Addr):Sp:=fun vs H Q _=>∃ (p:Addr) (m:Nat) (nx os:List Pr3),vs=[.ref p]∧MaA H C p m nx os∧Q (nat nx.length) H
structure Lfsr (nx os:List Pr3) (L G:Nat):Prop where
 nx:nx.map (fun q=>q.2.1)=M.lm L G
 os:∃ t,os=[(t,(if 0 < L then 1 else 0),0)]
theorem fE {a n:Nat} (h:a < 2 ^ n):nB (nat a) (n:Int)=true:=by
 have:=AD h
 show (decide ((0:Int)≤(a:Int))&&decide (((Builtin.Int.intBits (a:Int):Nat):Int)≤(n:Int)))=true
 rw [decide_eq_true (by omega),decide_eq_true (by omega)];rfl
theorem JJ {ps:List Nat} {i k:Nat} (h:ps[i]? =some k):M.xm (ps.take (i + 1))=M.xm (ps.take i)^^^2 ^ k:=by rw [take_succ h];unfold M.xm;rw [List.foldl_append];rfl
theorem Lr {w m:Nat} (h:m < 2 ^ w):M.xm (M.pl w m)=m:=M.xm_ext h fun k=>rfl
noncomputable abbrev ms (nx:List Pr3):List Nat:=nx.map fun q=>q.2.1
end Sx
namespace M
noncomputable def tr2 (ps:List (Nat×Nat)) (x r:Nat):Nat:=pk (fun k=>od ((ps.getD k (0,0)).1&&&x)^^od ((ps.getD k (0,0)).2&&&r)) 0 ps.length
theorem jl (ps:List (Nat×Nat)) (x r k:Nat):(tr2 ps x r).testBit k=(decide (k < ps.length)&&(od ((ps.getD k (0,0)).1&&&x)^^od ((ps.getD k (0,0)).2&&&r))):=by unfold tr2;rw [EU,Nat.zero_add]
theorem tM (ps:List (Nat×Nat)) (x r:Nat):tr2 ps x r < 2 ^ ps.length:=pk_lt _ _ _
theorem tr2_snoc (ps:List (Nat×Nat)) (p:Nat×Nat) (x r:Nat):tr2 (ps++[p]) x r=tr2 ps x r^^^(if (od (p.1&&&x)^^od (p.2&&&r)) then 2 ^ ps.length else 0):=by
 unfold tr2
 rw [List.length_append,List.length_singleton,pk,Nat.zero_add]
 have e1:(ps++[p]).getD ps.length (0,0)=p:=by rw [List.getD_eq_getElem?_getD,List.getElem?_append_right (Nat.le_refl _),Nat.sub_self];rfl
 rw [e1]
 have e2:pk (fun k=>od (((ps++[p]).getD k (0,0)).1&&&x)^^od (((ps++[p]).getD k (0,0)).2&&&r)) 0 ps.length=pk (fun k=>od ((ps.getD k (0,0)).1&&&x)^^od ((ps.getD k (0,0)).2&&&r)) 0 ps.length:=A9 fun k hk=>by
  rw [Nat.zero_add,List.getD_eq_getElem?_getD,List.getD_eq_getElem?_getD,List.getElem?_append_left hk]
 rw [e2]
theorem uv (ps:List (Nat×Nat)) (x y r s:Nat):tr2 ps (x^^^y) (r^^^s)=tr2 ps x r^^^tr2 ps y s:=by
 apply Nat.eq_of_testBit_eq;intro i
 rw [Nat.testBit_xor,jl,jl,jl,iW,gK,iW,gK]
 cases decide (i < ps.length)<;>cases od ((ps.getD i (0,0)).1&&&x)<;>cases od ((ps.getD i (0,0)).1&&&y)<;>cases od ((ps.getD i (0,0)).2&&&r)<;>cases od ((ps.getD i (0,0)).2&&&s)<;>rfl
theorem ut (ps:List (Nat×Nat)):tr2 ps 0 0=0:=by
 apply Nat.eq_of_testBit_eq;intro i
 rw [jl,Nat.and_zero,Nat.and_zero,od_zero];simp
noncomputable def wst (ps:List (Nat×Nat)):Nat→List Nat→Nat
 | x,[]=>x
 | x,r::rs=>wst ps (tr2 ps x r) rs
noncomputable def wan (ps os:List (Nat×Nat)):Nat→List Nat→List Nat
 | _,[]=>[]
 | x,r::rs=>tr2 os x r::wan ps os (tr2 ps x r) rs
theorem wst_snoc (ps:List (Nat×Nat)) (r:Nat):∀ (rs:List Nat) (x:Nat),wst ps x (rs++[r])=tr2 ps (wst ps x rs) r
 | [],_=>rfl
 | _::rs,_=>wst_snoc ps r rs _
theorem wan_snoc (ps os:List (Nat×Nat)) (r:Nat):∀ (rs:List Nat) (x:Nat),wan ps os x (rs++[r])=wan ps os x rs++[tr2 os (wst ps x rs) r]
 | [],_=>rfl
 | _::rs,_=>congrArg (_::·) (wan_snoc ps os r rs _)
theorem wan_len (ps os:List (Nat×Nat)):∀ (rs:List Nat) (x:Nat),(wan ps os x rs).length=rs.length
 | [],_=>rfl
 | _::rs,_=>congrArg (· + 1) (wan_len ps os rs _)
theorem wst_lt {ps:List (Nat×Nat)}:∀ {rs:List Nat} {x:Nat},x < 2 ^ ps.length→wst ps x rs < 2 ^ ps.length
 | [],_,h=>h
 | r::rs,x,_=>wst_lt (rs:=rs) (tM ps x r)
theorem xm_snoc (qs:List Nat) (k:Nat):xm (qs++[k])=xm qs^^^2 ^ k:=by unfold xm;rw [List.foldl_append];rfl
theorem Ko {α:Type} {P:List α→Prop} (h0:P []) (h1:∀ l x,P l→P (l++[x])) (l:List α):P l:=by
 have:∀ l:List α,P l.reverse:=fun l=>by
  induction l with
  | nil=>exact h0
  | cons x l ih=>rw [List.reverse_cons];exact h1 _ _ ih
 have:=this l.reverse
 rwa [List.reverse_reverse] at this
theorem E8 (s x r:Nat) (ps:List (Nat×Nat)) (h:ps.length≤1000):od (s&&&tr2 ps x r)=(od (sm (ps.map (·.1)) s&&&x)^^od (sm (ps.map (·.2)) s&&&r)):=by
 induction ps using Ko with
 | h0=>show od (s&&&0)=(od (0&&&x)^^od (0&&&r));rw [Nat.and_zero,Nat.zero_and,Nat.zero_and,od_zero];rfl
 | h1 ps p ih=>
   rw [List.length_append,List.length_singleton] at h
   have ih:=ih (by omega)
   rw [tr2_snoc,iW,gK,ih,List.map_append,List.map_append,List.map_singleton,List.map_singleton,fI,fI,List.length_map,List.length_map]
   generalize hb:(od (p.1&&&x)^^od (p.2&&&r))=b
   have e1:od (s&&&(if b=true then 2 ^ ps.length else 0))=(b&&s.testBit ps.length):=by
    cases b with
    | true=>rw [if_pos rfl,Nat.and_comm,E6 (by omega)];simp
    | false=>rw [if_neg Bool.false_ne_true,Nat.and_zero,od_zero];simp
   rw [e1]
   have e2:∀ u v t:Nat,od ((u^^^v)&&&t)=(od (u&&&t)^^od (v&&&t)):=fun u v t=>by rw [Nat.and_comm,iW,gK,Nat.and_comm,Nat.and_comm t v]
   rw [e2,e2]
   cases s.testBit ps.length with
   | true=>rw [if_pos rfl,if_pos rfl,← hb];cases od (sm (ps.map (·.1)) s&&&x)<;>cases od (sm (ps.map (·.2)) s&&&r)<;>cases od (p.1&&&x)<;>cases od (p.2&&&r)<;>rfl
   | false=>rw [if_neg Bool.false_ne_true,if_neg Bool.false_ne_true,Nat.zero_and,Nat.zero_and,od_zero];cases b<;>simp
theorem pb_half2 (h m:Nat):pb h (m^^^(m>>>h))=pb (h + h) m:=by rw [EX,pJ]
theorem pb_one (m:Nat):(m&&&1:Nat)=bn (pb 1 m):=by
 have e:pb 1 m=m.testBit 0:=by
  have:=pJ 0 1 m
  cases h:m.testBit 0<;>simp [pb,h]<;>simp_all
 rw [e,Nat.and_one_is_mod]
 unfold bn
 rw [Nat.testBit_zero]
 by_cases h:m % 2=1
 ·simp [h]
 ·have h0:m % 2=0:=by omega
  simp [h0]
theorem xor_top {f k:Nat} (h:f < 2 ^ k):f^^^2 ^ k=f + 2 ^ k:=by
 have h1:=or_sum f (2 ^ k)
 have h2:f&&&2 ^ k=0:=by
  apply Nat.eq_of_testBit_eq;intro i
  rw [Nat.testBit_and,Nat.testBit_two_pow]
  by_cases hi:k=i
  ·subst hi;rw [Nat.testBit_lt_two_pow h];simp
  ·simp [hi]
 have h3:=Nat.two_pow_add_eq_or_of_lt h 1
 rw [Nat.mul_one,Nat.or_comm] at h3
 omega
theorem tr2_step {ps:List (Nat×Nat)} {i:Nat} {q:Nat×Nat} (x r:Nat) (h:ps[i]? =some q):tr2 (ps.take (i + 1)) x r=tr2 (ps.take i) x r + (if (od (q.1&&&x)^^od (q.2&&&r)) then 2 ^ i else 0):=by
 have hi:=(List.getElem?_eq_some_iff.mp h).1
 have hl:(ps.take i).length=i:=by rw [List.length_take];omega
 have e:ps.take (i + 1)=ps.take i++[q]:=by rw [List.take_add_one,h];rfl
 rw [e,tr2_snoc,hl]
 have ht:=tM (ps.take i) x r
 rw [hl] at ht
 split
 ·exact xor_top ht
 ·rw [Nat.xor_zero,Nat.add_zero]
noncomputable def pulse (i T:Nat):List Nat:=(List.range T).map fun t=>if t=0 then 2 ^ i else 0
theorem pulse_len (i T:Nat):(pulse i T).length=T:=by unfold pulse;rw [List.length_map,List.length_range]
theorem pulse_snoc (i T:Nat):pulse i (T + 1)=pulse i T++[if T=0 then 2 ^ i else 0]:=by unfold pulse;rw [List.range_succ,List.map_append];rfl
theorem pulse_lt {i m:Nat} (h:i < m) (T:Nat):∀ r∈pulse i T,r < 2 ^ m:=fun r hr=>by
 obtain ⟨t,_,rfl⟩:=List.mem_map.mp hr
 show (if t=0 then 2 ^ i else 0) < 2 ^ m
 split
 ·exact Nat.pow_lt_pow_right (by decide) h
 ·exact Nat.two_pow_pos _
theorem J1 {rows:List Nat} {i r:Nat} (s:Nat) (h:rows[i]? =some r):sm (rows.take (i + 1)) s=sm (rows.take i) s^^^(if s.testBit i then r else 0):=by
 have hi:=(List.getElem?_eq_some_iff.mp h).1
 have e:rows.take (i + 1)=rows.take i++[r]:=by rw [List.take_add_one,h];rfl
 rw [e,fI,List.length_take,Nat.min_eq_left (by omega)]
theorem sm_places (rows:List Nat) (s:Nat) (h:s < 2 ^ rows.length) (w:Nat) (hw:rows.length≤w):(pl w s).foldl (fun a p=>a^^^rows.getD p 0) 0=sm rows s:=by
 rw [pl_up h hw]
 have key:∀ k,k≤rows.length→(pl k s).foldl (fun a p=>a^^^rows.getD p 0) 0=sm (rows.take k) s:=by
  intro k
  induction k with
  | zero=>intro _;rfl
  | succ k ih=>
    intro hk
    have hg:rows[k]? =some (rows.getD k 0):=by rw [List.getD_eq_getElem?_getD,List.getElem?_eq_getElem (by omega)];rfl
    have en:pl (k + 1) s=pl k s++(if s.testBit k then [k] else []):=by
     unfold pl
     rw [List.range_succ,List.filter_append]
     congr 1
     cases hb:s.testBit k<;>simp [hb]
    rw [en,List.foldl_append,ih (by omega),J1 s hg]
    cases s.testBit k<;>simp
 have:=key rows.length (Nat.le_refl _)
 rwa [List.take_length] at this
end M
namespace Sx
open PySem L2
structure MaG (m:Nat) (nx os:List Pr3):Prop where
 m6:m≤6
 ln:nx.length≤120
 lo:os.length≤6
 bn:∀ q∈nx++os,q.2.1 < 2 ^ nx.length∧q.2.2 < 2 ^ m
theorem Tab.same {H H2:Hp} {n o:Addr} {m:Nat} {nx os:List Pr3} (t:Tab H n o m nx os) (s:Same H H2):Tab H2 n o m nx os:=⟨t.m6,s.get t.n,s.get t.o,t.pn.same s,t.po.same s,t.ln,t.lo,t.bn⟩
noncomputable abbrev prs (nx:List Pr3):List (Nat×Nat):=nx.map (·.2)
theorem aG (nx:List Pr3):(prs nx).length=nx.length:=List.length_map ..
theorem EQ {nx:List Pr3} {i:Nat} {q:Pr3} (h:nx[i]? =some q):(prs nx)[i]? =some q.2:=by rw [List.getElem?_map,h];rfl
theorem dQ (nx:List Pr3):(refs nx).length=nx.length:=List.length_map ..
theorem ir {x n:Nat} (h:x < 2 ^ n) (hn:n≤1000):x < 2 ^ 1000:=Nat.lt_of_lt_of_le h (Nat.pow_le_pow_right (by decide) hn)
theorem MaG.b1 {m:Nat} {nx os:List Pr3} (g:MaG m nx os):∀ q∈nx,q.2.1 < 2 ^ 1000∧q.2.2 < 2 ^ 1000:=fun q h=>have:=g.ln;have:=g.m6;have b:=g.bn q (List.mem_append_left _ h);⟨ir b.1 (by omega),ir b.2 (by omega)⟩
theorem MaG.b2 {m:Nat} {nx os:List Pr3} (g:MaG m nx os):∀ q∈os,q.2.1 < 2 ^ 1000∧q.2.2 < 2 ^ 1000:=fun q h=>have:=g.ln;have:=g.m6;have b:=g.bn q (List.mem_append_right _ h);⟨ir b.1 (by omega),ir b.2 (by omega)⟩
noncomputable def Nm (K:PySem.W.Frag) (H:Hp) (xs:List V):Prop:=∀ x∈xs,∃ k,k7 K H x k
theorem vv {x:V} {n:Nat} (h:nB x (n:Int)=true):∃ a:Nat,x=nat a∧a < 2 ^ n:=by
 cases x with
 | int i=>
   have h:(decide ((0:Int)≤i)&&decide (((Builtin.Int.intBits i:Nat):Int)≤(n:Int)))=true:=h
   simp only [Bool.and_eq_true,decide_eq_true_eq] at h
   obtain ⟨a,rfl⟩:=Int.eq_ofNat_of_zero_le h.1
   exact ⟨a,rfl,Nat.lt_of_lt_of_le (AC a) (Nat.pow_le_pow_right (by decide) (by omega))⟩
 | _=>cases h
theorem Ec (x y:Bool):(!decide (V.bl (!x)=V.bl (!y)))=(x^^y):=by cases x<;>cases y<;>rfl
theorem GU {ps:List Pr3} {i:Nat} {q:Pr3} (x y:Nat) (h:ps[i]? =some q):M.tr2 (prs (ps.take (i + 1))) x y=M.tr2 (prs (ps.take i)) x y^^^(if (M.od (q.2.1&&&x)^^M.od (q.2.2&&&y)) then 2 ^ i else 0):=by
 have hl:(prs (ps.take i)).length=i:=by rw [aG];exact AX h
 rw [take_succ h]
 unfold prs at hl ⊢
 rw [List.map_append,List.map_singleton,M.tr2_snoc,hl]
theorem wG {ps:List Pr3} {i:Nat} {q:Pr3} (x y:Nat) (h:ps[i]? =some q):M.tr2 (prs (ps.take (i + 1))) x y=M.tr2 (prs (ps.take i)) x y + (if (M.od (q.2.1&&&x)^^M.od (q.2.2&&&y)) then 2 ^ i else 0):=by
 have:=M.tr2_step x y (EQ h)
 rw [show (prs ps).take (i + 1)=prs (ps.take (i + 1)) from List.map_take.symm,show (prs ps).take i=prs (ps.take i) from List.map_take.symm] at this
 exact this
theorem ny {a b:Nat} (h:nat a=nat b):a=b:=by
 have h:(a:Int)=(b:Int):=V.int.inj h
 omega
noncomputable def G7:Sp:=fun vs H Q _=>∃ (t:Addr) (a b x r:Nat),vs=[.ref t,nat x,nat r]∧H t=some (.tup [nat a,nat b])∧a < 2 ^ 1000∧b < 2 ^ 1000∧Q (.bl (M.od (a&&&x)^^M.od (b&&&r))) H
noncomputable def JT (K:PySem.W.Frag):Sp:=fun vs H Q _=>∃ (r:Addr) (ps:List Pr3) (x y:Nat),vs=[.ref r,nat x,nat y]∧SqT K H r (refs ps)∧Prt H ps∧ps.length≤1000∧(∀ q∈ps,q.2.1 < 2 ^ 1000∧q.2.2 < 2 ^ 1000)∧∀ H2,Same H H2→Q (nat (M.tr2 (prs ps) x y)) H2
noncomputable def LL (K:PySem.W.Frag) (C B:Addr):Sp:=fun vs H Q E=>∃ (p:Addr) (m:Nat) (nx os:List Pr3) (x:V) (k:String),vs=[.ref p,x]∧MaA H C p m nx os∧k7 K H x k∧(nB x nx.length=true→Q .non H)∧(nB x nx.length=false→E (.ref B) none H)
noncomputable def GZ (K:PySem.W.Frag) (C B:Addr):Sp:=fun vs H Q E=>∃ (p:Addr) (m:Nat) (nx os:List Pr3) (x y:V) (kx ky:String),vs=[.ref p,x,y]∧MaA H C p m nx os∧MaG m nx os∧k7 K H x kx∧k7 K H y ky∧
 (∀ a b:Nat,x=nat a→y=nat b→a < 2 ^ nx.length→b < 2 ^ m→∀ (t:Addr) (H2:Hp),Same H H2→H2 t=some (.tup [nat (M.tr2 (prs os) a b),nat (M.tr2 (prs nx) a b)])→Q (.ref t) H2)∧
 (nB x nx.length=false∨nB y m=false→E (.ref B) none H)
structure Og (K:PySem.W.Frag) (H:Hp) (C p rr:Addr) (m:Nat) (nx os:List Pr3) (x:V) (xs:List V):Prop where
 ma:MaA H C p m nx os
 g:MaG m nx os
 kx:∃ k,k7 K H x k
 sq:SqL K H rr xs
 ks:Nm K H xs
 ln:xs.length≤1000
noncomputable def G0 (K:PySem.W.Frag) (C B:Addr):Sp:=fun vs H Q E=>∃ (p:Addr) (m:Nat) (nx os:List Pr3) (x:V) (k:String),vs=[.ref p,x]∧MaA H C p m nx os∧MaG m nx os∧k7 K H x k∧
 (∀ a,x=nat a→a < 2 ^ nx.length→∀ (t:Addr) (H2:Hp),Same H H2→H2 t=some (.tup [nat (M.sm (nx.map fun q=>q.2.1) a),nat (M.sm (nx.map fun q=>q.2.2) a)])→Q (.ref t) H2)∧
 (nB x nx.length=false→E (.ref B) none H)
noncomputable def JQ (C:Addr):Sp:=fun vs H Q _=>∃ (p:Addr) (m:Nat) (nx os:List Pr3),vs=[.ref p]∧MaA H C p m nx os∧MaG m nx os∧
 ∀ (t D1 D2:Addr) (H2:Hp),H D1=none→H D2=none→D1≠D2→Same H H2→H2 t=some (.tup [nat m,.ref D1,.ref D2])→H2 D1=some (.lst (refs nx))→H2 D2=some (.lst (refs os))→Q (.ref t) H2
noncomputable def BM (C:Addr):Sp:=fun vs H Q _=>∃ (p:Addr) (m:Nat) (nx os:List Pr3),vs=[.ref p]∧MaA H C p m nx os∧Q (nat os.length) H
structure TabT (H:Hp) (t n o:Addr) (m:Nat) (nx os:List Pr3):Prop where
 t:H t=some (.tup [nat m,.ref n,.ref o])
 tab:Tab H n o m nx os
theorem TabT.same {H H2:Hp} {t n o:Addr} {m:Nat} {nx os:List Pr3} (x:TabT H t n o m nx os) (s:Same H H2):TabT H2 t n o m nx os:=⟨s.get x.t,x.tab.same s⟩
noncomputable def Et:Sp:=fun vs H Q _=>∃ (c:Int) (st n w:Nat) (dg:Bool),vs=[.int c,nat st,nat n,nat w,.bl dg]∧st≤900∧n≤64∧w≤16∧
 ∀ (D:Addr) (H2:Hp) (ms:List Nat),H D=none→Same H H2→H2 D=some (.lst (ms.map nat))→ms.length=n→(∀ x∈ms,x < 2 ^ w)→Q (.ref D) H2
noncomputable def G2:Sp:=fun vs H Q _=>∃ (r:Addr) (ms:List Nat) (c:Int) (st wy w:Nat),vs=[.ref r,.int c,nat st,nat wy]∧H r=some (.lst (ms.map nat))∧st≤900∧w≤16∧ms.length≤w∧(∀ x∈ms,x < 2 ^ w)∧
 ∀ (D:Addr) (H2:Hp) (ms2:List Nat),H D=none→Same H H2→H2 D=some (.lst (ms2.map nat))→ms2.length=ms.length→(∀ x∈ms2,x < 2 ^ w)→Q (.ref D) H2
noncomputable def G4 (K:PySem.W.Frag):Sp:=fun vs H Q _=>∃ (p:Addr) (ns:List Int) (st mo:Nat),vs=[.ref p,nat st,nat mo]∧SqL K H p (ns.map V.int)∧st≤900∧mo≤16∧
 ∀ (t n o:Addr) (H2:Hp) (m:Nat) (nx os:List Pr3),Same H H2→H n=none→H o=none→TabT H2 t n o m nx os→nx.length≤16→Q (.ref t) H2
noncomputable def JV:Sp:=fun vs H Q _=>∃ n:Nat,vs=[nat n]∧n < 2 ^ 128∧∀ H2,Same H H2→Q (nat (M.bn (M.od n))) H2
noncomputable def G1:Sp:=fun vs H Q _=>∃ (t n o:Addr) (m:Nat) (nx os:List Pr3) (x r:Nat),vs=[.ref t,nat x,nat r]∧TabT H t n o m nx os∧x < 2 ^ 128∧r < 2 ^ 128∧
 ∀ (t2:Addr) (H2:Hp),Same H H2→H2 t2=some (.tup [nat (M.tr2 (prs os) x r),nat (M.tr2 (prs nx) x r)])→Q (.ref t2) H2
noncomputable def BN:Sp:=fun vs H Q _=>∃ (t n o:Addr) (m:Nat) (nx os:List Pr3) (i T:Nat),vs=[.ref t,nat i,nat T]∧TabT H t n o m nx os∧i < 100∧T≤900∧
 ∀ (D:Addr) (H2:Hp),H D=none→Same H H2→H2 D=some (.lst ((M.wan (prs nx) (prs os) 0 (M.pulse i T)).map nat))→Q (.ref D) H2
theorem EA {i k:Nat} (h:([64,32,16,8,4,2,1]:List Nat)[i]? =some k):i < 7∧k=2 ^ (6 - i):=by
 have hi:=(List.getElem?_eq_some_iff.mp h).1
 have hi:i < 7:=hi
 refine ⟨hi,?_⟩
 match i,hi with
 | 0,_ | 1,_ | 2,_ | 3,_ | 4,_ | 5,_ | 6,_=>exact (Option.some.inj h).symm
theorem Jy (x y:Bool):(((M.bn x:Nat):Int) + ((M.bn y:Nat):Int)) % 2=((M.bn (x^^y):Nat):Int):=by cases x<;>cases y<;>rfl
theorem Jx (b:Bool) (i:Nat):((M.bn b:Nat):Int) * 2 ^ ((i:Int).toNat)=((if b=true then 2 ^ i else 0:Nat):Int):=by
 cases b
 ·rw [if_neg Bool.false_ne_true];exact Int.zero_mul _
 ·rw [if_pos rfl];exact shl1 i
theorem mj {H H2:Hp} {D:Addr} (s:Same H H2) (f:H2 D=none):H D=none:=by
 cases hx:H D with
 | none=>rfl
 | some v=>have:=s _ _ hx;rw [f] at this;cases this
theorem Eb {H:Hp} {ps:List Addr} {m1 m2:List Nat} (l:m1.length=m2.length) (lp:ps.length=(m1.map nat).length) (h:∀ (j:Nat) (p:Addr) (x y:V),ps[j]? =some p→(m1.map nat)[j]? =some x→(m2.map nat)[j]? =some y→H p=some (.tup [x,y])):
  ∃ nx:List Pr3,refs nx=ps.map V.ref∧Prt H nx∧nx.length=m1.length∧∀ q∈nx,q.2.1∈m1∧q.2.2∈m2:=by
 rw [List.length_map] at lp
 refine ⟨ps.zip (m1.zip m2),?_,fun q hq=>?_,?_,fun q hq=>?_⟩
 ·unfold refs
  have:(ps.zip (m1.zip m2)).map (fun q=>V.ref q.1)=((ps.zip (m1.zip m2)).map Prod.fst).map V.ref:=by rw [List.map_map];rfl
  rw [this,List.map_fst_zip (by rw [List.length_zip];omega)]
 ·obtain ⟨j,hj⟩:=List.mem_iff_getElem?.mp hq
  obtain ⟨h1,h2⟩:=List.getElem?_zip_eq_some.mp hj
  obtain ⟨h3,h4⟩:=List.getElem?_zip_eq_some.mp h2
  exact h j q.1 _ _ h1 (by rw [List.getElem?_map,h3];rfl) (by rw [List.getElem?_map,h4];rfl)
 ·rw [List.length_zip,List.length_zip];omega
 ·obtain ⟨j,hj⟩:=List.mem_iff_getElem?.mp hq
  obtain ⟨h1,h2⟩:=List.getElem?_zip_eq_some.mp hj
  obtain ⟨h3,h4⟩:=List.getElem?_zip_eq_some.mp h2
  exact ⟨List.mem_of_getElem? h3,List.mem_of_getElem? h4⟩
noncomputable def zn (q:Pr3):Dt:= .tup [.int q.2.1,.int q.2.2]
noncomputable def tabD (m:Nat) (nx os:List Pr3):Dt:= .tup [.int m,.lst (nx.map zn),.lst (os.map zn)]
theorem rep2 {K:PySem.W.Frag} {H:Hp} {p:Addr} {i j:Int} (e:H p=some (.tup [.int i,.int j])):Rep K H (.ref p) (.tup [.int i,.int j]):=by
 refine .tup (SqT.of e) rfl fun k x d hx hd=>?_
 match k,hx,hd with
 | 0,hx,hd=>cases hx;cases hd;exact .int _
 | 1,hx,hd=>cases hx;cases hd;exact .int _
 | k + 2,hx,_=>simp at hx
theorem wP {K:PySem.W.Frag} {H:Hp} {D:Addr} {l:List Pr3} (e:H D=some (.lst (refs l))) (pt:Prt H l):Rep K H (.ref D) (.lst (l.map zn)):=by
 refine .lst (SqL.of e) (by unfold refs;rw [List.length_map,List.length_map]) fun k x d hx hd=>?_
 obtain ⟨q,hq,rfl⟩:=aK hx
 rw [List.getElem?_map,hq] at hd
 cases hd
 exact rep2 (pt q (List.mem_of_getElem? hq))
theorem uI {K:PySem.W.Frag} {H:Hp} {t n o:Addr} {m:Nat} {nx os:List Pr3} (et:H t=some (.tup [nat m,.ref n,.ref o])) (en:H n=some (.lst (refs nx))) (eo:H o=some (.lst (refs os))) (pn:Prt H nx) (po:Prt H os):Rep K H (.ref t) (tabD m nx os):=by
 refine .tup (SqT.of et) rfl fun k x d hx hd=>?_
 match k,hx,hd with
 | 0,hx,hd=>cases hx;cases hd;exact .int _
 | 1,hx,hd=>cases hx;cases hd;exact wP en pn
 | 2,hx,hd=>cases hx;cases hd;exact wP eo po
 | k + 3,hx,_=>simp at hx
theorem rj:∀ l:List Pr3,hX (l.map zn)≤1
 | []=>by simp [hX]
 | q::l=>by
   have:=rj l
   rw [List.map_cons,hX]
   have e:depD (zn q)=1:=by simp [zn,depD,hX]
   omega
theorem FT (m:Nat) (nx os:List Pr3):depD (tabD m nx os)≤100:=by
 have h1:=rj nx
 have h2:=rj os
 unfold tabD
 simp only [depD,hX]
 omega
theorem uF (m k:Nat):(m:Int) / 2 ^ ((k:Int).toNat)=((m>>>k:Nat):Int):=by rw [Int.toNat_natCast,uL,Nat.shiftRight_eq_div_pow];norm_cast
theorem lK {x n:Nat} (h:x < 2 ^ n) (hn:n≤128):x < 2 ^ 128:=Nat.lt_of_lt_of_le h (Nat.pow_le_pow_right (by decide) hn)
end Sx
namespace M
noncomputable def pkw (w:Nat):List Nat→Nat
 | []=>0
 | p::ps=>p^^^(pkw w ps <<< w)
noncomputable def bkI (A:List Nat) (s:Nat):Nat→Nat
 | 0=>s
 | i + 1=>sm A (bkI A s i)
theorem Go (A:List Nat) (s:Nat):∀ i,bkI A (sm A s) i=bkI A s (i + 1)
 | 0=>rfl
 | i + 1=>congrArg (sm A) (Go A s i)
theorem Eg (ps:List (Nat×Nat)):∀ (rs qs:List Nat) (x y:Nat),rs.length=qs.length→wst ps (x^^^y) (List.zipWith (·^^^·) rs qs)=wst ps x rs^^^wst ps y qs
 | [],[],_,_,_=>rfl
 | r::rs,q::qs,x,y,h=>by
   show wst ps (tr2 ps (x^^^y) (r^^^q)) (List.zipWith (·^^^·) rs qs)=wst ps (tr2 ps x r) rs^^^wst ps (tr2 ps y q) qs
   rw [uv,Eg ps rs qs _ _ (by simpa using h)]
end M
namespace Sx
open PySem L2
noncomputable abbrev nA (nx:List Pr3):List Nat:=nx.map fun q=>q.2.1
theorem EH {K:PySem.W.Frag} {H:Hp} {α:Type} (f:α→V) (g:α→Dt) (r:∀ x,Rep K H (f x) (g x)) (xs:List α):∀ (i:Nat) x d,(xs.map f)[i]? =some x→(xs.map g)[i]? =some d→Rep K H x d:=by
 intro i x d h1 h2
 rw [List.getElem?_map] at h1 h2
 cases e:xs[i]? with
 | none=>rw [e] at h1;cases h1
 | some y=>rw [e] at h1 h2;cases h1;cases h2;exact r y
end Sx
namespace M
noncomputable def stj (ps:List (Nat×Nat)):List Nat→Nat→List Nat
 | S,0=>S
 | S,j + 1=>(stj ps S j).map fun x=>tr2 ps x 0
noncomputable def sg0 (ps:List (Nat×Nat)) (m:Nat):List Nat:=(List.range m).map fun w=>tr2 ps 0 (2 ^ w)
noncomputable def rch (ps:List (Nat×Nat)) (m:Nat):Nat→List Nat
 | 0=>[]
 | T + 1=>stj ps (sg0 ps m) T++rch ps m T
theorem stj_len (ps:List (Nat×Nat)) (S:List Nat):∀ j,(stj ps S j).length=S.length
 | 0=>rfl
 | j + 1=>by show ((stj ps S j).map _).length=_;rw [List.length_map,stj_len ps S j]
theorem sg0_len (ps:List (Nat×Nat)) (m:Nat):(sg0 ps m).length=m:=by unfold sg0;rw [List.length_map,List.length_range]
theorem rch_len (ps:List (Nat×Nat)) (m:Nat):∀ T,(rch ps m T).length=T * m
 | 0=>by show 0=0 * m;rw [Nat.zero_mul]
 | T + 1=>by show (stj ps (sg0 ps m) T++rch ps m T).length=_;rw [List.length_append,stj_len,sg0_len,rch_len ps m T,Nat.add_mul,Nat.one_mul,Nat.add_comm]
theorem stj_lt (ps:List (Nat×Nat)) (m:Nat):∀ j,∀ x∈stj ps (sg0 ps m) j,x < 2 ^ ps.length
 | 0,x,h=>by obtain ⟨w,_,rfl⟩:=List.mem_map.mp h;exact tM _ _ _
 | j + 1,x,h=>by obtain ⟨y,_,rfl⟩:=List.mem_map.mp h;exact tM _ _ _
theorem rch_lt (ps:List (Nat×Nat)) (m:Nat):∀ T,∀ x∈rch ps m T,x < 2 ^ ps.length
 | 0,x,h=>absurd h (by simp [rch])
 | T + 1,x,h=>(List.mem_append.mp h).elim (stj_lt ps m T x) (rch_lt ps m T x)
theorem AW (ps:List (Nat×Nat)):∀ (rows:List Nat) (F:Nat),tr2 ps (sm rows F) 0=sm (rows.map fun x=>tr2 ps x 0) F
 | [],F=>ut ps
 | r::rows,F=>by
   show tr2 ps ((if F.testBit 0 then r else 0)^^^sm rows (F / 2)) 0=(if F.testBit 0 then tr2 ps r 0 else 0)^^^sm (rows.map fun x=>tr2 ps x 0) (F / 2)
   have e:=uv ps (if F.testBit 0 then r else 0) (sm rows (F / 2)) 0 0
   rw [Nat.xor_self] at e
   rw [e,AW ps rows]
   cases F.testBit 0<;>simp [ut]
theorem uu (ps:List (Nat×Nat)) (r:Nat):∀ m,r < 2 ^ m→tr2 ps 0 r=sm (sg0 ps m) r
 | 0,h=>by have:r=0:=by have:r < 1:=h;omega
           rw [this,ut];rfl
 | m + 1,h=>by
   have es:sg0 ps (m + 1)=sg0 ps m++[tr2 ps 0 (2 ^ m)]:=by unfold sg0;rw [List.range_succ,List.map_append];rfl
   rw [es,fI,sg0_len]
   by_cases hb:r.testBit m=true
   ·have hlt:r^^^2 ^ m < 2 ^ m:=by
     apply Nat.lt_pow_two_of_testBit
     intro i hi
     rw [Nat.testBit_xor,Nat.testBit_two_pow]
     by_cases e:m=i
     ·subst e;rw [hb];simp
     ·rw [Nat.testBit_lt_two_pow (Nat.lt_of_lt_of_le h (Nat.pow_le_pow_right (by decide) (by omega)))];simp [e]
    have ih:=uu ps (r^^^2 ^ m) m hlt
    have e1:sm (sg0 ps m) r=sm (sg0 ps m) (r^^^2 ^ m):=by
     have:sm (sg0 ps m) (2 ^ m)=0:=by
      have h1:=fI (sg0 ps m) 0 (2 ^ m)
      have h2:=IS (sg0 ps m) 0
      rw [sg0_len] at h2
      rw [h2] at h1
      simpa using h1.symm
     rw [sm_xor,this,Nat.xor_zero]
    rw [if_pos hb,e1,← ih]
    have e2:=uv ps 0 0 (r^^^2 ^ m) (2 ^ m)
    rw [Nat.xor_self,bf] at e2
    exact e2
   ·have hlt:r < 2 ^ m:=by
     apply Nat.lt_pow_two_of_testBit
     intro i hi
     by_cases e:i=m
     ·subst e;simpa using hb
     ·exact Nat.testBit_lt_two_pow (Nat.lt_of_lt_of_le h (Nat.pow_le_pow_right (by decide) (by omega)))
    rw [if_neg hb,Nat.xor_zero,uu ps r m hlt]
theorem IT:∀ (as bs:List Nat) (s:Nat),sm (as++bs) s=sm as s^^^sm bs (s>>>as.length)
 | [],bs,s=>by show sm bs s=0^^^sm bs (s>>>0);rw [Nat.zero_xor,Nat.shiftRight_zero]
 | a::as,bs,s=>by
   show (if s.testBit 0 then a else 0)^^^sm (as++bs) (s / 2)=(if s.testBit 0 then a else 0)^^^sm as (s / 2)^^^sm bs (s>>>(as.length + 1))
   rw [IT as bs (s / 2),Nat.xor_assoc,Nat.shiftRight_succ_inside]
theorem Ey:∀ (as:List Nat) (P:Nat),sm as (P <<< as.length)=0
 | [],_=>rfl
 | a::as,P=>by
   show (if (P <<< (as.length + 1)).testBit 0 then a else 0)^^^sm as ((P <<< (as.length + 1)) / 2)=0
   have e1:(P <<< (as.length + 1)).testBit 0=false:=by rw [Nat.testBit_shiftLeft];simp
   have e2:(P <<< (as.length + 1)) / 2=P <<< as.length:=by rw [Nat.shiftLeft_succ];omega
   rw [e1,e2,Ey as P];simp
theorem Cb {w r P:Nat} (h:r < 2 ^ w):(r^^^(P <<< w))>>>w=P:=by
 apply Nat.eq_of_testBit_eq;intro i
 rw [Nat.testBit_shiftRight,Nat.testBit_xor,Nat.testBit_shiftLeft,Nat.testBit_lt_two_pow (Nat.lt_of_lt_of_le h (Nat.pow_le_pow_right (by decide) (by omega)))]
 simp
noncomputable def zs (ps:List (Nat×Nat)) (x:Nat):Nat→Nat
 | 0=>x
 | n + 1=>tr2 ps (zs ps x n) 0
theorem II (ps:List (Nat×Nat)) (x:Nat):∀ n,wst ps x (List.replicate n 0)=zs ps x n
 | 0=>rfl
 | n + 1=>by rw [List.replicate_succ',wst_snoc,II ps x n];rfl
theorem IP (ps:List (Nat×Nat)) (S:List Nat) (F:Nat):∀ n,sm (stj ps S n) F=zs ps (sm S F) n
 | 0=>rfl
 | n + 1=>by show sm ((stj ps S n).map fun x=>tr2 ps x 0) F=tr2 ps (zs ps (sm S F) n) 0;rw [← AW,IP ps S F n]
theorem Ef (ps:List (Nat×Nat)) (x:Nat) (rs:List Nat):wst ps x rs=zs ps x rs.length^^^wst ps 0 rs:=by
 have e:=Eg ps (List.replicate rs.length 0) rs x 0 (by rw [List.length_replicate])
 have ez:List.zipWith (·^^^·) (List.replicate rs.length 0) rs=rs:=by
  apply List.ext_getElem
  ·rw [List.length_zipWith,List.length_replicate,Nat.min_self]
  ·intro i h1 h2
   rw [List.getElem_zipWith,List.getElem_replicate,Nat.zero_xor]
 rw [ez,Nat.xor_zero,II] at e
 exact e
theorem A4 (ps:List (Nat×Nat)) (m:Nat):∀ rs:List Nat,(∀ r∈rs,r < 2 ^ m)→wst ps 0 rs=sm (rch ps m rs.length) (pkw m rs)
 | [],_=>rfl
 | r::rs,h=>by
   have ih:=A4 ps m rs fun x hx=>h x (List.mem_cons_of_mem _ hx)
   have hr:=h r (List.mem_cons_self ..)
   show wst ps (tr2 ps 0 r) rs=sm (stj ps (sg0 ps m) rs.length++rch ps m rs.length) (r^^^(pkw m rs <<< m))
   have hl:(stj ps (sg0 ps m) rs.length).length=m:=by rw [stj_len,sg0_len]
   rw [Ef,ih,IT,hl,Cb hr,sm_xor]
   have e0:=Ey (stj ps (sg0 ps m) rs.length) (pkw m rs)
   rw [hl] at e0
   rw [e0,Nat.xor_zero,IP,← uu ps r m hr]
noncomputable def upk (w q T:Nat):List Nat:=(List.range T).map fun t=>(q>>>(t * w))&&&(2 ^ w - 1)
theorem upk_len (w q T:Nat):(upk w q T).length=T:=by unfold upk;rw [List.length_map,List.length_range]
theorem upk_lt (w q T:Nat):∀ r∈upk w q T,r < 2 ^ w:=fun r hr=>by
 obtain ⟨t,_,rfl⟩:=List.mem_map.mp hr
 have:=Nat.two_pow_pos w
 exact Nat.lt_of_le_of_lt Nat.and_le_right (by omega)
theorem GT (w q T:Nat):upk w q (T + 1)=(q&&&(2 ^ w - 1))::upk w (q>>>w) T:=by
 unfold upk
 rw [List.range_succ_eq_map,List.map_cons,List.map_map,Nat.zero_mul,Nat.shiftRight_zero]
 congr 1
 apply List.map_congr_left
 intro t _
 show (q>>>((t + 1) * w))&&&_=(q>>>w>>>(t * w))&&&_
 rw [← Nat.shiftRight_add,Nat.add_mul,Nat.one_mul,Nat.add_comm]
theorem ET (w:Nat):∀ (T q:Nat),q < 2 ^ (T * w)→pkw w (upk w q T)=q
 | 0,q,h=>by rw [Nat.zero_mul] at h;have:q=0:=by have:q < 1:=h;omega
             rw [this];rfl
 | T + 1,q,h=>by
   rw [GT]
   show (q&&&(2 ^ w - 1))^^^(pkw w (upk w (q>>>w) T) <<< w)=q
   rw [ET w T (q>>>w) (by rw [Nat.shiftRight_eq_div_pow,Nat.div_lt_iff_lt_mul (Nat.two_pow_pos _),← Nat.pow_add];rw [Nat.add_mul,Nat.one_mul] at h;exact h)]
   apply Nat.eq_of_testBit_eq;intro i
   rw [Nat.testBit_xor,Nat.testBit_and,Nat.testBit_shiftLeft,Nat.testBit_shiftRight,Nat.testBit_two_pow_sub_one]
   by_cases hi:i < w
   ·simp [hi,show ¬ w≤i by omega]
   ·simp [hi,show w≤i by omega,show w + (i - w)=i by omega]
theorem MH (ps:List (Nat×Nat)) (hl:ps.length≤1000) (y:Nat):∀ (j s:Nat),od (s&&&zs ps y j)=od (bkI (ps.map (·.1)) s j&&&y)
 | 0,_=>rfl
 | j + 1,s=>by
   show od (s&&&tr2 ps (zs ps y j) 0)=_
   rw [E8 s _ 0 ps hl,Nat.and_zero,od_zero,Bool.xor_false,MH ps hl y j,Go]
theorem Ek (ps:List (Nat×Nat)) (m w:Nat) (hw:w < m):∀ j,zs ps (tr2 ps 0 (2 ^ w)) j∈stj ps (sg0 ps m) j
 | 0=>List.mem_map.mpr ⟨w,List.mem_range.mpr hw,rfl⟩
 | j + 1=>List.mem_map.mpr ⟨_,Ek ps m w hw j,rfl⟩
theorem EI (ps:List (Nat×Nat)) (m:Nat) {j:Nat} {x:Nat} (h:x∈stj ps (sg0 ps m) j):∀ {T},j < T→x∈rch ps m T
 | T + 1,hj=>by
   by_cases e:j=T
   ·subst e;exact List.mem_append_left _ h
   ·exact List.mem_append_right _ (EI ps m h (by omega))
end M
namespace Sx
open PySem L2
structure Sumd (rows:List Nat) (x q:Nat):Prop where
 lt:q < 2 ^ rows.length
 sm:M.sm rows q=x
 fr:M.Frs rows q
structure Bard (rows:List Nat) (x m:Nat):Prop where
 ns:¬ M.Span rows x
 bar:∃ y,M.Span rows y∧x^^^y≠0∧Nl rows (x^^^y).log2∧M.Bar rows (x^^^y).log2 m
 ev:∀ y,M.Span rows y→M.od (m&&&y)=false
 odd:M.od (m&&&x)=true
 lt:∀ W,(∀ r∈rows,r < 2 ^ W)→x < 2 ^ W→m < 2 ^ W
noncomputable def BL:Sp:=fun vs H Q _=>∃ (r:Addr) (rows:List Nat) (x:Nat),vs=[.ref r,nat x]∧H r=some (.lst (rows.map nat))∧rows.length≤1000∧(∀ r∈rows,r < 2 ^ 1000)∧x < 2 ^ 1000∧(M.Span rows x∨(M.fr rows).length < 64)∧
 (∀ (t D:Addr) (H2:Hp) (q:Nat),H D=none→Same H H2→H2 t=some (.tup [.str "sum",.ref D])→H2 D=some (.lst ((M.pl 1000 q).map nat))→Sumd rows x q→Q (.ref t) H2)∧
 (∀ (t:Addr) (H2:Hp) (m:Nat),Same H H2→H2 t=some (.tup [.str "no",nat m])→Bard rows x m→Q (.ref t) H2)
noncomputable def El:Sp:=fun vs H Q _=>∃ (q wd T:Nat),vs=[nat q,nat wd,nat T]∧wd≤1000∧T≤1000∧∀ (D:Addr) (H2:Hp),H D=none→Same H H2→H2 D=some (.lst ((M.upk wd q T).map nat))→Q (.ref D) H2
noncomputable def GX (C:Addr):Sp:=fun vs H Q _=>∃ (p:Addr) (m:Nat) (nx os:List Pr3) (T:Nat),vs=[.ref p,nat T]∧MaA H C p m nx os∧MaG m nx os∧T≤100∧∀ (D:Addr) (H2:Hp),H D=none→Same H H2→H2 D=some (.lst ((M.rch (prs nx) m T).map nat))→Q (.ref D) H2
noncomputable def Eo (C:Addr):Sp:=fun vs H Q _=>∃ (p D:Addr) (m:Nat) (nx os:List Pr3) (q T:Nat),vs=[.ref p,.ref D,nat T]∧MaA H C p m nx os∧MaG m nx os∧H D=some (.lst ((M.pl 1000 q).map nat))∧q < 2 ^ 1000∧T≤1000∧∀ (D2:Addr) (H2:Hp),H D2=none→Same H H2→H2 D2=some (.lst ((M.upk m q T).map nat))→Q (.ref D2) H2
end Sx
namespace L2
open PySem
end L2
namespace Sx
open PySem L2
noncomputable def natD (n:Nat):Dt:= .int n
theorem Bl:∀ ns:List Nat,hX (ns.map natD)=0
 | []=>rfl
 | n::ns=>by rw [List.map_cons,hX,Bl ns];rfl
theorem Hf {K:PySem.W.Frag} {H:Hp} {D:Addr} {ns:List Nat} (e:H D=some (.lst (ns.map nat))):Rep K H (.ref D) (.lst (ns.map natD)):= .lst (SqL.of e) (by rw [List.length_map,List.length_map]) (EH nat natD (fun n=> .int n) ns)
noncomputable def TupV (K:PySem.W.Frag) (H:Hp) (y:V):Option (List V)→Prop
 | some xs=>∃ r,y= .ref r∧SqT K H r xs∧Nm K H xs
 | none=>∃ k,k7 K H y k∧k≠"tuple"
noncomputable def NW (n m:Nat):Option (List V)→Bool
 | some [x,y]=>nB x n&&nB y m
 | _=>false
noncomputable abbrev It2:=V×Option (List V)
noncomputable def LstV (K:PySem.W.Frag) (H:Hp) (y:V):Option (List It2)→Prop
 | some zs=>∃ r,y= .ref r∧H r=some (.lst (zs.map (·.1)))∧∀ z∈zs,TupV K H z.1 z.2
 | none=>∃ k,k7 K H y k∧k≠"list"
noncomputable def tabB (x:V) (on oo:Option (List It2)):Bool:=match x,on,oo with
 | .int i,some zs,some ws=>decide (0≤i)&&decide (i≤6)&&decide (zs.length≤120)&&decide (ws.length≤6)&&(zs++ws).all fun z=>NW zs.length i.toNat z.2
 | _,_,_=>false
end Sx
namespace L2
open PySem
end L2
namespace Sx
open PySem L2
structure BadT (K:PySem.W.Frag) (H:Hp) (x y z:V):Prop where
 ex:∃ k on oo,k7 K H x k∧LstV K H y on∧LstV K H z oo∧tabB x on oo=false
end Sx
namespace L2
open PySem
end L2
namespace Sx
open PySem L2
end Sx
namespace M
structure Fst (ms:List Nat) (p:Nat):Prop where
 lt:p < ms.length
 out:∀ k,k < p→¬ Span (ms.take k) (ms.getD k 0)
 in_:Span (ms.take p) (ms.getD p 0)
theorem Jn {ms:List Nat}:∀ j,j≤ms.length→(∀ k,k < j→¬ Span (ms.take k) (ms.getD k 0))→(fr (ms.take j)).length=j
 | 0,_,_=>by have:=fr_len (ms.take 0);simpa using this
 | j + 1,hj,h=>by
   have e:ms.take (j + 1)=ms.take j++[ms.getD j 0]:=by
    rw [List.take_succ,List.getElem?_eq_getElem (by omega),List.getD_eq_getElem?_getD,List.getElem?_eq_getElem (by omega)];rfl
   rw [e,fr_out (h j (Nat.lt_succ_self j)),List.length_append,Jn j (by omega) (fun k hk=>h k (by omega))]
   rfl
theorem Aw {ms:List Nat} {n j:Nat} (hb:∀ x∈ms,x < 2 ^ n) (hj:j≤ms.length) (h:∀ k,k < j→¬ Span (ms.take k) (ms.getD k 0)):j≤n:=by
 rw [← Jn j hj h]
 exact EK fun r hr=>hb r (List.mem_of_mem_take hr)
noncomputable def zl (ps:List (Nat×Nat)) (d n:Nat):List Nat:=(List.range (n + 1)).map (zs ps d)
theorem Ea (ps:List (Nat×Nat)) (d n:Nat):(zl ps d n).length=n + 1:=by unfold zl;rw [List.length_map,List.length_range]
theorem AS {ps:List (Nat×Nat)} {d n k:Nat} (h:k≤n):(zl ps d n)[k]? =some (zs ps d k):=by
 unfold zl
 rw [List.getElem?_map,List.getElem?_range (by omega)]
 rfl
theorem JF {ps:List (Nat×Nat)} {d n k:Nat} (h:k≤n):(zl ps d n).getD k 0=zs ps d k:=by rw [List.getD_eq_getElem?_getD,AS h];rfl
theorem zs_lt {ps:List (Nat×Nat)} {d:Nat} (h:d < 2 ^ ps.length):∀ k,zs ps d k < 2 ^ ps.length
 | 0=>h
 | k + 1=>tM _ _ _
theorem Nt {ps:List (Nat×Nat)} {d n:Nat} (h:d < 2 ^ ps.length):∀ x∈zl ps d n,x < 2 ^ ps.length:=fun x hx=>by
 obtain ⟨k,_,rfl⟩:=List.mem_map.mp hx
 exact zs_lt h k
theorem yX {rows:List Nat}:∀ (rs:List Nat),(∀ x∈rs,Span rows x)→∀ F,Span rows (sm rs F)
 | [],_,_=>lE rows
 | r::rs,h,F=>by
   show Span rows ((if F.testBit 0 then r else 0)^^^sm rs (F / 2))
   refine span_xor ?_ (yX rs (fun x hx=>h x (List.mem_cons_of_mem _ hx)) (F / 2))
   split
   ·exact h r List.mem_cons_self
   ·exact lE rows
theorem JE {ps:List (Nat×Nat)} {d n p:Nat} (F:Fst (zl ps d n) p):∀ t,Span ((zl ps d n).take p) (zs ps d t):=by
 have hp:p≤n:=by have:=F.lt;rw [Ea] at this;omega
 have hin:=F.in_
 rw [JF hp] at hin
 have hmem:∀ k,k < p→Span ((zl ps d n).take p) (zs ps d k):=fun k hk=>jV (List.mem_of_getElem? (i:=k) (by rw [List.getElem?_take_of_lt hk];exact AS (by omega)))
 intro t
 induction t with
 | zero=>
   by_cases h0:p=0
   ·subst h0;exact hin
   ·exact hmem 0 (by omega)
 | succ t ih=>
   obtain ⟨G,_,hG⟩:=gf ih
   show Span _ (tr2 ps (zs ps d t) 0)
   rw [← hG,AW]
   refine yX _ (fun x hx=>?_) G
   obtain ⟨y,hy,rfl⟩:=List.mem_map.mp hx
   obtain ⟨k,hk⟩:=List.getElem?_of_mem hy
   have hkp:k < p:=by
    have:=(List.getElem?_eq_some_iff.mp hk).1
    rw [List.length_take] at this
    omega
   rw [List.getElem?_take_of_lt hkp,AS (by omega)] at hk
   cases hk
   show Span _ (zs ps d (k + 1))
   by_cases h1:k + 1 < p
   ·exact hmem _ h1
   ·have:k + 1=p:=by omega
    rw [this];exact hin
end M
namespace Sx
open PySem L2
noncomputable def cps (p q k:Nat):List Nat:=if k + 1 < p then [k + 1] else M.pl 1000 q
structure ChS (H:Hp) (S:Addr) (p q:Nat) (rs:List Addr):Prop where
 at_:H S=some (.lst (rs.map V.ref))
 len:rs.length=p
 get:∀ (k:Nat) (r:Addr),rs[k]? =some r→H r=some (.lst ((cps p q k).map nat))
structure ChT (H:Hp) (D S:Addr) (ms:List Nat) (p q:Nat):Prop where
 fs:M.Fst ms p
 sd:Sumd (ms.take p) (ms.getD p 0) q
 d:H D=some (.lst ((ms.take p).map nat))
 s:∃ rs,ChS H S p q rs
structure LA (K:PySem.W.Frag) (H:Hp) (t n o rr:Addr) (m:Nat) (nx os:List Pr3) (rs:List Nat) (a b:Nat):Prop where
 tt:TabT H t n o m nx os
 sq:SqL K H rr (rs.map nat)
 lr:rs.length=20
 br:∀ r∈rs,r < 2 ^ m
 ln:nx.length≤16
 ha:a < 2 ^ nx.length
 hb:b < 2 ^ nx.length
structure ApA (H:Hp) (f:Addr) (nx os:List Pr3) (d k ans:Nat):Prop where
 f:H f=some (.tup [.str "apart",nat k,nat ans.log2])
 hk:k < nx.length
 an:ans=M.tr2 (prs os) (M.zs (prs nx) d k) 0
 ne:ans≠0
 qu:∀ j,j < k→M.tr2 (prs os) (M.zs (prs nx) d j) 0=0
structure ApL (H:Hp) (f D S:Addr) (nx os:List Pr3) (d p q:Nat):Prop where
 f:H f=some (.tup [.str "alike",.ref D,.ref S])
 ct:ChT H D S (M.zl (prs nx) d nx.length) p q
 qu:∀ j,j < p→M.tr2 (prs os) (M.zs (prs nx) d j) 0=0
end Sx
namespace M
noncomputable def bl (A:List Nat) (s n:Nat):List Nat:=(List.range (n + 1)).map (bkI A s)
theorem Gn (A:List Nat) (s n:Nat):(bl A s n).length=n + 1:=by unfold bl;rw [List.length_map,List.length_range]
theorem Br {A:List Nat} {s n k:Nat} (h:k≤n):(bl A s n)[k]? =some (bkI A s k):=by
 unfold bl
 rw [List.getElem?_map,List.getElem?_range (by omega)]
 rfl
theorem K8 {A:List Nat} {s n k:Nat} (h:k≤n):(bl A s n).getD k 0=bkI A s k:=by rw [List.getD_eq_getElem?_getD,Br h];rfl
theorem bkI_lt {A:List Nat} {s w:Nat} (hA:∀ x∈A,x < 2 ^ w) (h:s < 2 ^ w):∀ k,bkI A s k < 2 ^ w
 | 0=>h
 | k + 1=>sm_lt _ hA
theorem N7 {A:List Nat} {s n w:Nat} (hA:∀ x∈A,x < 2 ^ w) (h:s < 2 ^ w):∀ x∈bl A s n,x < 2 ^ w:=fun x hx=>by
 obtain ⟨k,_,rfl⟩:=List.mem_map.mp hx
 exact bkI_lt hA h k
theorem LO (A:List Nat):∀ (rows:List Nat) (F:Nat),sm A (sm rows F)=sm (rows.map (sm A)) F
 | [],_=>sm_zero A
 | r::rows,F=>by
   show sm A ((if F.testBit 0 then r else 0)^^^sm rows (F / 2))=(if F.testBit 0 then sm A r else 0)^^^sm (rows.map (sm A)) (F / 2)
   rw [sm_xor,LO A rows]
   cases F.testBit 0<;>simp [sm_zero]
theorem K9 {A:List Nat} {s n p:Nat} (F:Fst (bl A s n) p):∀ t,Span ((bl A s n).take p) (bkI A s t):=by
 have hp:p≤n:=by have:=F.lt;rw [Gn] at this;omega
 have hin:=F.in_
 rw [K8 hp] at hin
 have hmem:∀ k,k < p→Span ((bl A s n).take p) (bkI A s k):=fun k hk=>jV (List.mem_of_getElem? (i:=k) (by rw [List.getElem?_take_of_lt hk];exact Br (by omega)))
 intro t
 induction t with
 | zero=>
   by_cases h0:p=0
   ·subst h0;exact hin
   ·exact hmem 0 (by omega)
 | succ t ih=>
   obtain ⟨G,_,hG⟩:=gf ih
   show Span _ (sm A (bkI A s t))
   rw [← hG,LO]
   refine yX _ (fun x hx=>?_) G
   obtain ⟨y,hy,rfl⟩:=List.mem_map.mp hx
   obtain ⟨k,hk⟩:=List.getElem?_of_mem hy
   have hkp:k < p:=by
    have:=(List.getElem?_eq_some_iff.mp hk).1
    rw [List.length_take] at this
    omega
   rw [List.getElem?_take_of_lt hkp,Br (by omega)] at hk
   cases hk
   show Span _ (bkI A s (k + 1))
   by_cases h1:k + 1 < p
   ·exact hmem _ h1
   ·have:k + 1=p:=by omega
    rw [this];exact hin
end M
namespace Sx
open PySem L2
structure CmA (H:Hp) (t D:Addr) (m:Nat) (nx:List Pr3) (st T q mk:Nat):Prop where
 f:H t=some (.tup [.str "come",.ref D,nat mk])
 d:H D=some (.lst ((M.upk m q T).map nat))
 hT:T≤nx.length
 no:∀ j,j < T→¬ M.Span (M.rch (prs nx) m j) st
 sd:Sumd (M.rch (prs nx) m T) st q
 br:(T=0∧mk=0)∨∃ T',T=T' + 1∧Bard (M.rch (prs nx) m T') st mk
structure CmN (H:Hp) (t D S:Addr) (m:Nat) (nx:List Pr3) (st mk p q:Nat):Prop where
 f:H t=some (.tup [.str "never",.ref D,.ref S])
 no:∀ j,j≤nx.length→¬ M.Span (M.rch (prs nx) m j) st
 bd:Bard (M.rch (prs nx) m nx.length) st mk
 ct:ChT H D S (M.bl (nA nx) mk nx.length) p q
structure LN (K:PySem.W.Frag) (H:Hp) (n:Addr) (m:Nat) (nx os:List Pr3) (st:Nat):Prop where
 sq:SqL K H n (refs nx)
 pt:Prt H nx
 g:MaG m nx os
 ln:nx.length≤16
 hs:st < 2 ^ nx.length
end Sx
namespace M
noncomputable def fR (rows:List Nat):List Nat:=(fr rows).map fun i=>rows.getD i 0
theorem Ii {rows:List Nat}:∀ i∈fr rows,i < rows.length:=by
 intro i hi
 unfold fr at hi
 exact List.mem_range.mp (List.mem_filter.mp hi).1
theorem rh (rows:List Nat) (r:Nat):(fr rows).map (fun i=>(rows++[r]).getD i 0)=fR rows:=by
 unfold fR
 refine List.map_congr_left fun i hi=>?_
 rw [List.getD_eq_getElem?_getD,List.getD_eq_getElem?_getD,List.getElem?_append_left (Ii i hi)]
theorem MZ {rows:List Nat} {r:Nat} (h:Span rows r):fR (rows++[r])=fR rows:=by
 rw [← rh rows r];unfold fR;rw [fr_in h]
theorem Jq {rows:List Nat} {r:Nat} (h:¬ Span rows r):fR (rows++[r])=fR rows++[r]:=by
 rw [← rh rows r];unfold fR;rw [fr_out h,List.map_append]
 congr 1
 simp
theorem Ae:∀ (rows:List Nat) (x:Nat),Span (fR rows) x↔Span rows x:=by
 refine iL ?_ fun l w ih=>?_
 ·intro x;exact Iff.rfl
 ·intro x
  by_cases h:Span l w
  ·rw [MZ h,ih,dj]
   exact ⟨.inl,fun z=>z.elim id fun z=>by have:=span_xor z h;rwa [bf] at this⟩
  ·rw [Jq h,dj,dj,ih,ih]
theorem Inj.out {ws:List Nat} {w:Nat} (I:Inj ws) (h:¬ Span ws w):Inj (ws++[w]):=by
 intro p hp e
 rw [fI] at e
 by_cases hb:p.testBit ws.length=true
 ·rw [if_pos hb] at e
  exfalso;apply h
  have:sm ws p=w:=by
   have:=congrArg (·^^^w) e
   simpa [Nat.xor_assoc] using this
  rw [← this];exact sm_span _ _
 ·rw [if_neg hb,Nat.xor_zero] at e
  refine I p ?_ e
  rw [List.length_append,List.length_singleton] at hp
  refine Nat.lt_pow_two_of_testBit p fun i hi=>?_
  by_cases hi2:i=ws.length
  ·rw [hi2];simpa using hb
  ·exact Nat.testBit_lt_two_pow (Nat.lt_of_lt_of_le hp (Nat.pow_le_pow_right (by decide) (by omega)))
theorem Js:∀ rows:List Nat,Inj (fR rows):=by
 refine iL Inj.nil fun l w ih=>?_
 by_cases h:Span l w
 ·rw [MZ h];exact ih
 ·rw [Jq h];exact ih.out fun z=>h ((Ae l w).mp z)
theorem Inj.out' {ws:List Nat} {w:Nat} (I:Inj (ws++[w])):Inj ws∧¬ Span ws w:=by
 refine ⟨fun p hp e=>I p (by rw [List.length_append,List.length_singleton,Nat.pow_succ];omega) (by rw [fW hp];exact e),fun h=>?_⟩
 obtain ⟨p,hp,e⟩:=gf h
 have:=I (p^^^2 ^ ws.length) (by rw [List.length_append];exact zP hp) (by rw [yW hp,e,Nat.xor_self])
 exact (qP hp).1 this
theorem Ia:∀ ws:List Nat,Inj ws→(fr ws).length=ws.length:=by
 refine iL (fun _=>rfl) fun l w ih h=>?_
 have:=h.out'
 rw [fr_out this.2,List.length_append,List.length_append,ih this.1];rfl
theorem z9 {ws:List Nat} {t:Nat} (I:Inj ws) (h:∀ x∈ws,x < 2 ^ t):ws.length≤t:=by
 rw [← Ia ws I];exact EK h
theorem Jk {ws:List Nat} (I:Inj ws) {p q:Nat} (hp:p < 2 ^ ws.length) (hq:q < 2 ^ ws.length) (e:sm ws p=sm ws q):p=q:=by
 have:=I (p^^^q) (xor_lt_pow hp hq) (by rw [sm_xor,e,Nat.xor_self])
 have h:=congrArg (·^^^q) this
 simpa [Nat.xor_assoc] using h
noncomputable def ow (x:Nat) (L:List Nat):Nat:=pk (fun k=>od (x&&&L.getD k 0)) 0 L.length
theorem ow_bit (x:Nat) (L:List Nat) (k:Nat):(ow x L).testBit k=(decide (k < L.length)&&od (x&&&L.getD k 0)):=by unfold ow;rw [EU,Nat.zero_add]
theorem ow_lt (x:Nat) (L:List Nat):ow x L < 2 ^ L.length:=pk_lt _ _ _
theorem Bb (x y:Nat) (L:List Nat):ow (x^^^y) L=ow x L^^^ow y L:=Nat.eq_of_testBit_eq fun k=>by
 rw [Nat.testBit_xor,ow_bit,ow_bit,ow_bit,pR,gK]
 cases decide (k < L.length)<;>simp
theorem uX (L:List Nat):ow 0 L=0:=Nat.eq_of_testBit_eq fun k=>by
 rw [ow_bit,Nat.zero_and,od_zero,Nat.zero_testBit,Bool.and_false]
theorem zo (L:List Nat):∀ (rows:List Nat) (F:Nat),ow (sm rows F) L=sm (rows.map (ow · L)) F:=by
 refine iL ?_ fun l w ih=>?_
 ·intro F;rw [sm,List.map_nil,sm,uX]
 ·intro F
  rw [List.map_append,List.map_singleton,fI,fI,Bb,ih,List.length_map]
  by_cases h:F.testBit l.length=true
  ·rw [if_pos h,if_pos h]
  ·rw [if_neg h,if_neg h,uX]
theorem iu {x:Nat} {L:List Nat}:ow x L=0↔∀ y∈L,od (x&&&y)=false:=by
 constructor
 ·intro h y hy
  obtain ⟨k,hk,e⟩:=List.mem_iff_getElem.mp hy
  have:=congrArg (Nat.testBit · k) h
  rw [ow_bit,Nat.zero_testBit,decide_eq_true hk,Bool.true_and,List.getD_eq_getElem?_getD,List.getElem?_eq_getElem hk] at this
  rw [← e];exact this
 ·intro h
  refine Nat.eq_of_testBit_eq fun k=>?_
  rw [ow_bit,Nat.zero_testBit]
  by_cases hk:k < L.length
  ·rw [List.getD_eq_getElem?_getD,List.getElem?_eq_getElem hk,Option.getD_some,h _ (List.getElem_mem hk),Bool.and_false]
  ·rw [decide_eq_false hk,Bool.false_and]
theorem mr {x:Nat}:∀ (L:List Nat),(∀ y∈L,od (x&&&y)=false)→∀ z,Span L z→od (x&&&z)=false:=by
 refine iL ?_ fun l w ih=>?_
 ·intro _ z hz
  rw [show z=0 from hz,Nat.and_zero,od_zero]
 ·intro h z hz
  have h1:=ih fun y hy=>h y (List.mem_append_left _ hy)
  rcases (dj l w z).mp hz with hz | hz
  ·exact h1 z hz
  ·have h2:=h1 _ hz
   rw [iW,gK,h w (by simp),Bool.xor_false] at h2
   exact h2
theorem NY (p x:Nat):∀ (L:List Nat),L.length≤1000→od (p&&&ow x L)=od (sm L p&&&x):=by
 refine iL ?_ fun l w ih=>?_
 ·intro _
  rw [show ow x []=0 from rfl,Nat.and_zero,sm,Nat.zero_and]
 ·intro hl
  rw [List.length_append,List.length_singleton] at hl
  have e:ow x (l++[w])=ow x l^^^(if od (x&&&w)=true then 2 ^ l.length else 0):=Nat.eq_of_testBit_eq fun k=>by
   rw [Nat.testBit_xor,ow_bit,ow_bit,List.length_append,List.length_singleton]
   by_cases hk:k < l.length
   ·rw [List.getD_eq_getElem?_getD,List.getD_eq_getElem?_getD,List.getElem?_append_left hk,decide_eq_true hk,decide_eq_true (show k < l.length + 1 by omega)]
    have:(if od (x&&&w)=true then 2 ^ l.length else 0).testBit k=false:=by
     split
     ·rw [Nat.testBit_two_pow];exact decide_eq_false (by omega)
     ·exact Nat.zero_testBit k
    rw [this,Bool.xor_false]
   ·by_cases hk2:k=l.length
    ·subst hk2
     rw [decide_eq_false hk,decide_eq_true (Nat.lt_succ_self _),Bool.false_and,Bool.false_xor,Bool.true_and]
     rw [List.getD_eq_getElem?_getD,List.getElem?_append_right (Nat.le_refl _),Nat.sub_self]
     show od (x&&&w)=_
     by_cases hw:od (x&&&w)=true
     ·rw [if_pos hw,Nat.testBit_two_pow_self,hw]
     ·rw [if_neg hw,Nat.zero_testBit];simpa using hw
    ·rw [decide_eq_false hk,decide_eq_false (show ¬ k < l.length + 1 by omega),Bool.false_and,Bool.false_and,Bool.false_xor]
     split
     ·rw [Nat.testBit_two_pow];exact (decide_eq_false (by omega)).symm
     ·exact (Nat.zero_testBit k).symm
  rw [e,iW,gK,ih (by omega),fI,pR,gK]
  congr 1
  by_cases hw:od (x&&&w)=true
  ·rw [if_pos hw,Nat.and_comm,E6 (by omega)]
   by_cases hp:p.testBit l.length=true
   ·rw [if_pos hp,hp,Nat.and_comm,hw]
   ·rw [if_neg hp,Nat.zero_and,od_zero];simpa using hp
  ·rw [if_neg hw,Nat.and_zero,od_zero]
   by_cases hp:p.testBit l.length=true
   ·rw [if_pos hp,Nat.and_comm];simpa using hw
   ·rw [if_neg hp,Nat.zero_and,od_zero]
theorem ud {ms:List Nat} {n:Nat} (hb:∀ x∈ms,x < 2 ^ n) (hl:n < ms.length):∃ p,p≤n∧Fst ms p:=by
 have key:∀ j,(∃ p,p < j∧Fst ms p)∨∀ k,k < j→k < ms.length→¬ Span (ms.take k) (ms.getD k 0):=fun j=>by
  induction j with
  | zero=>exact .inr fun k hk=>absurd hk (Nat.not_lt_zero k)
  | succ j ih=>
    rcases ih with ⟨p,hp,F⟩ | h
    ·exact .inl ⟨p,by omega,F⟩
    ·by_cases hj:j < ms.length
     ·by_cases hs:Span (ms.take j) (ms.getD j 0)
      ·exact .inl ⟨j,by omega,hj,fun k hk=>h k hk (by omega),hs⟩
      ·exact .inr fun k hk hk2=>by
        by_cases e:k=j
        ·rw [e];exact hs
        ·exact h k (by omega) hk2
     ·exact .inr fun k hk hk2=>h k (by omega) hk2
 rcases key (n + 1) with ⟨p,hp,F⟩ | h
 ·exact ⟨p,by omega,F⟩
 ·have:=Aw hb (j:=n + 1) (by omega) fun k hk=>h k hk (by omega)
  omega
theorem wI:∀ {as:List Nat} {bs:List Nat},(∀ x∈as,Span bs x)→∀ z,Span as z→Span bs z:=fun {as bs} h z hz=>by
 obtain ⟨p,_,e⟩:=gf hz
 rw [← e];exact yX as h p
theorem Lo {ps:List (Nat×Nat)} {d:Nat} (hd:d < 2 ^ ps.length) {S:List Nat} (h:∀ k,k < ps.length→Span S (zs ps d k)) (t:Nat):Span S (zs ps d t):=by
 obtain ⟨p,hp,F⟩:=ud (Nt (n:=ps.length) hd) (by rw [Ea];omega)
 refine wI (fun x hx=>?_) _ (JE F t)
 obtain ⟨k,hk,e⟩:=List.mem_iff_getElem.mp hx
 rw [List.length_take] at hk
 have hkp:k < p:=by omega
 rw [List.getElem_take] at e
 have:=AS (ps:=ps) (d:=d) (n:=ps.length) (k:=k) (by omega)
 rw [List.getElem?_eq_getElem (by rw [Ea];omega)] at this
 rw [← e,Option.some.inj this]
 exact h k (by omega)
theorem Nc {A:List Nat} {s n:Nat} (hA:∀ x∈A,x < 2 ^ n) (hs:s < 2 ^ n) {S:List Nat} (h:∀ k,k < n→Span S (bkI A s k)) (t:Nat):Span S (bkI A s t):=by
 obtain ⟨p,hp,F⟩:=ud (N7 (n:=n) hA hs) (by rw [Gn];omega)
 refine wI (fun x hx=>?_) _ (K9 F t)
 obtain ⟨k,hk,e⟩:=List.mem_iff_getElem.mp hx
 rw [List.length_take] at hk
 have hkp:k < p:=by omega
 rw [List.getElem_take] at e
 have:=Br (A:=A) (s:=s) (n:=n) (k:=k) (by omega)
 rw [List.getElem?_eq_getElem (by rw [Gn];omega)] at this
 rw [← e,Option.some.inj this]
 exact h k (by omega)
theorem IQ (ps:List (Nat×Nat)) (m w:Nat) (hw:w < m):∀ j,(stj ps (sg0 ps m) j)[w]? =some (zs ps (tr2 ps 0 (2 ^ w)) j)
 | 0=>by
   show (sg0 ps m)[w]? =_
   unfold sg0
   rw [List.getElem?_map,List.getElem?_range hw];rfl
 | j + 1=>by
   show ((stj ps (sg0 ps m) j).map fun x=>tr2 ps x 0)[w]? =_
   rw [List.getElem?_map,IQ ps m w hw j];rfl
theorem LH (ps:List (Nat×Nat)) (m j:Nat) {x:Nat} (h:x∈stj ps (sg0 ps m) j):∃ w,w < m∧x=zs ps (tr2 ps 0 (2 ^ w)) j:=by
 obtain ⟨w,hw,e⟩:=List.mem_iff_getElem.mp h
 have hm:w < m:=by rw [stj_len,sg0_len] at hw;exact hw
 have:=IQ ps m w hm j
 rw [List.getElem?_eq_getElem hw,e] at this
 exact ⟨w,hm,Option.some.inj this⟩
theorem IW (ps:List (Nat×Nat)) (m:Nat):∀ {T x:Nat},x∈rch ps m T→∃ w j,w < m∧j < T∧x=zs ps (tr2 ps 0 (2 ^ w)) j
 | 0,x,h=>absurd h (by unfold rch;simp)
 | T + 1,x,h=>by
   unfold rch at h
   rcases List.mem_append.mp h with h | h
   ·obtain ⟨w,hw,e⟩:=LH ps m T h
    exact ⟨w,T,hw,by omega,e⟩
   ·obtain ⟨w,j,hw,hj,e⟩:=IW ps m h
    exact ⟨w,j,hw,by omega,e⟩
theorem EJ {ps:List (Nat×Nat)} {m w:Nat} (hw:w < m) (t:Nat):Span (rch ps m ps.length) (zs ps (tr2 ps 0 (2 ^ w)) t):=
 Lo (tM ps 0 (2 ^ w)) (fun k hk=>jV (EI ps m (Ek ps m w hw k) hk)) t
theorem Hg {ps:List (Nat×Nat)} {m x r:Nat} (hx:Span (rch ps m ps.length) x) (hr:r < 2 ^ m):Span (rch ps m ps.length) (tr2 ps x r):=by
 have e:=uv ps x 0 0 r
 rw [Nat.xor_zero,Nat.zero_xor] at e
 rw [e]
 refine span_xor ?_ ?_
 ·obtain ⟨F,_,eF⟩:=gf hx
  rw [← eF,AW]
  refine yX _ (fun y hy=>?_) F
  obtain ⟨z,hz,rfl⟩:=List.mem_map.mp hy
  obtain ⟨w,j,hw,hj,rfl⟩:=IW ps m hz
  exact EJ hw (j + 1)
 ·rw [uu ps r m hr]
  refine yX _ (fun y hy=>?_) r
  unfold sg0 at hy
  obtain ⟨w,hw,rfl⟩:=List.mem_map.mp hy
  exact EJ (List.mem_range.mp hw) 0
noncomputable def lk1 (A os:List Nat) (t:Nat):List Nat:=os.map fun s=>bkI A s t
noncomputable def lkm (A os:List Nat):Nat→List Nat
 | 0=>[]
 | T + 1=>lkm A os T++lk1 A os T
theorem lk1_len (A os:List Nat) (t:Nat):(lk1 A os t).length=os.length:=by unfold lk1;rw [List.length_map]
theorem lkm_len (A os:List Nat):∀ T,(lkm A os T).length=T * os.length
 | 0=>by unfold lkm;simp
 | T + 1=>by unfold lkm;rw [List.length_append,lk1_len,lkm_len A os T,Nat.succ_mul]
theorem Fg {A os:List Nat} {s t:Nat} (hs:s∈os):∀ {T},t < T→bkI A s t∈lkm A os T
 | 0,h=>absurd h (Nat.not_lt_zero t)
 | T + 1,h=>by
   unfold lkm
   by_cases e:t=T
   ·rw [e];exact List.mem_append_right _ (List.mem_map.mpr ⟨s,hs,rfl⟩)
   ·exact List.mem_append_left _ (Fg hs (by omega))
theorem lkm_of {A os:List Nat}:∀ {T x:Nat},x∈lkm A os T→∃ s t,s∈os∧t < T∧x=bkI A s t
 | 0,x,h=>absurd h (by unfold lkm;simp)
 | T + 1,x,h=>by
   unfold lkm at h
   rcases List.mem_append.mp h with h | h
   ·obtain ⟨s,t,hs,ht,e⟩:=lkm_of h
    exact ⟨s,t,hs,by omega,e⟩
   ·obtain ⟨s,hs,e⟩:=List.mem_map.mp h
    exact ⟨s,T,hs,by omega,e.symm⟩
theorem Fh {A os:List Nat} {o s:Nat} (ho:os[o]? =some s):∀ {T t:Nat},t < T→(lkm A os T)[t * os.length + o]? =some (bkI A s t)
 | 0,t,h=>absurd h (Nat.not_lt_zero t)
 | T + 1,t,h=>by
   have hl:=(List.getElem?_eq_some_iff.mp ho).1
   unfold lkm
   by_cases e:t=T
   ·rw [e,List.getElem?_append_right (by rw [lkm_len];omega),lkm_len,Nat.add_sub_cancel_left]
    unfold lk1
    rw [List.getElem?_map,ho];rfl
   ·have hm:t * os.length + os.length≤T * os.length:=by
     have:=Nat.mul_le_mul_right os.length (show t + 1≤T by omega)
     rw [Nat.succ_mul] at this;exact this
    rw [List.getElem?_append_left (by rw [lkm_len];omega)]
    exact Fh ho (by omega)
theorem bkI_succ (A:List Nat) (s t:Nat):sm A (bkI A s t)=bkI A s (t + 1):=by
 induction t generalizing s with
 | zero=>rfl
 | succ t ih=>first | rfl | (rw [← Go,ih];rfl)
theorem Fi {A os:List Nat} {n s:Nat} (hA:∀ x∈A,x < 2 ^ n) (ho:∀ s∈os,s < 2 ^ n) (hs:s∈os) (t:Nat):Span (lkm A os n) (bkI A s t):=
 Nc hA (ho s hs) (fun k hk=>jV (Fg hs hk)) t
theorem HP {A os:List Nat} {n x:Nat} (hA:∀ x∈A,x < 2 ^ n) (ho:∀ s∈os,s < 2 ^ n) (hx:x∈lkm A os n):Span (lkm A os n) (sm A x):=by
 obtain ⟨s,t,hs,ht,rfl⟩:=lkm_of hx
 rw [bkI_succ];exact Fi hA ho hs (t + 1)
section
variable (ps os:List (Nat×Nat)) (m:Nat)
noncomputable def msk:List Nat:=lkm (ps.map (·.1)) (os.map (·.1)) ps.length
noncomputable def ldp:List Nat:=fr ((rch ps m ps.length).map (ow · (msk ps os)))
noncomputable def lst_:List Nat:=(ldp ps os m).map fun i=>(rch ps m ps.length).getD i 0
noncomputable def lkp:List Nat:=fr ((msk ps os).map (ow · (lst_ ps os m)))
noncomputable def lkL:List Nat:=(lkp ps os m).map fun i=>(msk ps os).getD i 0
noncomputable def sen:List Nat:=(lkL ps os m).map (ow · (lst_ ps os m))
end
theorem MY (X:List Nat) (f:Nat→Nat):fR (X.map f)=((fr (X.map f)).map fun i=>X.getD i 0).map f:=by
 unfold fR
 rw [List.map_map]
 refine List.map_congr_left fun i hi=>?_
 have h:=Ii i hi
 rw [List.length_map] at h
 show (X.map f).getD i 0=f (X.getD i 0)
 rw [List.getD_eq_getElem?_getD,List.getElem?_map,List.getElem?_eq_getElem h,List.getD_eq_getElem?_getD,List.getElem?_eq_getElem h];rfl
theorem getD_mem {X:List Nat} {i:Nat} (h:i < X.length):X.getD i 0∈X:=by
 rw [List.getD_eq_getElem?_getD,List.getElem?_eq_getElem h];exact List.getElem_mem h
section
variable {ps os:List (Nat×Nat)} {m:Nat}
theorem Jr:fR ((rch ps m ps.length).map (ow · (msk ps os)))=(lst_ ps os m).map (ow · (msk ps os)):=MY _ _
theorem Jp:fR ((msk ps os).map (ow · (lst_ ps os m)))=sen ps os m:=MY _ _
theorem y6:Inj (sen ps os m):=by rw [← Jp];exact Js _
theorem ldp_lt:∀ i∈ldp ps os m,i < (rch ps m ps.length).length:=fun i hi=>by have:=Ii i hi;rwa [List.length_map] at this
theorem lkp_lt:∀ i∈lkp ps os m,i < (msk ps os).length:=fun i hi=>by have:=Ii i hi;rwa [List.length_map] at this
theorem Ji:∀ x∈lkL ps os m,x∈msk ps os:=fun x hx=>by
 obtain ⟨i,hi,rfl⟩:=List.mem_map.mp hx
 exact getD_mem (lkp_lt i hi)
theorem lst_in:∀ x∈lst_ ps os m,x∈rch ps m ps.length:=fun x hx=>by
 obtain ⟨i,hi,rfl⟩:=List.mem_map.mp hx
 exact getD_mem (ldp_lt i hi)
theorem nF:(lkL ps os m).length=(lkp ps os m).length:=List.length_map ..
theorem sen_len:(sen ps os m).length=(lkp ps os m).length:=by unfold sen;rw [List.length_map,nF]
theorem lst_len:(lst_ ps os m).length=(ldp ps os m).length:=List.length_map ..
theorem BK {x:Nat} (h:Span (rch ps m ps.length) x):∃ y,Span (lst_ ps os m) y∧ow x (msk ps os)=ow y (msk ps os):=by
 obtain ⟨F,_,e⟩:=gf h
 have hs:Span ((rch ps m ps.length).map (ow · (msk ps os))) (ow x (msk ps os)):=by rw [← e,zo];exact sm_span _ _
 rw [← Ae,Jr] at hs
 obtain ⟨P,_,eP⟩:=gf hs
 exact ⟨sm (lst_ ps os m) P,sm_span _ _,by rw [zo,eP]⟩
theorem CQ {d x:Nat} (hd:Span (msk ps os) d) (h:∀ s∈lst_ ps os m,od (d&&&s)=false) (hx:Span (rch ps m ps.length) x):od (d&&&x)=false:=by
 obtain ⟨y,hy,e⟩:=BK (os:=os) hx
 have h1:=mr _ h y hy
 have h2:ow (x^^^y) (msk ps os)=0:=by rw [Bb,e,Nat.xor_self]
 have h3:=mr _ (iu.mp h2) d hd
 rw [Nat.and_comm,iW,gK,h1,Bool.xor_false] at h3
 exact h3
theorem span_sen {d:Nat} (hd:Span (msk ps os) d):Span (sen ps os m) (ow d (lst_ ps os m)):=by
 obtain ⟨F,_,e⟩:=gf hd
 rw [← Jp,Ae,← e,zo];exact sm_span _ _
theorem IU (p:Nat):sm (sen ps os m) p=ow (sm (lkL ps os m) p) (lst_ ps os m):=by unfold sen;rw [zo]
theorem Bf {d x p:Nat} (hl:(lkL ps os m).length≤1000) (hd:Span (msk ps os) d) (hp:sm (sen ps os m) p=ow d (lst_ ps os m)) (hx:Span (rch ps m ps.length) x):od (p&&&ow x (lkL ps os m))=od (d&&&x):=by
 rw [NY p x _ hl]
 have hs:Span (msk ps os) (sm (lkL ps os m) p^^^d):=span_xor (yX _ (fun y hy=>jV (Ji y hy)) p) hd
 have h0:ow (sm (lkL ps os m) p^^^d) (lst_ ps os m)=0:=by rw [Bb,← IU,hp,Nat.xor_self]
 have:=CQ hs (iu.mp h0) hx
 rw [pR,gK] at this
 revert this
 cases od (sm (lkL ps os m) p&&&x)<;>cases od (d&&&x)<;>simp
theorem rows_inj:Inj ((lst_ ps os m).map (ow · (lkL ps os m))):=by
 intro F hF e
 rw [List.length_map] at hF
 rw [← zo] at e
 have hL:=iu.mp e
 have hall:ow (sm (lst_ ps os m) F) (msk ps os)=0:=by
  rw [iu]
  intro mk hmk
  have hs:=span_sen (m:=m) (jV hmk)
  obtain ⟨P,_,eP⟩:=gf hs
  rw [IU] at eP
  have h0:ow (sm (lkL ps os m) P^^^mk) (lst_ ps os m)=0:=by rw [Bb,eP,Nat.xor_self]
  have h1:=mr _ (iu.mp h0) _ (sm_span (lst_ ps os m) F)
  have h2:=mr _ hL _ (sm_span (lkL ps os m) P)
  rw [pR,gK,Nat.and_comm _ (sm (lst_ ps os m) F),h2,Bool.false_xor] at h1
  rw [Nat.and_comm];exact h1
 have hI:=Js ((rch ps m ps.length).map (ow · (msk ps os)))
 rw [Jr] at hI
 exact hI F (by rw [List.length_map];exact hF) (by rw [← zo];exact hall)
theorem many_eq:(lkp ps os m).length=(ldp ps os m).length:=by
 have h1:=z9 (y6 (ps:=ps) (os:=os) (m:=m)) (t:=(lst_ ps os m).length) (fun x hx=>by
  obtain ⟨y,_,rfl⟩:=List.mem_map.mp hx;exact ow_lt _ _)
 have h2:=z9 (rows_inj (ps:=ps) (os:=os) (m:=m)) (t:=(lkL ps os m).length) (fun x hx=>by
  obtain ⟨y,_,rfl⟩:=List.mem_map.mp hx;exact ow_lt _ _)
 rw [sen_len,lst_len] at h1
 rw [List.length_map,lst_len,nF] at h2
 omega
theorem many_le:(lkp ps os m).length≤ps.length:=by
 have h:=z9 (ws:=lst_ ps os m) (t:=ps.length) (fun F hF e=>?_) (fun x hx=>rch_lt ps m _ x (lst_in x hx))
 ·rw [many_eq,← lst_len];exact h
 ·refine rows_inj (ps:=ps) (os:=os) (m:=m) F (by rw [List.length_map];exact hF) ?_
  rw [← zo,e,uX]
structure Lsr (ps os:List (Nat×Nat)) (m:Nat) (nx' os':List (Nat×Nat)):Prop where
 ln:nx'.length=(lkp ps os m).length
 lo:os'.length=os.length
 n1:∀ (j:Nat) (q:Nat×Nat),nx'[j]? =some q→q.1 < 2 ^ (lkp ps os m).length∧sm (sen ps os m) q.1=ow (sm (ps.map (·.1)) ((lkL ps os m).getD j 0)) (lst_ ps os m)∧q.2=sm (ps.map (·.2)) ((lkL ps os m).getD j 0)
 o1:∀ (j:Nat) (q:Nat×Nat),os'[j]? =some q→q.1 < 2 ^ (lkp ps os m).length∧sm (sen ps os m) q.1=ow (os.getD j (0,0)).1 (lst_ ps os m)∧q.2=(os.getD j (0,0)).2
theorem Lsr.uniq {nx1 os1 nx2 os2:List (Nat×Nat)} (a:Lsr ps os m nx1 os1) (b:Lsr ps os m nx2 os2):nx1=nx2∧os1=os2:=by
 constructor
 ·refine List.ext_getElem (by rw [a.ln,b.ln]) fun i h1 h2=>?_
  have x:=a.n1 i _ (List.getElem?_eq_getElem h1)
  have y:=b.n1 i _ (List.getElem?_eq_getElem h2)
  refine Prod.ext (Jk y6 (by rw [sen_len];exact x.1) (by rw [sen_len];exact y.1) (by rw [x.2.1,y.2.1])) (by rw [x.2.2,y.2.2])
 ·refine List.ext_getElem (by rw [a.lo,b.lo]) fun i h1 h2=>?_
  have x:=a.o1 i _ (List.getElem?_eq_getElem h1)
  have y:=b.o1 i _ (List.getElem?_eq_getElem h2)
  refine Prod.ext (Jk y6 (by rw [sen_len];exact x.1) (by rw [sen_len];exact y.1) (by rw [x.2.1,y.2.1])) (by rw [x.2.2,y.2.2])
structure Fit (ps os:List (Nat×Nat)) (m:Nat):Prop where
 ln:ps.length≤120
 bn:∀ q∈ps++os,q.1 < 2 ^ ps.length
theorem Fit.A (f:Fit ps os m):∀ x∈ps.map (·.1),x < 2 ^ ps.length:=fun x hx=>by
 obtain ⟨q,hq,rfl⟩:=List.mem_map.mp hx;exact f.bn q (List.mem_append_left _ hq)
theorem Fit.O (f:Fit ps os m):∀ x∈os.map (·.1),x < 2 ^ ps.length:=fun x hx=>by
 obtain ⟨q,hq,rfl⟩:=List.mem_map.mp hx;exact f.bn q (List.mem_append_right _ hq)
theorem Fit.back (f:Fit ps os m) {x:Nat} (h:x∈msk ps os):Span (msk ps os) (sm (ps.map (·.1)) x):=HP f.A f.O h
theorem Fit.out (f:Fit ps os m) {x:Nat} (h:x∈os.map (·.1)):Span (msk ps os) x:=Fi f.A f.O h 0
theorem getD_at' {α:Type} {X:List α} {i:Nat} {d:α} (h:i < X.length):X[i]? =some (X.getD i d):=by
 rw [List.getD_eq_getElem?_getD,List.getElem?_eq_getElem h];rfl
theorem Lsr.next {nx' os':List (Nat×Nat)} (a:Lsr ps os m nx' os') (f:Fit ps os m) {x r:Nat} (hx:Span (rch ps m ps.length) x):tr2 nx' (ow x (lkL ps os m)) r=ow (tr2 ps x r) (lkL ps os m):=Nat.eq_of_testBit_eq fun j=>by
 have hn:=many_le (ps:=ps) (os:=os) (m:=m)
 have h120:=f.ln
 rw [jl,ow_bit,a.ln,nF]
 by_cases hj:j < (lkp ps os m).length
 ·rw [decide_eq_true hj,Bool.true_and,Bool.true_and]
  have hq:=a.n1 j _ (getD_at' (d:=(0,0)) (by rw [a.ln];exact hj))
  have hm:(lkL ps os m).getD j 0∈msk ps os:=Ji _ (getD_mem (by rw [nF];exact hj))
  rw [Bf (by rw [nF];omega) (f.back hm) hq.2.1 hx,hq.2.2,Nat.and_comm (tr2 ps x r),E8 _ _ _ _ (by omega)]
 ·rw [decide_eq_false hj,Bool.false_and,Bool.false_and]
theorem Lsr.says {nx' os':List (Nat×Nat)} (a:Lsr ps os m nx' os') (f:Fit ps os m) {x r:Nat} (hx:Span (rch ps m ps.length) x):tr2 os' (ow x (lkL ps os m)) r=tr2 os x r:=Nat.eq_of_testBit_eq fun j=>by
 have hn:=many_le (ps:=ps) (os:=os) (m:=m)
 have h120:=f.ln
 rw [jl,jl,a.lo]
 by_cases hj:j < os.length
 ·rw [decide_eq_true hj,Bool.true_and,Bool.true_and]
  have hq:=a.o1 j _ (getD_at' (d:=(0,0)) (by rw [a.lo];exact hj))
  have hm:(os.getD j (0,0)).1∈os.map (·.1):=List.mem_map.mpr ⟨_,List.mem_of_getElem? (getD_at' hj),rfl⟩
  rw [Bf (by rw [nF];omega) (f.out hm) hq.2.1 hx,hq.2.2]
 ·rw [decide_eq_false hj,Bool.false_and,Bool.false_and]
theorem Lsr.walk {nx' os':List (Nat×Nat)} (a:Lsr ps os m nx' os') (f:Fit ps os m):∀ (rs:List Nat) (x:Nat),(∀ r∈rs,r < 2 ^ m)→Span (rch ps m ps.length) x→wan nx' os' (ow x (lkL ps os m)) rs=wan ps os x rs
 | [],x,_,_=>rfl
 | r::rs,x,h,hx=>by
   show tr2 os' _ r::wan nx' os' (tr2 nx' _ r) rs=tr2 os x r::wan ps os (tr2 ps x r) rs
   rw [a.says f hx,a.next f hx,a.walk f rs _ (fun y hy=>h y (List.mem_cons_of_mem _ hy)) (Hg hx (h r List.mem_cons_self))]
theorem Lsr.alike {nx' os':List (Nat×Nat)} (a:Lsr ps os m nx' os') (f:Fit ps os m) {rs:List Nat} (h:∀ r∈rs,r < 2 ^ m):wan nx' os' 0 rs=wan ps os 0 rs:=by
 have:=a.walk f rs 0 h (lE _)
 rwa [uX] at this
theorem led_to {i:Nat} (h:i < (rch ps m ps.length).length):wst ps 0 (upk m (2 ^ i) ps.length)=(rch ps m ps.length).getD i 0:=by
 rw [A4 ps m _ (upk_lt m _ _),upk_len,ET m _ _ (Nat.pow_lt_pow_right (by decide) (by rw [rch_len] at h;exact h)),jW]
theorem msk_bit {x i t o:Nat} (hl:ps.length≤1000) (ho:o < os.length) (ht:t < ps.length) (hi:i=t * os.length + o):od (x&&&(msk ps os).getD i 0)=(tr2 os (zs ps x t) 0).testBit o:=by
 have hg:(os.map (·.1))[o]? =some (os.getD o (0,0)).1:=by rw [List.getElem?_map,getD_at' (d:=(0,0)) ho];rfl
 have:=Fh (A:=ps.map (·.1)) hg ht
 rw [List.length_map] at this
 unfold msk
 rw [hi,List.getD_eq_getElem?_getD,this,Option.getD_some,jl,decide_eq_true ho,Bool.true_and,Nat.and_zero,od_zero,Bool.xor_false,MH ps hl,Nat.and_comm]
end
end M
namespace Sx
open PySem L2
theorem Kz {x:Nat} {L:List Nat} {i v:Nat} (h:L[i]? =some v):M.ow x (L.take (i + 1))=M.ow x (L.take i)^^^(if M.od (x&&&v)=true then 2 ^ i else 0):=by
 have hi:=(List.getElem?_eq_some_iff.mp h).1
 have hl:(L.take i).length=i:=by rw [List.length_take];omega
 rw [take_succ h]
 refine Nat.eq_of_testBit_eq fun k=>?_
 rw [Nat.testBit_xor,M.ow_bit,M.ow_bit,List.length_append,List.length_singleton,hl]
 by_cases hk:k < i
 ·rw [List.getD_eq_getElem?_getD,List.getD_eq_getElem?_getD,List.getElem?_append_left (by rw [hl];exact hk),decide_eq_true hk,decide_eq_true (show k < i + 1 by omega)]
  have:(if M.od (x&&&v)=true then 2 ^ i else 0).testBit k=false:=by
   split
   ·rw [Nat.testBit_two_pow];exact decide_eq_false (by omega)
   ·exact Nat.zero_testBit k
  rw [this,Bool.xor_false]
 ·by_cases hk2:k=i
  ·subst hk2
   rw [decide_eq_false hk,decide_eq_true (Nat.lt_succ_self _),Bool.false_and,Bool.false_xor,Bool.true_and]
   rw [List.getD_eq_getElem?_getD,List.getElem?_append_right (by omega),hl,Nat.sub_self]
   show M.od (x&&&v)=_
   by_cases hw:M.od (x&&&v)=true
   ·rw [if_pos hw,Nat.testBit_two_pow_self,hw]
   ·rw [if_neg hw,Nat.zero_testBit];simpa using hw
  ·rw [decide_eq_false hk,decide_eq_false (show ¬ k < i + 1 by omega),Bool.false_and,Bool.false_and,Bool.false_xor]
   split
   ·rw [Nat.testBit_two_pow];exact (decide_eq_false (by omega)).symm
   ·exact (Nat.zero_testBit k).symm
theorem Mw {w k:Nat} (h:k < w):M.pl w (2 ^ k)=[k]:=by
 induction w with
 | zero=>omega
 | succ w ih=>
   rw [M.pl_next]
   by_cases hk:k=w
   ·subst hk
    rw [Nat.testBit_two_pow_self,if_pos rfl]
    have:M.pl k (2 ^ k)=[]:=by
     unfold M.pl
     refine List.filter_eq_nil_iff.mpr fun x hx=>?_
     have:=List.mem_range.mp hx
     simp [Nat.testBit_two_pow];omega
    rw [this];rfl
   ·rw [ih (by omega),Nat.testBit_two_pow,decide_eq_false hk];rfl
noncomputable def G3 (C:Addr):Sp:=fun vs H Q _=>∃ (p:Addr) (m:Nat) (nx os:List Pr3),vs=[.ref p]∧MaA H C p m nx os∧MaG m nx os∧nx.length≤60∧∀ (D:Addr) (H2:Hp),H D=none→Same H H2→H2 D=some (.lst ((M.msk (prs nx) (prs os)).map nat))→Q (.ref D) H2
noncomputable def JS:Sp:=fun vs H Q _=>∃ (r x:Nat) (L:List Nat),vs=[nat x,.ref r]∧H r=some (.lst (L.map nat))∧L.length≤1000∧x < 2 ^ 1000∧∀ H2,Same H H2→Q (nat (M.ow x L)) H2
noncomputable def LI:Sp:=fun vs H Q _=>∃ (t D1 D2:Addr) (a b:Nat) (S Z:List Nat),vs=[.ref t,.ref D1,.ref D2]∧H t=some (.tup [nat a,nat b])∧H D1=some (.lst (S.map nat))∧H D2=some (.lst (Z.map nat))∧S.length≤1000∧Z.length≤1000∧(∀ z∈Z,z < 2 ^ 1000)∧a < 2 ^ 1000∧M.Span Z (M.ow a S)∧∀ (t2:Addr) (H2:Hp) (q:Nat),H t2=none→Same H H2→H2 t2=some (.tup [nat q,nat b])→Sumd Z (M.ow a S) q→Q (.ref t2) H2
noncomputable def Cp (Pv:List Pr3→Prop) (H1:Hp) (D:Addr) (i:Nat) (ys:List V) (H:Hp):Prop:=∃ qs:List Pr3,ys=refs qs∧qs.length=i∧Pv qs∧Prt H qs∧Same H1 H∧H D=some (.lst ys)
theorem Jv {Pv:List Pr3→Prop} {H1 H H6:Hp} {D t:Addr} {i x y:Nat} {qs:List Pr3} (hD:H1 D=none) (lq:qs.length=i) (pt:Prt H qs) (s:Same H1 H) (eD:H D=some (.lst (refs qs))) (s6:Same H H6) (et:H6 t=some (.tup [nat x,nat y])) (hi:i < 1000) (pv:Pv (qs++[(t,x,y)])):H6 D=some (.lst (refs qs))∧(refs qs).length < sizeLine∧Cp Pv H1 D (i + 1) (refs qs++[.ref t]) (upd H6 D (.lst (refs qs++[.ref t]))):=by
 refine ⟨s6.get eD,by rw [dQ,lq];exact dk (by omega),qs++[(t,x,y)],by unfold refs;rw [List.map_append];rfl,by rw [List.length_append,lq];rfl,pv,fun q hq=>?_,fun b ob e=>?_,bc⟩
 ·have h6:H6 q.1=some (.tup [nat q.2.1,nat q.2.2]):=by
   rcases List.mem_append.mp hq with h | h
   ·exact s6.get (pt q h)
   ·rw [List.mem_singleton.mp h];exact et
  have n:q.1≠D:=fun z=>by rw [z,s6.get eD] at h6;cases h6
  rw [aJ n];exact h6
 ·rw [aJ (al e hD)];exact s6.get (s.get e)
noncomputable def Co (ob:Nat→HO) (H1:Hp) (D:Addr) (i:Nat) (ys:List V) (H:Hp):Prop:=∃ ds:List Addr,ys=ds.map V.ref∧ds.length=i∧(∀ (j:Nat) (d:Addr),ds[j]? =some d→H d=some (ob j))∧(∀ d∈ds,H1 d=none∧d≠D)∧Same H1 H∧H D=some (.lst ys)
theorem Av {ob:Nat→HO} {H1:Hp} {D:Addr} (hD:H1 D=none):Co ob H1 D 0 [] (upd H1 D (.lst [])):=⟨[],rfl,rfl,fun j d h=>(by simp at h),fun _ h=>(by cases h),fP hD,bc⟩
theorem F8 {Pv:List Pr3→Prop} {H1:Hp} {D:Addr} (hD:H1 D=none) (h:Pv []):Cp Pv H1 D 0 [] (upd H1 D (.lst [])):=⟨[],rfl,rfl,h,fun _ h=>(by cases h),fP hD,bc⟩
theorem F9 {ob:Nat→HO} {H1 H H6:Hp} {D t:Addr} {i:Nat} {ys:List V} (hD:H1 D=none) (c:Co ob H1 D i ys H) (s6:Same H H6) (ft:H t=none) (et:H6 t=some (ob i)) (hi:i < 1000):H6 D=some (.lst ys)∧ys.length < sizeLine∧Co ob H1 D (i + 1) (ys++[.ref t]) (upd H6 D (.lst (ys++[.ref t]))):=by
 obtain ⟨ds,rfl,ld,ha,hf,s,eD⟩:=c
 have nt:t≠D:=fun z=>by rw [z,eD] at ft;cases ft
 refine ⟨s6.get eD,by rw [List.length_map,ld];exact dk (by omega),ds++[t],by rw [List.map_append];rfl,by rw [List.length_append,ld];rfl,fun j d h=>?_,fun d hd=>?_,fun b o e=>?_,bc⟩
 ·by_cases hj:j < ds.length
  ·rw [List.getElem?_append_left hj] at h
   rw [aJ (hf d (List.mem_of_getElem? h)).2];exact s6.get (ha j d h)
  ·rw [List.getElem?_append_right (by omega)] at h
   have hz:j - ds.length=0:=by
    cases e:j - ds.length with
    | zero=>rfl
    | succ m=>rw [e] at h;simp at h
   rw [hz] at h
   have h:d=t:=(Option.some.inj h).symm
   have hj:j=i:=by omega
   rw [h,aJ nt,hj];exact et
 ·rcases List.mem_append.mp hd with h | h
  ·exact hf d h
  ·rw [List.mem_singleton.mp h];exact ⟨s.free ft,nt⟩
 ·rw [aJ (al e hD)];exact s6.get (s.get e)
structure Lrl (H:Hp) (Dr Dl:Addr) (ds es:List Addr) (m:Nat) (nx os:List Pr3):Prop where
 r:H Dr=some (.lst (ds.map V.ref))
 l:H Dl=some (.lst (es.map V.ref))
 dl:ds.length=(M.ldp (prs nx) (prs os) m).length
 el:es.length=(M.lkp (prs nx) (prs os) m).length
 da:∀ (j:Nat) (d k:Nat),ds[j]? =some d→(M.ldp (prs nx) (prs os) m)[j]? =some k→H d=some (.lst ((M.upk m (2 ^ k) nx.length).map nat))
 ea:∀ (j:Nat) (e k:Nat),es[j]? =some e→(M.lkp (prs nx) (prs os) m)[j]? =some k→H e=some (.tup [nat (k / os.length),nat (k % os.length)])
noncomputable def G6 (C:Addr):Sp:=fun vs H Q _=>∃ (p:Addr) (m:Nat) (nx os:List Pr3),vs=[.ref p]∧MaA H C p m nx os∧MaG m nx os∧nx.length≤60∧∀ (t x Dr Dl:Addr) (ds es:List Addr) (H2:Hp) (nx2 os2:List Pr3),Same H H2→H2 t=some (.tup [.ref x,.ref Dr,.ref Dl])→MaA H2 C x m nx2 os2→MaG m nx2 os2→M.Lsr (prs nx) (prs os) m (prs nx2) (prs os2)→Lrl H2 Dr Dl ds es m nx os→H Dr=none→H Dl=none→Dr≠Dl→(∀ d∈ds,H d=none∧d≠Dr∧d≠Dl)→Q (.ref t) H2
theorem Ja (s:Nat→Bool):∀ n,((List.range n).map fun k=>(M.bn (s k)) <<< k).sum=M.pk s 0 n
 | 0=>rfl
 | n + 1=>by
   rw [List.range_succ,List.map_append,List.sum_append,Ja s n,M.pk,Nat.zero_add]
   cases h:s n
   ·simp [M.bn,h]
   ·rw [if_pos rfl,M.xor_top (M.pk_lt _ _ _)]
    simp [M.bn,Nat.shiftLeft_eq,h]
noncomputable def Er:Sp:=fun vs H Q _=>∃ a b:Nat,vs=[nat a,nat b]∧Q (.bl (decide (a < b))) H
noncomputable def Ew:Sp:=fun vs H Q _=>∃ (t n o rr:Addr) (m:Nat) (nx os:List Pr3) (rs:List Nat),vs=[.ref t,.ref rr]∧TabT H t n o m nx os∧H rr=some (.lst (rs.map nat))∧(∀ r∈rs,r < 2 ^ m)∧∀ H2,Same H H2→Q (nat (M.wst (prs nx) 0 rs)) H2
noncomputable def G5:Sp:=fun vs H Q _=>∃ (t n o Dl:Addr) (m x:Nat) (nx os:List Pr3) (es:List Addr) (ks:List Nat),vs=[.ref t,nat x,.ref Dl]∧TabT H t n o m nx os∧x < 2 ^ nx.length∧nx.length≤60∧H Dl=some (.lst (es.map V.ref))∧es.length=ks.length∧ks.length≤60∧(∀ (j:Nat) (e k:Nat),es[j]? =some e→ks[j]? =some k→H e=some (.tup [nat (k / os.length),nat (k % os.length)]))∧(∀ k∈ks,k < nx.length * os.length)∧∀ H2,Same H H2→Q (nat (M.ow x (ks.map fun i=>(M.msk (prs nx) (prs os)).getD i 0))) H2
noncomputable def Ev:Sp:=fun vs H Q _=>∃ (Dr t n o:Addr) (m:Nat) (nx os:List Pr3) (ds:List Addr) (f:Nat→List Nat),vs=[.ref Dr,.ref t,nat ds.length]∧TabT H t n o m nx os∧H Dr=some (.lst (ds.map V.ref))∧(∀ (j:Nat) (d:Addr),ds[j]? =some d→H d=some (.lst ((f j).map nat))∧(f j).length=nx.length∧∀ r∈f j,r < 2 ^ m)∧∀ H2,Same H H2→Q (.bl true) H2
noncomputable def Eu:Sp:=fun vs H Q _=>∃ (Dl t n o:Addr) (m:Nat) (nx os:List Pr3) (es:List Addr) (f:Nat→Nat×Nat),vs=[.ref Dl,.ref t,nat es.length]∧TabT H t n o m nx os∧H Dl=some (.lst (es.map V.ref))∧(∀ (j:Nat) (e:Addr),es[j]? =some e→H e=some (.tup [nat (f j).1,nat (f j).2])∧(f j).1 < 121∧(f j).2 < os.length)∧∀ H2,Same H H2→Q (.bl true) H2
noncomputable def Es (C:Addr):Sp:=fun vs H Q _=>∃ (t n o u x Dr Dl:Addr) (m:Nat) (nx os nx2 os2:List Pr3) (ds es:List Addr),vs=[.ref t,.ref u]∧TabT H t n o m nx os∧nx.length≤60∧H u=some (.tup [.ref x,.ref Dr,.ref Dl])∧MaA H C x m nx2 os2∧nx2.length=(M.lkp (prs nx) (prs os) m).length∧Lrl H Dr Dl ds es m nx os∧∀ H2,Same H H2→Q (.bl true) H2
theorem La (v o i:Nat):Builtin.bitAnd ((v:Int) / 2 ^ ((o:Int).toNat)) 1 * 2 ^ ((i:Int).toNat)=((M.bn (v.testBit o) <<< i:Nat):Int):=by
 rw [uF,show (1:Int)=((1:Nat):Int) from rfl,aO,J4,Nat.shiftLeft_eq]
 congr 2
 rw [Nat.and_one_is_mod,Nat.testBit]
 unfold M.bn
 rcases Nat.mod_two_eq_zero_or_one (v>>>o) with h | h
 ·rw [h];simp [h]
 ·rw [h];simp [h]
theorem Gp (v o:Nat) {i:Nat} (h:i≤1000):CPow (Builtin.bitAnd ((v:Int) / 2 ^ ((o:Int).toNat)) 1) (i:Int):=by
 refine ⟨by omega,by omega,?_⟩
 rw [uF,show (1:Int)=((1:Nat):Int) from rfl,aO,Int.natAbs_natCast]
 exact Nat.lt_of_le_of_lt Nat.and_le_right (by decide)
noncomputable def lrwD (m n k:Nat):Dt:= .lst ((M.upk m (2 ^ k) n).map natD)
noncomputable def llkD (o k:Nat):Dt:= .tup [natD (k / o),natD (k % o)]
noncomputable def lrlD (m n o:Nat) (led lks:List Nat):Dt:= .lst [.lst (led.map (lrwD m n)),.lst (lks.map (llkD o))]
theorem A3 {K:PySem.W.Frag} {H:Hp} {D:Addr} {ds:List Addr} {ks:List Nat} {f:Nat→Dt} (e:H D=some (.lst (ds.map V.ref))) (l:ds.length=ks.length) (h:∀ (j:Nat) (d k:Nat),ds[j]? =some d→ks[j]? =some k→Rep K H (.ref d) (f k)):Rep K H (.ref D) (.lst (ks.map f)):= .lst (SqL.of e) (by rw [List.length_map,List.length_map,l]) fun i x d hx hd=>by
 rw [List.getElem?_map] at hx hd
 cases e1:ds[i]? with
 | none=>rw [e1] at hx;cases hx
 | some a=>
   cases e2:ks[i]? with
   | none=>rw [e2] at hd;cases hd
   | some k=>
     rw [e1] at hx;rw [e2] at hd
     rw [← Option.some.inj hx,← Option.some.inj hd]
     exact h i a k e1 e2
theorem Kq {K:PySem.W.Frag} {H:Hp} {d m n k:Nat} (e:H d=some (.lst ((M.upk m (2 ^ k) n).map nat))):Rep K H (.ref d) (lrwD m n k):=Hf e
theorem Kr {K:PySem.W.Frag} {H:Hp} {d o k:Nat} (e:H d=some (.tup [nat (k / o),nat (k % o)])):Rep K H (.ref d) (llkD o k):= .tup (SqT.of e) rfl fun i x y h1 h2=>by
 match i,h1,h2 with
 | 0,h1,h2=>cases h1;cases h2;exact .int _
 | 1,h1,h2=>cases h1;cases h2;exact .int _
 | i + 2,h1,_=>simp at h1
theorem Kp {K:PySem.W.Frag} {H:Hp} {D:Addr} {x y:V} {d e:Dt} (h:H D=some (.lst [x,y])) (r1:Rep K H x d) (r2:Rep K H y e):Rep K H (.ref D) (.lst [d,e]):= .lst (SqL.of h) rfl fun i x y h1 h2=>by
 match i,h1,h2 with
 | 0,h1,h2=>cases h1;cases h2;exact r1
 | 1,h1,h2=>cases h1;cases h2;exact r2
 | i + 2,h1,_=>simp at h1
theorem FV:∀ {ds:List Dt} {n:Nat},(∀ d∈ds,depD d≤n)→hX ds≤n
 | [],n,_=>by rw [hX];omega
 | d::ds,n,h=>by
   rw [hX]
   have:=h d List.mem_cons_self
   have:=FV fun x hx=>h x (List.mem_cons_of_mem _ hx)
   omega
theorem KZ (m n o:Nat) (led lks:List Nat):depD (lrlD m n o led lks)≤100:=by
 have h1:hX (led.map (lrwD m n))≤1:=FV fun d hd=>by
  obtain ⟨k,_,rfl⟩:=List.mem_map.mp hd
  unfold lrwD;rw [depD,Bl];omega
 have h2:hX (lks.map (llkD o))≤1:=FV fun d hd=>by
  obtain ⟨k,_,rfl⟩:=List.mem_map.mp hd
  unfold llkD;simp [depD,hX,natD]
 unfold lrlD
 rw [depD,hX,hX,hX,depD,depD]
 omega
theorem Lrl.rep {K:PySem.W.Frag} {H:Hp} {D Dr Dl:Addr} {ds es:List Addr} {m:Nat} {nx os:List Pr3} (l:Lrl H Dr Dl ds es m nx os) (e:H D=some (.lst [.ref Dr,.ref Dl])):Rep K H (.ref D) (lrlD m nx.length os.length (M.ldp (prs nx) (prs os) m) (M.lkp (prs nx) (prs os) m)):=
 Kp e (A3 l.r l.dl fun j d k h1 h2=>Kq (l.da j d k h1 h2)) (A3 l.l l.el fun j d k h1 h2=>Kr (l.ea j d k h1 h2))
theorem Lrl.same {H H2:Hp} {Dr Dl:Addr} {ds es:List Addr} {m:Nat} {nx os:List Pr3} (l:Lrl H Dr Dl ds es m nx os) (s:Same H H2):Lrl H2 Dr Dl ds es m nx os:=⟨s.get l.r,s.get l.l,l.dl,l.el,fun j d k h1 h2=>s.get (l.da j d k h1 h2),fun j d k h1 h2=>s.get (l.ea j d k h1 h2)⟩
theorem pK {l:List Pr3} {ps:List (Nat×Nat)} (h:prs l=ps):l.map zn=ps.map fun q=>Dt.tup [.int q.1,.int q.2]:=by rw [← h,List.map_map];rfl
theorem GV {m:Nat} {nx os nx2 os2:List Pr3} (h1:prs nx2=prs nx) (h2:prs os2=prs os):tabD m nx2 os2=tabD m nx os:=by
 unfold tabD
 rw [pK h1,pK h2,pK (l:=nx) rfl,pK (l:=os) rfl]
noncomputable def less (H:Hp) (R:Addr→Prop):Hp:=fun b=>@ite _ (R b) (Classical.propDecidable _) none (H b)
theorem Fl {H:Hp} {R:Addr→Prop} {b:Addr} (h:R b):less H R b=none:=by unfold less;rw [if_pos h]
theorem pL {H:Hp} {R:Addr→Prop} {b:Addr} (h:¬ R b):less H R b=H b:=by unfold less;rw [if_neg h]
theorem Fk {H:Hp} {R:Addr→Prop}:Same (less H R) H:=fun b o e=>by
 by_cases h:R b
 ·rw [Fl h] at e;cases e
 ·rw [pL h] at e;exact e
theorem ED {H0 H:Hp} {R:Addr→Prop} (s:Same H0 H) (h:∀ b,R b→H0 b=none):Same H0 (less H R):=fun b o e=>by
 rw [pL fun z=>by rw [h b z] at e;cases e];exact s.get e
theorem HQ {H:Hp} {R:Addr→Prop} (h:∀ b,R b→∃ xs,H b=some (.lst xs)) {b:Addr} {xs:List V} (e:H b=some (.tup xs)):less H R b=some (.tup xs):=by
 rw [pL fun z=>by obtain ⟨ys,hy⟩:=h b z;rw [hy] at e;cases e];exact e
end Sx
namespace My
open PySem L2 Sx
local macro_rules | `(tactic| walk_at "o") =>`(tactic| first | exact Or.inl rfl | exact Or.inr rfl)
local macro_rules | `(tactic| walk_at "s") =>`(tactic| exact ⟨rfl,rfl,rfl,by decide +kernel,rfl,by decide +kernel,by decide +kernel⟩)
local macro_rules | `(tactic| walk_at "l2side") =>`(tactic| first | assumption | rfl | omega | decide | ((try dsimp only [CDiv,N9,CPow,CMul]);first | omega | decide | (refine ⟨?_,?_⟩<;>first | omega | decide) | (refine ⟨?_,?_,?_⟩<;>first | omega | decide) | (left;refine ⟨?_,?_⟩<;>first | omega | decide) | (right;refine ⟨?_,?_⟩<;>first | omega | decide)))
local macro_rules | `(tactic| walk_at "l2len") =>`(tactic| ((with_reducible show _ + _≤sizeLine);first | assumption | (rw [sizeLine_eq];omega) | omega))
local macro_rules | `(tactic| walk_at "l2at") =>`(tactic| first | assumption | exact bc | (refine' Same.get (by assumption) ?h;(case h=>walk_at "l2at")))
local macro_rules | `(tactic| walk_at "l2hp") =>`(tactic| first | assumption | (refine' SqL.of ?h;(case h=>walk_at "l2at")) | (refine' SqT.of ?h;(case h=>walk_at "l2at")) | (refine' Same.seq (by assumption) ?h;(case h=>walk_at "l2hp")) | (refine' Same.tup (by assumption) ?h;(case h=>walk_at "l2hp")) | (refine' Rep.same (by assumption) ?h;(case h=>walk_at "l2hp")) | walk_at "l2at")
local macro_rules | `(tactic| walk_at "l2kind") =>`(tactic| first | assumption | exact rfl | (refine' Or.inl ⟨rfl,_,?e⟩;(case e=>walk_at "l2hp")) | (refine' Or.inr (Or.inl ⟨rfl,_,?e⟩);(case e=>walk_at "l2hp")) | (refine' Or.inr (Or.inr ⟨rfl,_,Or.inl ?e⟩);(case e=>walk_at "l2hp")))
local macro_rules | `(tactic| walk_at "l2step") =>`(tactic| first
 | (with_reducible refine NE ?_) | (with_reducible refine NT ?_) | (with_reducible refine s_if ?_) | (with_reducible refine NF ?_) | (with_reducible refine s_retN ?_) | (with_reducible refine L9 ?_) | (with_reducible refine LX ?_)
 | ((with_reducible refine' NC ?e ?_);(case e=>repeat constructor)) | (with_reducible refine s_c ?_) | (with_reducible refine s_op ?_) | (with_reducible refine s_un ?_)
 | (with_reducible refine Mf ?_) | (with_reducible refine NK ?_) | (with_reducible refine Kl ?_) | (with_reducible refine s_cb ?_)
 | (with_reducible refine NH ?_) | ((with_reducible refine' s_rI ?e ?_);(case e=>walk_at "l2side")) | (with_reducible refine s_rU ?_)
 | ((with_reducible refine' NI ?e ?_);(case e=>rfl)) | ((with_reducible refine' NG ?e ?_);(case e=>rfl)) | (with_reducible refine s_leS ?_)
 | (with_reducible refine LS ?_) | (with_reducible refine s_tB ?_) | (with_reducible refine L2.s_chain ?_) | (with_reducible refine NU ?_) | (with_reducible refine s_or ?_) | (with_reducible refine NJ ?_)
 | (with_reducible refine Mi ?_) | (with_reducible refine s_orV ?_) | (with_reducible refine LW ?_) | (with_reducible refine s_ifE ?_)
 | ((with_reducible refine' Ke ?e ?_);(case e=>repeat constructor)) | (with_reducible refine Kf ?_) | (with_reducible refine L8 ?_) | ((with_reducible refine' L7 ?e ?l ?_);(case e=>walk_at "l2hp");(case l=>rfl))
 | (with_reducible refine ND ?_) | (with_reducible refine NL ?_) | ((with_reducible refine' LZ ?l ?_);(case l=>exact Fm (Nat.le_of_ble_eq_true rfl))) | ((with_reducible refine' LY ?l ?_);(case l=>exact Fm (Nat.le_of_ble_eq_true rfl)))
 | (with_reducible refine s_sl ?_) | (with_reducible refine s_noPart ?_) | (with_reducible refine s_part ?_)
 | ((with_reducible refine' s_slL ?e ?_);(case e=>walk_at "l2hp")) | ((with_reducible refine' s_slS ?e ?_);(case e=>walk_at "l2side"))
 | ((with_reducible refine' NN ?e ?a ?_);(case e=>walk_at "l2hp");(case a=>first | assumption | rfl)) | ((with_reducible refine' NM ?e ?a ?_);(case e=>walk_at "l2hp");(case a=>first | assumption | rfl))
 | ((with_reducible refine' s_ty ?e ?_);(case e=>first | exact rfl | (refine' Or.inl ⟨rfl,_,?f⟩;(case f=>walk_at "l2hp")) | (refine' Or.inr (Or.inr (Or.inl ⟨rfl,Or.inl ⟨_,?f⟩⟩));(case f=>walk_at "l2hp"))))
 | (with_reducible refine NS ?_) | (with_reducible refine s_bm ?_) | (with_reducible refine Mh ?_)
 | ((with_reducible refine' L5 ?e ?_);(case e=>walk_at "l2hp")) | ((with_reducible refine' L4 ?e ?_);(case e=>walk_at "l2hp")) | ((with_reducible refine' s_lenS ?e ?_);(case e=>walk_at "l2side"))
 | ((with_reducible refine' NO ?e ?m ?_);(case e=>walk_at "l2kind");(case m=>decide))
 | (with_reducible refine Mb ?_) | (with_reducible refine NP ?_) | (with_reducible refine Kc ?_) | (with_reducible refine L6 ?_) | (with_reducible refine s_iStr ?_) | (with_reducible refine LU ?_) | (with_reducible refine s_rng2 ?_)
 | (with_reducible refine NB ?_) | (with_reducible refine LR ?_) | (with_reducible refine Kg ?_) | (with_reducible refine s_intB ?_) | (with_reducible refine s_inS ?_) | ((with_reducible refine' s_addS ?e ?_);(case e=>walk_at "l2side"))
 | (with_reducible refine Mg ?_) | ((with_reducible refine' Kb ?e ?_);(case e=>first | rfl | decide | assumption)) | ((with_reducible refine' BZ ?e ?_);(case e=>first | rfl | decide | assumption)) | ((with_reducible refine' Hd ?a ?b ?_);(case a=>omega);(case b=>omega))
 | (with_reducible refine ⟨_,_,rfl,rfl,?_⟩;(with_reducible refine ⟨?l,?_⟩);(case l=>walk_at "l2len")) | (with_reducible refine ⟨_,_,rfl,rfl,?_⟩) | (with_reducible refine Or.inl ⟨_,rfl,?_⟩) | (with_reducible refine Or.inr ⟨_,rfl,?_⟩)
 | (with_reducible refine ⟨_,rfl,?_⟩) | (with_reducible refine ⟨rfl,?_⟩) | ((with_reducible refine' ⟨⟨_,?e⟩,?_⟩);(case e=>walk_at "l2hp")))
local macro_rules | `(tactic| walk_at "l2") =>`(tactic| repeat walk_at "l2step")
local macro_rules | `(tactic| walk_at "l2step") =>`(tactic| first
 | (with_reducible refine Ha ?_) | (with_reducible refine NQ ?_) | (with_reducible refine L3 ?_) | (with_reducible refine Hb ?_) | (with_reducible refine L0 ?_) | (with_reducible refine Ma ?_) | (with_reducible refine Me ?_) | (with_reducible refine Kd ?_)
 | ((with_reducible refine' Ka ?e ?_);(case e=>walk_at "l2hp")) | ((with_reducible refine' J9 ?e ?_);(case e=>walk_at "l2hp")) | ((with_reducible refine' LQ ?e ?_);(case e=>walk_at "l2hp")) | ((with_reducible refine' s_tupT ?e ?_);(case e=>walk_at "l2hp")))
local macro_rules | `(tactic| walk_at "l2step") =>`(tactic| first
 | (with_reducible refine NR ?_) | (with_reducible refine s_dnot ?_) | (with_reducible refine s_disp1I ?_) | ((with_reducible refine' s_listD ?e ?_);(case e=>walk_at "l2at")))
local macro_rules | `(tactic| walk_at "l2step") =>`(tactic| first | (with_reducible refine J8 ?_) | (with_reducible refine s_try0 ?_) | (with_reducible refine s_callX ?_))
noncomputable def top (i:Nat):Stmt:=PySem.Challenge.pw_sumwires_k61_least_machines_and_why.main.body.getD i (.Pass ⟨0,0,0,0⟩)
noncomputable abbrev fX:Stmt:=top 6
theorem za:ay ["thing"] ["thing"] (ad fX):=by walk_at "s"
noncomputable abbrev iq:Stmt:=top 7
theorem BX:ay ["thing","width"] ["thing","width"] (ad iq):=by walk_at "s"
noncomputable abbrev tO:Stmt:=top 8
theorem p6:ay ["number","width","half"] ["number"] (ad tO):=by walk_at "s"
noncomputable abbrev gh:Stmt:=top 9
theorem BY:ay ["mask"] ["mask"] (ad gh):=by walk_at "s"
noncomputable abbrev io:Stmt:=top 10
theorem jY:ay ["places","mask","place"] ["places"] (ad io):=by walk_at "s"
noncomputable abbrev eJ:Stmt:=top 11
theorem y8:ay ["whole","width","count"] ["whole","width","count"] (ad eJ):=by walk_at "s"
noncomputable abbrev ip:Stmt:=top 16
theorem BW:ay ["thing","stores","inputs"] ["thing","stores","inputs"] (ad ip):=by walk_at "s"
noncomputable abbrev cr:Stmt:=top 17
theorem sk:ay ["inputs","nexts","outs"] ["inputs","nexts","outs"] (ad cr):=by walk_at "s"
noncomputable abbrev jZ:Stmt:=top 18
theorem EC:ay ["pair","state","row"] ["pair","state","row"] (ad jZ):=by walk_at "s"
noncomputable abbrev cO:Stmt:=top 19
theorem uG:ay ["pairs","state","row"] ["pairs","state","row"] (ad cO):=by walk_at "s"
noncomputable abbrev bp:Stmt:=gt (top 20) 0
theorem kN:ay ["self","inputs","nexts","outs"] ["self","inputs","nexts","outs"] (ad bp):=by walk_at "s"
noncomputable abbrev bN:Stmt:=gt (top 20) 1
theorem mY:ay ["self"] ["self"] (ad bN):=by walk_at "s"
noncomputable abbrev bF:Stmt:=gt (top 20) 2
theorem lI:ay ["self"] ["self"] (ad bF):=by walk_at "s"
noncomputable abbrev cE:Stmt:=gt (top 20) 3
theorem p7:ay ["self"] ["self"] (ad cE):=by walk_at "s"
noncomputable abbrev aX:Stmt:=gt (top 20) 4
theorem jb:ay ["self","state"] ["self","state"] (ad aX):=by walk_at "s"
noncomputable abbrev cF:Stmt:=gt (top 20) 5
theorem p8:ay ["self","state","row"] ["self","state","row"] (ad cF):=by walk_at "s"
noncomputable abbrev cG:Stmt:=gt (top 20) 10
theorem ca:ay ["self","mask","store_mask","input_mask","place"] ["self","mask"] (ad cG):=by walk_at "s"
noncomputable abbrev bM:Stmt:=gt (top 22) 0
theorem eI:ay ["self","rows","place","row"] ["self","rows"] (ad bM):=by walk_at "s"
noncomputable abbrev cc:Stmt:=gt (top 22) 1
theorem cy:ay ["self","mask","places","found"] ["self","mask"] (ad cc):=by walk_at "s"
noncomputable abbrev eQ:Stmt:=gt (top 22) 2
theorem jm:ay ["self","place","row","found","places"] ["self","place","row"] (ad eQ):=by walk_at "s"
noncomputable abbrev cf:Stmt:=gt (top 22) 3
theorem du:ay ["self","bit","mask","top"] ["self","bit"] (ad cf):=by walk_at "s"
noncomputable abbrev tP:Stmt:=top 23
theorem J6:ay ["rows"] ["rows"] (ad tP):=by walk_at "s"
noncomputable abbrev ik:Stmt:=top 24
theorem mX:ay ["rows","wish","steps","found"] ["rows","wish"] (ad ik):=by walk_at "s"
noncomputable abbrev jn:Stmt:=top 26
theorem jX:ay ["machine","turns","states","told","turn"] ["machine","turns"] (ad jn):=by walk_at "s"
noncomputable abbrev il:Stmt:=top 27
theorem BV:ay ["machine","places","turns"] ["machine","places","turns"] (ad il):=by walk_at "s"
noncomputable abbrev cn:Stmt:=top 29
theorem dM:ay ["machine","masks","told","turn"] ["machine"] (ad cn):=by walk_at "s"
noncomputable abbrev eK:Stmt:=top 30
theorem y9:ay ["mask","others"] ["mask","others"] (ad eK):=by walk_at "s"
noncomputable abbrev cb:Stmt:=top 31
theorem oK:ay ["pair","states","seen"] ["pair","states","seen"] (ad cb):=by walk_at "s"
noncomputable abbrev dP:Stmt:=top 32
theorem ff:ay ["machine","leads","masks","led","states","looks","seen","nexts","outs","rows"] ["machine"] (ad dP):=by walk_at "s"
noncomputable abbrev eN:Stmt:=top 34
theorem wN:ay ["_law_script","_law_k"] ["_law_script","_law_k"] (ad eN):=by walk_at "s"
noncomputable abbrev fZ:Stmt:=top 35
theorem kM:ay ["_law_cell_here","_law_k","_law_number"] ["_law_cell_here","_law_k"] (ad fZ):=by walk_at "s"
noncomputable abbrev dH:Stmt:=top 36
theorem dO:ay ["_law_cell_here","_law_start","_law_many","_law_width","_law_digits","_law_found","_law_left","_law_k"] ["_law_cell_here","_law_start","_law_many","_law_width","_law_digits"] (ad dH):=by walk_at "s"
noncomputable abbrev cD:Stmt:=top 37
theorem bH:ay ["_law_masks_here","_law_cell_here","_law_start","_law_way","_law_found","_law_k","_law_mask"] ["_law_masks_here","_law_cell_here","_law_start","_law_way"] (ad cD):=by walk_at "s"
noncomputable abbrev bg:Stmt:=top 38
theorem ao:ay ["_law_script","_law_start","_law_most","_law_cell_here","_law_stores","_law_inputs","_law_outputs","_law_digits","_law_way","_law_one","_law_other","_law_shown","_law_straight"] ["_law_script","_law_start","_law_most"] (ad bg):=by walk_at "s"
noncomputable abbrev fY:Stmt:=top 39
theorem kL:ay ["_law_number","_law_shift"] ["_law_number"] (ad fY):=by walk_at "s"
noncomputable abbrev eM:Stmt:=top 40
theorem bj:ay ["_law_tables","_law_state","_law_row","_law_answer","_law_state_next","_law_k","_law_stores","_law_inputs"] ["_law_tables","_law_state","_law_row"] (ad eM):=by walk_at "s"
noncomputable abbrev dA:Stmt:=top 41
theorem fw:ay ["_law_rows","_law_left","_law_row","_law_low"] ["_law_rows"] (ad dA):=by walk_at "s"
noncomputable abbrev c2:Stmt:=top 42
theorem cC:ay ["_law_tables","_law_which","_law_turns","_law_answers","_law_state","_law_turn_here","_law_answer"] ["_law_tables","_law_which","_law_turns"] (ad c2):=by walk_at "s"
noncomputable abbrev gb:Stmt:=top 43
theorem iM:ay ["_law_tables","_law_rows","_law_state","_law_row"] ["_law_tables","_law_rows"] (ad gb):=by walk_at "s"
noncomputable abbrev bO:Stmt:=top 44
theorem dm:ay ["_law_tables","_law_state","_law_looks_here","_law_answers","_law_turn_here","_law_answer"] ["_law_tables","_law_state","_law_looks_here"] (ad bO):=by walk_at "s"
noncomputable abbrev dG:Stmt:=top 45
theorem uH:ay ["_law_thing","_law_most"] ["_law_thing","_law_most"] (ad dG):=by walk_at "s"
noncomputable abbrev cQ:Stmt:=top 46
theorem lH:ay ["_law_rows","_law_tables","_law_many","_law_one"] ["_law_rows","_law_tables","_law_many"] (ad cQ):=by walk_at "s"
noncomputable abbrev dI:Stmt:=top 47
theorem lG:ay ["_law_looks_here","_law_tables","_law_many","_law_look"] ["_law_looks_here","_law_tables","_law_many"] (ad dI):=by walk_at "s"
noncomputable abbrev cP:Stmt:=top 48
theorem dN:ay ["_law_tables","_law_told","_law_other","_law_rows","_law_looks_here","_law_many"] ["_law_tables","_law_told"] (ad cP):=by walk_at "s"
noncomputable abbrev zb:Stmt:=top 49
theorem kt:ay ["_law_script","_law_tables","_law_machine_here","_law_told","_law_due","_law_which","_law_turns","_law_held","_law_one","_law_again"] ["_law_script"] (ad zb):=by walk_at "s"
set_option genInjectivity false in
set_option genSizeOf false in
structure Ad where
 ci:Addr
 iB:FuncData
 dq:Addr
 mw:FuncData
 mm:Addr
 F5:FuncData
 d3:Addr
 rD:FuncData
 dZ:Addr
 rB:FuncData
 c6:Addr
 nM:FuncData
 d0:Addr
 rC:FuncData
 bC:Addr
 iR:FuncData
 fQ:Addr
 vX:FuncData
 bP:Addr
 jC:FuncData
 aB:Addr
 d4:FuncData
 aI:Addr
 fN:FuncData
 aF:Addr
 eV:FuncData
 aQ:Addr
 h8:FuncData
 av:Addr
 cW:FuncData
 aR:Addr
 h9:FuncData
 aT:Addr
 ia:FuncData
 aH:Addr
 fM:FuncData
 aM:Addr
 gv:FuncData
 bJ:Addr
 lj:FuncData
 aN:Addr
 gw:FuncData
 mq:Addr
 F6:FuncData
 dX:Addr
 rz:FuncData
 iP:Addr
 Am:FuncData
 dY:Addr
 rA:FuncData
 bQ:Addr
 jD:FuncData
 c7:Addr
 nN:FuncData
 a9:Addr
 gu:FuncData
 iQ:Addr
 An:FuncData
 cx:Addr
 li:FuncData
 c9:Addr
 nP:FuncData
 bU:Addr
 jG:FuncData
 bh:Addr
 hZ:FuncData
 bi:Addr
 h7:FuncData
 c8:Addr
 nO:FuncData
 cv:Addr
 lg:FuncData
 cw:Addr
 lh:FuncData
 bD:Addr
 iS:FuncData
 db:Addr
 nQ:FuncData
 bE:Addr
 iT:FuncData
 bR:Addr
 jE:FuncData
 bW:Addr
 jI:FuncData
 bV:Addr
 jH:FuncData
 bT:Addr
 jF:FuncData
 xX:Addr
 K2:FuncData
 ai:Addr
 aC:Addr
 bz:Addr
 bG:Addr
 iK:Tok
 kJ:Tok
 iJ:Tok
open PySem.W in
structure Tx (K:Frag) (mg:Str→Option Value) (a:Ad):Prop where
 ki:Fun K "is_whole" "is_whole" fX a.ci a.iB
 ub:keepIn K (.ref a.ci)=true
 kc:be K a.iB ["thing"] []
 uc:mg "is_whole"=some (.ref a.ci)
 mS:Fun K "is_mask" "is_mask" iq a.dq a.mw
 md:keepIn K (.ref a.dq)=true
 iF:be K a.mw ["thing","width"] []
 mh:mg "is_mask"=some (.ref a.dq)
 Bv:Fun K "even" "even" tO a.mm a.F5
 Bh:keepIn K (.ref a.mm)=true
 um:be K a.F5 ["number"] []
 Bk:mg "even"=some (.ref a.mm)
 mT:Fun K "bits_of" "bits_of" gh a.d3 a.rD
 xH:keepIn K (.ref a.d3)=true
 mK:be K a.rD ["mask"] []
 xP:mg "bits_of"=some (.ref a.d3)
 mQ:Fun K "mask_of" "mask_of" io a.dZ a.rB
 l9:keepIn K (.ref a.dZ)=true
 iE:be K a.rB ["places"] []
 mf:mg "mask_of"=some (.ref a.dZ)
 ke:Fun K "unpacked" "unpacked" eJ a.c6 a.nM
 CK:keepIn K (.ref a.c6)=true
 nX:be K a.nM ["whole","width","count"] []
 CO:mg "unpacked"=some (.ref a.c6)
 mR:Fun K "is_pair" "is_pair" ip a.d0 a.rC
 Fz:keepIn K (.ref a.d0)=true
 rX:be K a.rC ["thing","stores","inputs"] []
 FM:mg "is_pair"=some (.ref a.d0)
 fT:Fun K "check_table" "check_table" cr a.bC a.iR
 vH:keepIn K (.ref a.bC)=true
 iU:be K a.iR ["inputs","nexts","outs"] []
 vJ:mg "check_table"=some (.ref a.bC)
 pQ:Fun K "is_odd" "is_odd" jZ a.fQ a.vX
 HY:keepIn K (.ref a.fQ)=true
 wj:be K a.vX ["pair","state","row"] []
 Ig:mg "is_odd"=some (.ref a.fQ)
 gU:Fun K "odd_places" "odd_places" cO a.bP a.jC
 oz:keepIn K (.ref a.bP)=true
 gR:be K a.jC ["pairs","state","row"] []
 oA:mg "odd_places"=some (.ref a.bP)
 cM:Fun K "__init__" "Machine.__init__" bp a.aB a.d4
 Bi:keepIn K (.ref a.aB)=true
 cL:be K a.d4 ["self","inputs","nexts","outs"] []
 dz:Fun K "stores" "Machine.stores" bN a.aI a.fN
 DZ:keepIn K (.ref a.aI)=true
 bv:be K a.fN ["self"] []
 de:Fun K "outputs" "Machine.outputs" bF a.aF a.eV
 CM:keepIn K (.ref a.aF)=true
 dc:be K a.eV ["self"] []
 fq:Fun K "told" "Machine.told" cE a.aQ a.h8
 GN:keepIn K (.ref a.aQ)=true
 dr:be K a.h8 ["self"] []
 b7:Fun K "check_state" "Machine.check_state" aX a.av a.cW
 xL:keepIn K (.ref a.av)=true
 b0:be K a.cW ["self","state"] []
 fu:Fun K "step" "Machine.step" cF a.aR a.h9
 GO:keepIn K (.ref a.aR)=true
 fi:be K a.h9 ["self","state","row"] []
 fv:Fun K "back" "Machine.back" cG a.aT a.ia
 GP:keepIn K (.ref a.aT)=true
 fj:be K a.ia ["self","mask"] []
 dy:Fun K "__init__" "Steps.__init__" bM a.aH a.fM
 DY:keepIn K (.ref a.aH)=true
 dw:be K a.fM ["self","rows"] []
 d9:Fun K "lowered" "Steps.lowered" cc a.aM a.gv
 FA:keepIn K (.ref a.aM)=true
 d6:be K a.gv ["self","mask"] []
 i0:Fun K "lay" "Steps.lay" eQ a.bJ a.lj
 KO:keepIn K (.ref a.bJ)=true
 lC:be K a.lj ["self","place","row"] []
 eg:Fun K "barring" "Steps.barring" cf a.aN a.gw
 FC:keepIn K (.ref a.aN)=true
 gD:be K a.gw ["self","bit"] []
 Bw:Fun K "base" "base" tP a.mq a.F6
 Jj:keepIn K (.ref a.mq)=true
 Bt:be K a.F6 ["rows"] []
 Jm:mg "base"=some (.ref a.mq)
 mO:Fun K "sum_for" "sum_for" ik a.dX a.rz
 Fw:keepIn K (.ref a.dX)=true
 rV:be K a.rz ["rows","wish"] []
 FJ:mg "sum_for"=some (.ref a.dX)
 wB:Fun K "reach" "reach" jn a.iP a.Am
 KN:keepIn K (.ref a.iP)=true
 AE:be K a.Am ["machine","turns"] []
 KW:mg "reach"=some (.ref a.iP)
 mP:Fun K "rows_at" "rows_at" il a.dY a.rA
 Fx:keepIn K (.ref a.dY)=true
 rW:be K a.rA ["machine","places","turns"] []
 FK:mg "rows_at"=some (.ref a.dY)
 gW:Fun K "look_masks" "look_masks" cn a.bQ a.jD
 xG:keepIn K (.ref a.bQ)=true
 jP:be K a.jD ["machine"] []
 xO:mg "look_masks"=some (.ref a.bQ)
 kg:Fun K "odd_with" "odd_with" eK a.c7 a.nN
 j5:keepIn K (.ref a.c7)=true
 gd:be K a.nN ["mask","others"] []
 j7:mg "odd_with"=some (.ref a.c7)
 d8:Fun K "told_by_looks" "told_by_looks" cb a.a9 a.gu
 jy:keepIn K (.ref a.a9)=true
 d5:be K a.gu ["pair","states","seen"] []
 jA:mg "told_by_looks"=some (.ref a.a9)
 wC:Fun K "least" "least" dP a.iQ a.An
 Fy:keepIn K (.ref a.iQ)=true
 wg:be K a.An ["machine"] []
 FL:mg "least"=some (.ref a.iQ)
 iZ:Fun K "_law_cell" "_law_cell" eN a.cx a.li
 cU:keepIn K (.ref a.cx)=true
 b9:be K a.li ["_law_script","_law_k"] []
 cV:mg "_law_cell"=some (.ref a.cx)
 kl:Fun K "_law_mix" "_law_mix" fZ a.c9 a.nP
 c4:keepIn K (.ref a.c9)=true
 cj:be K a.nP ["_law_cell_here","_law_k"] []
 c5:mg "_law_mix"=some (.ref a.c9)
 gZ:Fun K "_law_masks" "_law_masks" dH a.bU a.jG
 gM:keepIn K (.ref a.bU)=true
 dL:be K a.jG ["_law_cell_here","_law_start","_law_many","_law_width","_law_digits"] []
 gO:mg "_law_masks"=some (.ref a.bU)
 fk:Fun K "_law_thinned" "_law_thinned" cD a.bh a.hZ
 sV:keepIn K (.ref a.bh)=true
 ib:be K a.hZ ["_law_masks_here","_law_cell_here","_law_start","_law_way"] []
 sX:mg "_law_thinned"=some (.ref a.bh)
 fm:Fun K "_law_machine" "_law_machine" bg a.bi a.h7
 sW:keepIn K (.ref a.bi)=true
 ie:be K a.h7 ["_law_script","_law_start","_law_most"] []
 sY:mg "_law_machine"=some (.ref a.bi)
 kj:Fun K "_law_odd" "_law_odd" fY a.c8 a.nO
 j6:keepIn K (.ref a.c8)=true
 ge:be K a.nO ["_law_number"] []
 j8:mg "_law_odd"=some (.ref a.c8)
 iX:Fun K "_law_turn" "_law_turn" eM a.cv a.lg
 k8:keepIn K (.ref a.cv)=true
 gC:be K a.lg ["_law_tables","_law_state","_law_row"] []
 k9:mg "_law_turn"=some (.ref a.cv)
 iY:Fun K "_law_free" "_law_free" dA a.cw a.lh
 z7:keepIn K (.ref a.cw)=true
 lw:be K a.lh ["_law_rows"] []
 Aa:mg "_law_free"=some (.ref a.cw)
 fU:Fun K "_law_single" "_law_single" c2 a.bD a.iS
 me:keepIn K (.ref a.bD)=true
 fS:be K a.iS ["_law_tables","_law_which","_law_turns"] []
 mi:mg "_law_single"=some (.ref a.bD)
 km:Fun K "_law_led" "_law_led" gb a.db a.nQ
 CL:keepIn K (.ref a.db)=true
 nY:be K a.nQ ["_law_tables","_law_rows"] []
 CP:mg "_law_led"=some (.ref a.db)
 fV:Fun K "_law_looked" "_law_looked" bO a.bE a.iT
 vI:keepIn K (.ref a.bE)=true
 iV:be K a.iT ["_law_tables","_law_state","_law_looks_here"] []
 vK:mg "_law_looked"=some (.ref a.bE)
 gX:Fun K "_law_whole" "_law_whole" dG a.bR a.jE
 jz:keepIn K (.ref a.bR)=true
 fH:be K a.jE ["_law_thing","_law_most"] []
 jB:mg "_law_whole"=some (.ref a.bR)
 g5:Fun K "_law_lists" "_law_lists" cQ a.bW a.jI
 xK:keepIn K (.ref a.bW)=true
 jS:be K a.jI ["_law_rows","_law_tables","_law_many"] []
 xS:mg "_law_lists"=some (.ref a.bW)
 g0:Fun K "_law_looks" "_law_looks" dI a.bV a.jH
 xJ:keepIn K (.ref a.bV)=true
 jR:be K a.jH ["_law_looks_here","_law_tables","_law_many"] []
 xR:mg "_law_looks"=some (.ref a.bV)
 gY:Fun K "_law_paper" "_law_paper" cP a.bT a.jF
 xI:keepIn K (.ref a.bT)=true
 jQ:be K a.jF ["_law_tables","_law_told"] []
 xQ:mg "_law_paper"=some (.ref a.bT)
 IH:Fun K "law" "law" zb a.xX a.K2
 Od:keepIn K (.ref a.xX)=true
 Nd:be K a.K2 ["_law_script"] []
 Oe:mg "law"=some (.ref a.xX)
 xT:mg "Machine"=some (.ref a.ai)
 au:Cls K a.ai
 No:Nn K a.ai
 yG:Mk K a.ai a.aB
 cA:Meth K a.ai "stores" a.aI
 iy:Meth K a.ai "outputs" a.aF
 hV:Meth K a.ai "told" a.aQ
 fG:Meth K a.ai "check_state" a.av
 kC:Meth K a.ai "step" a.aR
 kE:Meth K a.ai "back" a.aT
 DX:dh K a.ai "by_top"
 xq:dh K a.ai "free_places"
 bu:dh K a.ai "inputs"
 bI:dh K a.ai "nexts"
 yL:dh K a.ai "null_masks"
 cI:dh K a.ai "outs"
 FN:mg "Steps"=some (.ref a.aC)
 dE:Cls K a.aC
 N8:Nn K a.aC
 GD:Mk K a.aC a.aH
 jw:Meth K a.aC "lowered" a.aM
 zO:Meth K a.aC "lay" a.bJ
 qH:Meth K a.aC "barring" a.aN
 cH:dh K a.aC "by_top"
 dD:dh K a.aC "free_places"
 GM:dh K a.aC "inputs"
 HL:dh K a.aC "nexts"
 gL:dh K a.aC "null_masks"
 Jh:dh K a.aC "outs"
 xU:mg "BadMask"=some (.ref a.bz)
 ij:excIn K a.bz [.type "ValueError",.type "Exception",.type "BaseException",.type "object"] "ValueError.__new__"=true
 Np:XIsi K a.bz
 j9:mg "BadTable"=some (.ref a.bG)
 dF:excIn K a.bG [.type "ValueError",.type "Exception",.type "BaseException",.type "object"] "ValueError.__new__"=true
 Lm:XIsi K a.bG
 vM:mg "MOST_INPUTS"=some (.int 6 a.iK)
 Ab:mg "MOST_OUTS"=some (.int 6 a.kJ)
 vL:mg "MOST_STORES"=some (.int 120 a.iJ)
 N3:mg "all"=none
 Jg:mg "bool"=none
 HK:mg "divmod"=none
 cu:mg "enumerate"=none
 HJ:mg "int"=none
 ba:mg "isinstance"=none
 jv:mg "len"=none
 ix:mg "list"=none
 N1:mg "max"=none
 iO:mg "range"=none
 HI:mg "sorted"=none
 N0:mg "sum"=none
 qG:mg "tuple"=none
 ML:mg "zip"=none
section
variable {P:Program} {w:World} {K:PySem.W.Frag} {mg:Str→Option Value} {base:Heap} {a:Ad}
theorem qj (T:Tx K mg a):FnOk P w K mg base CX0 1 a.ci a.iB ["thing"] (pI K):=by
 refine T.ki.ok za (fun vs H Q E h=>?_) (fun cdv A outer s H vs Q E hr h=>?_)
 ·obtain ⟨x,k,rfl,_⟩:=h;rfl
 ·obtain ⟨x,k,rfl,hk,q⟩:=h
  refine ⟨_,((ah (aE (oa (aD (cB (K:=K) rfl) (by rfl) T.ba PyProof.Rows.boot_isinstance (aa (pv 0) (aa (fJ (v:= .ty "int") (by rfl) T.HJ PyProof.Rows.boot_int rfl) af))) (wV (Jb (aD (cB (K:=K) rfl) (by rfl) T.ba PyProof.Rows.boot_isinstance (aa (pv 0) (aa (fJ (v:= .ty "bool") (by rfl) T.Jg PyProof.Rows.boot_bool rfl) af))))))))),aA (σ':=[some _]) rfl ?_⟩
  walk_at "l2"
  unfold Eh at q
  cases hc:subB k "int"
  ·rw [hc] at q
   walk_at "l2"
   exact q
  ·rw [hc] at q
   walk_at "l2"
   exact q
local macro_rules | `(tactic| walk_at "l2step") =>`(tactic| ((with_reducible refine' lv ?e ?_);(case e=>walk_at "l2kind")))
theorem nj (T:Tx K mg a):FnOk P w K mg base CX0 2 a.dq a.mw ["thing","width"] (yU K):=by
 have G_is_whole:FnOk P w K mg base CX0 1 a.ci a.iB ["thing"] (pI K):=qj T
 refine T.mS.ok BX (fun vs H Q E h=>?_) (fun cdv A outer s H vs Q E hr h=>?_)
 ·obtain ⟨x,k,w,rfl,_⟩:=h;rfl
 ·obtain ⟨x,k,wd,rfl,hk,q⟩:=h
  refine ⟨_,((ah (aE (oa (aj G_is_whole (hr.mono (by decide)) (by rfl) T.uc T.ub T.kc .nil az (aa (pv 0) af)) (oa (g6 NX (pv 0) ag (a8 _)) (wV (g6 MF (g7 (K:=K) rfl PySem.F.plainAttrs_int PySem.F.slot_int_bit_length PySem.F.type_int_bit_length kX (pv 0)) (pv 1) (a8 _)))))))),aA (σ':=[some _,some _]) rfl ?_⟩
  walk_at "l2"
  cases x with
  | int i=>
    have hk:k="int":=hk
    subst hk
    walk_at "l2"
    have q:Q (.bl (decide (0≤i)&&decide (((Builtin.Int.intBits i:Nat):Int)≤wd))) H:=q
    cases hc:decide (0≤i)
    ·rw [hc] at q;walk_at "l2";exact q
    ·rw [hc] at q;walk_at "l2";exact q
  | bl b=>have hk:k="bool":=hk;subst hk;walk_at "l2";exact q
  | non=>have hk:k="NoneType":=hk;subst hk;walk_at "l2";exact q
  | str z=>have hk:k="str":=hk;subst hk;walk_at "l2";exact q
  | ref p=>
    rcases hk with ⟨rfl,_⟩ | ⟨rfl,_⟩ | ⟨rfl,_⟩<;>walk_at "l2"<;>exact q
  | _=>exact False.elim hk
local macro_rules | `(tactic| walk_at "l2step") =>`(tactic| ((with_reducible refine' rS ?e ?_);(case e=>walk_at "l2kind")))
theorem zv (T:Tx K mg a):FnOk P w K mg base CX0 1 a.mm a.F5 ["number"] JX:=by
 refine T.Bv.ok p6 (fun vs H Q E h=>?_) (fun cdv A outer s H vs Q E hr h=>?_)
 ·obtain ⟨m,rfl,_⟩:=h;rfl
 ·obtain ⟨m,rfl,hm,q⟩:=h
  refine ⟨_,((ae (ar (i:=1) p6.nd rfl (by walk_at "o") (g7 (K:=K) rfl PySem.F.plainAttrs_int PySem.F.slot_int_bit_length PySem.F.type_int_bit_length kX (pv 0)))
   (ae (uK PassesOwn.never (a7 uZ (pv 1) ag (a8 _)) (ae (ar (i:=2) p6.nd rfl (by walk_at "o") (am kR (am cq (pv 1) ag) ag))
   (ae (ar (i:=0) p6.nd rfl (by walk_at "o") (am kB (am xa (pv 0) (pv 2)) (am dU (pv 0) (am ou (am fz ag (pv 2)) ag))))
   (ah (ar (i:=1) p6.nd rfl (by walk_at "o") (pv 2))))))
   (ah (aE (g6 oP (pv 0) ag (a8 _))))))),aA (σ':=[some _,none,none]) rfl ?_⟩
  walk_at "l2"
  refine ⟨fun μ σ' H'=>∃ n hf,σ'=[some (nat n),some (nat μ),hf]∧H'=H∧n < 2 ^ μ∧μ≤1000∧M.od n=M.od m,⟨Builtin.Int.intBits (m:Int),m,none,rfl,rfl,AC m,AD hm,rfl⟩,?_⟩
  rintro μ σ' H' ⟨n,hf,rfl,rfl,hn,hw,hp⟩
  walk_at "l2"
  refine iteB (fun hc=>?_) (fun hc=>?_)
  ·have hc:=of_decide_eq_true hc
   have hlt:(μ + 1) / 2 < μ:=by omega
   refine ⟨fun σ2 H2=>∃ n2 hf,σ2=[some (nat n2),some (nat ((μ + 1) / 2)),hf]∧H2=H'∧n2 < 2 ^ ((μ + 1) / 2)∧M.od n2=M.od m,fun σ2 H2 ⟨n2,hf2,e1,e2,e3,e4⟩=>⟨(μ + 1) / 2,hlt,n2,hf2,e1,e2,e3,by omega,e4⟩,?_⟩
   walk_at "l2"
   refine ⟨(n>>>((μ + 1) / 2))^^^(n&&&(2 ^ ((μ + 1) / 2) - 1)),some (nat ((μ + 1) / 2)),?_,rfl,M.fold_lt μ _ n hn (by omega),?_⟩
   ·rw [FI,FR]
   ·rw [← hp]
    have f:=M.pb_fold μ ((μ + 1) / 2) n (by omega) hn (by omega)
    show M.pb 1000 _=M.pb 1000 _
    rw [M.pb_up (M.fold_lt μ _ n hn (by omega)) (by omega),f,← M.pb_up hn hw]
  ·have hc:=of_decide_eq_false hc
   have hn2:n < 2:=Nat.lt_of_lt_of_le hn (Nat.pow_le_pow_right (by decide) (show μ≤1 by omega))
   walk_at "l2"
   rw [show decide (V.int (n:Int)=V.int 0)= !M.od n from Hu hn2,hp]
   exact q
theorem oR (T:Tx K mg a):FnOk P w K mg base CX0 2 a.aN a.gw ["self","bit"] (LM a.aC):=by
 have uo:=@zv P w K mg base a T
 refine T.eg.ok du (fun vs H Q E h=>?_) (fun cdv A outer s H vs Q E hr h=>?_)
 ·obtain ⟨p,d,f,n,rows,b,rfl,_⟩:=h;rfl
 ·obtain ⟨p,d,f,n,rows,b,rfl,st,hb,hr1,h64,hnt,q⟩:=h
  have hu:=Ib hr
  obtain ⟨dx,ho⟩:=st.ho
  obtain ⟨es,hd,ht,g,l⟩:=st.he
  have nd:(es.map fun e=>e.m.log2).Nodup:=by have:=g.nd;rw [List.map_map] at this;exact this
  refine ⟨_,((ae (ar (i:=2) du.nd rfl (by walk_at "o") (am fz ag (pv 1)))
   (ae (eh PassesOwn.never rfl (aZ (K:=K) rfl (aD (Df rfl) (by rfl) T.HI PyProof.Rows.boot_sorted (aa (bt (K:=K) rfl (pv 0) rfl) af))) (ak (i:=3) du.nd rfl (by walk_at "o")) (ah (di (cR (cz (aj uo (hr.mono (by decide)) (by rfl) T.Bk T.Bh T.um .nil az (aa (am dU (pv 2) (aV (aq (K:=K) rfl) (EW hu (bt (K:=K) rfl (pv 0) rfl) (pv 3) (fun _ _=>rfl)) ag (fun _ _=>rfl))) af)))) (ah (ar (i:=2) du.nd rfl (by walk_at "o") (am kB (pv 2) (am fz ag (pv 3))))) aU)))
   (ah (aE (pv 2)))))),aA (σ':=[some _,some _,none,none]) rfl ?_⟩
  walk_at "l2"
  refine bq ho T.dE T.cH rfl ?_
  walk_at "l2"
  refine J7 hd (HV es) (by unfold l7;rw [List.length_map];omega) fun L ns H1 f1 s1 e1 hp hw=>?_
  obtain ⟨ts,rfl,up,mem⟩:=yT hp hw nd
  rw [← zL] at e1
  walk_at "l2"
  rw [shl1]
  refine gP (xs:=ts.map nat) (fun i σ H'=>∃ (m:Nat) (v:Option V),σ=[some (.ref p),some (nat b),some (nat m),v]∧H'=H1∧M.BarI (es.map fun e=>(e.m,e.p)) (ts.take i) b m) ⟨2 ^ b,none,rfl,rfl,M.BarI.zero _ b⟩ (fun i σ H' _ ⟨_,_,_,e,_⟩=>by rw [e];exact SqL.of e1) ?_ ?_
  ·rintro i y σ H' hy ⟨m,v,rfl,rfl,I⟩
   obtain ⟨t,hti,rfl⟩:=aK hy
   obtain ⟨hi,eti⟩:=List.getElem?_eq_some_iff.mp hti
   rcases pU es (t:Int) with ⟨e,he,ez,ev⟩ | ⟨hno,_⟩
   ·have ez:e.m.log2=t:=by omega
    subst ez
    have hem:(e.m,e.p)∈es.map (fun e=>(e.m,e.p)):=List.mem_map.mpr ⟨e,he,rfl⟩
    have hm1:e.m < 2 ^ 1000:=M.span_lt hr1 (g.span hem)
    have ht1:e.m.log2 < 1000:=M.log2_under (g.nz _ hem) hm1
    have hte:=s1.get (ht e he)
    have hup:∀ t∈ts.take i,t < e.m.log2:=fun t hm=>by
     obtain ⟨j,hj,ej⟩:=List.mem_iff_getElem.mp hm
     rw [List.length_take] at hj
     rw [List.getElem_take] at ej
     have:=List.pairwise_iff_getElem.mp up j i (by omega) hi (by omega)
     rw [ej,eti] at this
     exact this
    have ntb:e.m.log2≠b:=hnt e.m (g.span hem) (g.nz _ hem)
    have nd':=g.nd
    walk_at "l2"
    refine bq (s1.get ho) T.dE T.cH rfl ?_
    walk_at "l2"
    refine EE (s1.get hd) ev ?_
    walk_at "l2"
    rw [aO]
    refine ⟨m&&&e.m,rfl,Nat.lt_of_le_of_lt Nat.and_le_right hm1,?_⟩
    cases hod:M.od (m&&&e.m) with
    | true=>
      walk_at "l2"
      refine ⟨m^^^2 ^ e.m.log2,some (nat e.m.log2),by rw [shl1,cJ],rfl,?_⟩
      rw [take_succ hti]
      exact I.flip (e:=(e.m,e.p)) nd' g.nz hem hod hup ntb ht1
    | false=>
      walk_at "l2"
      rw [take_succ hti]
      exact I.keep (e:=(e.m,e.p)) nd' hem hod
   ·obtain ⟨e,he,ez⟩:=(mem t).mp (List.mem_of_getElem? hti)
    exact absurd (by rw [ez]) (hno e he)
  ·rintro σ H' ⟨m,v,rfl,rfl,I⟩
   rw [List.length_map,List.take_length] at I
   walk_at "l2"
   refine q m H' s1 (I.done g fun e he=>?_)
   obtain ⟨e',he',rfl⟩:=List.mem_map.mp he
   exact (mem _).mpr ⟨e',he',rfl⟩
theorem ua (T:Tx K mg a):FnOk P w K mg base CX0 1 a.d3 a.rD ["mask"] JZ:=by
 refine T.mT.ok BY (fun vs H Q E h=>?_) (fun cdv A outer s H vs Q E hr h=>?_)
 ·obtain ⟨m,rfl,_⟩:=h;rfl
 ·obtain ⟨m,rfl,hm,q⟩:=h
  have hb:=AD hm
  refine ⟨_,((ah (aE (dC (osc:=ad gh) (ON:=["mask"]) (N:=["place","mask"]) (n:=1) (fx:=[0]) rfl rfl rfl (by decide +kernel) (dR (by rfl) T.iO (aa (g7 (K:=K) rfl PySem.F.plainAttrs_int PySem.F.slot_int_bit_length PySem.F.type_int_bit_length kX (pv 0)) af)) (aW (by decide)) (fun _ _ _ _ _=>⟨(ak (i:=0) (show List.Nodup (["place","mask"]:List Str) from by decide +kernel) rfl (by walk_at "o")),(uJ (a7 oP (am dU (am xa (pv 1) (pv 0)) ag) ag (a8 _))),(pv 0)⟩))))),aA (σ':=[some _]) rfl ?_⟩
  walk_at "l2"
  intro D hD
  refine nU (fun i ys H'=>Cs (fun i ys=>ys=(M.pl i m).map nat) H D i ys H') (Cs.zero hD rfl) (fun i ys H' hi c=>?_) (fun ys H' c=>?_)
  ·walk_at "l2"
   rw [IC]
   by_cases ht:m.testBit i=true
   ·rw [if_pos ht]
    walk_at "l2"
    refine Cs.put hD c.same c.at' c.len (by omega) ?_
    rw [c.pv,M.pl_next,if_pos ht,List.map_append,Int.zero_add]
    rfl
   ·rw [if_neg ht]
    walk_at "l2"
    refine Cs.skip c.same c.at' c.len ?_
    rw [c.pv,M.pl_next,if_neg ht,List.append_nil]
  ·have e:=c.pv
   rw [Int.toNat_natCast] at e
   refine q D H' hD c.same ?_
   rw [c.at',e,M.pl_up (AC m) hb]
theorem j3 (T:Tx K mg a):FnOk P w K mg base CX0 1 a.dZ a.rB ["places"] Ep:=by
 refine T.mQ.ok jY (fun vs H Q E h=>?_) (fun cdv A outer s H vs Q E hr h=>?_)
 ·obtain ⟨r,ps,rfl,_⟩:=h;rfl
 ·obtain ⟨r,ps,rfl,hp,hl,q⟩:=h
  refine ⟨_,((ae (ar (i:=1) jY.nd rfl (by walk_at "o") ag)
   (ae (eh PassesOwn.never rfl (aZ (K:=K) rfl (pv 0)) (ak (i:=2) jY.nd rfl (by walk_at "o")) (ah (ar (i:=1) jY.nd rfl (by walk_at "o") (am kB (pv 1) (am fz ag (pv 2))))))
   (ah (aE (pv 1)))))),aA (σ':=[some _,none,none]) rfl ?_⟩
  walk_at "l2"
  refine gP (xs:=ps.map nat) (fun i σ H'=>∃ v,σ=[some (.ref r),some (nat (M.xm (ps.take i))),v]∧H'=H) ⟨none,rfl,rfl⟩ (fun i σ H' _ ⟨_,_,e⟩=>by rw [e];exact SqL.of hp) ?_ ?_
  ·rintro i y σ H' hy ⟨v,rfl,rfl⟩
   obtain ⟨k,hk,rfl⟩:=aK hy
   have:=hl k (List.mem_of_getElem? hk)
   walk_at "l2"
   refine ⟨some (nat k),?_,rfl⟩
   rw [shl1,cJ,JJ hk]
  ·rintro σ H' ⟨v,rfl,rfl⟩
   rw [List.length_map,List.take_length]
   walk_at "l2"
   exact q
end
section
variable {P:Program} {w:World} {K:PySem.W.Frag} {mg:Str→Option Value} {base:Heap} {a:Ad}
local macro_rules | `(tactic| walk_at "l2step") =>`(tactic| first | ((with_reducible refine' lv ?e ?_);(case e=>walk_at "l2kind")) | ((with_reducible refine' rS ?e ?_);(case e=>walk_at "l2kind")) | (with_reducible refine j0 ?_) | (with_reducible refine m8 ?_))
theorem Ce (T:Tx K mg a):FnOk P w K mg base CX0 3 a.d0 a.rC ["thing","stores","inputs"] GY:=by
 have iH:FnOk P w K mg base CX0 2 a.dq a.mw ["thing","width"] (yU K):=nj T
 refine T.mR.ok BW (fun vs H Q E h=>?_) (fun cdv A outer s H vs Q E hr h=>?_)
 ·obtain ⟨t,x,y,n,m,rfl,_⟩:=h;rfl
 ·obtain ⟨t,x,y,n,m,rfl,ht,hx,hy,q⟩:=h
  refine ⟨_,((ae (di (PW.pt (m9 (cR (cz (aD (cB (K:=K) rfl) (by rfl) T.ba PyProof.Rows.boot_isinstance (aa (pv 0) (aa (fJ (v:= .ty "tuple") (by rfl) T.qG PyProof.Rows.boot_tuple rfl) af))))) (i3 (a7 uY (aD (bo (K:=K) rfl) (by rfl) T.jv PySem.boot_len (aa (pv 0) af)) ag (a8 _))))) (ah (aE kn)) aU)
   (ah (aE (oa (aj iH (hr.mono (by decide)) (by rfl) T.mh T.md T.iF .nil az (aa (aV (aq (K:=K) rfl) (pv 0) ag (fun _ _=>rfl)) (aa (pv 1) af))) (wV (aj iH (hr.mono (by decide)) (by rfl) T.mh T.md T.iF .nil az (aa (aV (aq (K:=K) rfl) (pv 0) ag (fun _ _=>rfl)) (aa (pv 2) af))))))))),aA (σ':=[some _,some _,some _]) rfl ?_⟩
  walk_at "l2"
  refine Kb (fE hx) ?_
  walk_at "l2"
  rw [fE hy]
  exact q
theorem su (T:Tx K mg a):FnOk P w K mg base CX0 4 a.bC a.iR ["inputs","nexts","outs"] JY:=by
 have G_is_whole:FnOk P w K mg base CX0 1 a.ci a.iB ["thing"] (pI K):=qj T
 have GH:=@Ce P w K mg base a T
 refine T.fT.ok sk (fun vs H Q E h=>?_) (fun cdv A outer s H vs Q E hr h=>?_)
 ·obtain ⟨n,o,m,nx,os,rfl,_⟩:=h;rfl
 ·obtain ⟨n,o,m,nx,os,rfl,t,q⟩:=h
  refine ⟨_,((ae (di (PW.pt (m9 (cR (cz (aj G_is_whole (hr.mono (by decide)) (by rfl) T.uc T.ub T.kc .nil az (aa (pv 0) af)))) (m9 (a7 KA (pv 0) ag (a8 _)) (i3 (a7 uZ (pv 0) (zk (v:= .int 6) (by rfl) T.vM ⟨_,rfl⟩) (a8 _)))))) (ah (j1 PySem.F.excBase_ValueError T.dF thr0 rfl (by rfl) T.j9 (aa n9 af))) aU)
   (ae (di (PW.pt (m9 (cR (cz (aD (cB (K:=K) rfl) (by rfl) T.ba PyProof.Rows.boot_isinstance (aa (pv 1) (aa (fJ (v:= .ty "list") (by rfl) T.ix PyProof.Rows.boot_list rfl) af))))) (i3 (a7 uZ (aD (bo (K:=K) rfl) (by rfl) T.jv PySem.boot_len (aa (pv 1) af)) (zk (v:= .int 120) (by rfl) T.vL ⟨_,rfl⟩) (a8 _))))) (ah (j1 PySem.F.excBase_ValueError T.dF thr0 rfl (by rfl) T.j9 (aa n9 af))) aU)
   (ae (di (PW.pt (m9 (cR (cz (aD (cB (K:=K) rfl) (by rfl) T.ba PyProof.Rows.boot_isinstance (aa (pv 2) (aa (fJ (v:= .ty "list") (by rfl) T.ix PyProof.Rows.boot_list rfl) af))))) (i3 (a7 uZ (aD (bo (K:=K) rfl) (by rfl) T.jv PySem.boot_len (aa (pv 2) af)) (zk (v:= .int 6) (by rfl) T.Ab ⟨_,rfl⟩) (a8 _))))) (ah (j1 PySem.F.excBase_ValueError T.dF thr0 rfl (by rfl) T.j9 (aa n9 af))) aU)
   (ah (di (cR (cz (aD (Ge (K:=K) rfl rfl) (by rfl) T.N3 PyProof.Rows.boot_all (aa (dC (osc:=ad cr) (ON:=["inputs","nexts","outs"]) (N:=["pair","nexts","inputs"]) (n:=1) (fx:=[1,0]) rfl rfl rfl (by decide +kernel) (aZ (K:=K) rfl (am E3 (pv 1) (pv 2))) (aW (by decide)) (fun _ _ _ _ _=>⟨(ak (i:=0) (show List.Nodup (["pair","nexts","inputs"]:List Str) from by decide +kernel) rfl (by walk_at "o")),bL,(aj GH (hr.mono (by decide)) (by rfl) T.FM T.Fz T.rX .nil az (aa (pv 0) (aa (aD (bo (K:=K) rfl) (by rfl) T.jv PySem.boot_len (aa (pv 1) af)) (aa (pv 2) af))))⟩)) af)))) (ah (j1 PySem.F.excBase_ValueError T.dF thr0 rfl (by rfl) T.j9 (aa n9 af))) aU)))))),aA (σ':=[some _,some _,some _]) rfl ?_⟩
  walk_at "l2"
  have m6:=t.m6
  have ln:=t.ln
  have lo:=t.lo
  have hn:=t.n
  have ho:=t.o
  have en:(refs nx).length=nx.length:=List.length_map ..
  have eo:(refs os).length=os.length:=List.length_map ..
  refine BZ (decide_eq_false (by omega)) ?_
  walk_at "l2"
  refine BZ (decide_eq_false (by omega)) ?_
  walk_at "l2"
  refine BZ (decide_eq_false (by omega)) ?_
  walk_at "l2"
  refine Kk hn ho (by rw [sizeLine_eq];omega) fun p H2 f2 s2 e2=>?_
  walk_at "l2"
  intro D hD
  refine bw (xs:=refs nx++refs os) (fun i ys H'=>Cs (fun i ys=>ys=(List.replicate i true).map V.bl) H2 D i ys H') (Cs.zero hD rfl) (fun i ys H' _ c=>SqL.of (c.same.get e2)) (fun i x ys H' hx c=>?_) (fun ys H' c=>?_)
  ·have hx:(refs (nx++os))[i]? =some x:=by unfold refs at hx ⊢;rw [List.map_append];exact hx
   obtain ⟨pr,hpr,rfl⟩:=aK hx
   have hm:=List.mem_of_getElem? hpr
   have hi:=(List.getElem?_eq_some_iff.mp hpr).1
   rw [List.length_append] at hi
   have hb:=t.bn pr hm
   have ht:H pr.1=some (.tup [nat pr.2.1,nat pr.2.2]):=(List.mem_append.mp hm).elim (t.pn pr) (t.po pr)
   have hn':=c.same.get (s2.get hn)
   walk_at "l2"
   rw [en]
   refine ⟨pr.1,pr.2.1,pr.2.2,nx.length,m,rfl,c.same.get (s2.get ht),hb.1,hb.2,?_⟩
   refine Cs.put hD c.same c.at' c.len (by omega) ?_
   rw [c.pv,List.replicate_succ',List.map_append];rfl
  ·have ec:=c.at'
   rw [c.pv] at ec
   walk_at "l2"
   refine Mj (SqL.of ec) ?_
   walk_at "l2"
   refine BZ (by rw [List.all_replicate];simp) ?_
   walk_at "l2"
   exact q H' (s2.trans c.same)
theorem gq (T:Tx K mg a):FnOk P w K mg base CX0 5 a.aB a.d4 ["self","inputs","nexts","outs"] (JU a.ai):=by
 have wz:=@su P w K mg base a T
 refine T.cM.ok kN (fun vs H Q E h=>?_) (fun cdv A outer s H vs Q E hr h=>?_)
 ·obtain ⟨x,dx,n,o,m,nx,os,rfl,_⟩:=h;rfl
 ·obtain ⟨x,dx,n,o,m,nx,os,rfl,hx,t,q⟩:=h
  refine ⟨_,((ae (dB (aj wz (hr.mono (by decide)) (by rfl) T.vJ T.vH T.iU .nil az (aa (pv 1) (aa (pv 2) (aa (pv 3) af)))))
   (ae (nc (K:=K) rfl (pv 0) (pv 1) rfl)
   (ae (nc (K:=K) rfl (pv 0) (dn (rQ (K:=K) rfl) (by rfl) T.qG PyProof.Rows.boot_tuple (aa (pv 2) af)) rfl)
   (ah (nc (K:=K) rfl (pv 0) (dn (rQ (K:=K) rfl) (by rfl) T.qG PyProof.Rows.boot_tuple (aa (pv 3) af)) rfl)))))),aA (σ':=[some _,some _,some _,some _]) rfl ?_⟩
  walk_at "l2"
  refine ⟨n,o,m,nx,os,rfl,t,fun H1 s1=>?_⟩
  have nnx:=iN t.n hx (by simp)
  have onx:=iN t.o hx (by simp)
  walk_at "l2"
  refine mZ (s1.get hx) T.au T.bu (by decide) rfl fun H2 u2=>?_
  have hn2:=u2.oth _ _ nnx (s1.get t.n)
  have ho2:=u2.oth _ _ onx (s1.get t.o)
  walk_at "l2"
  intro tn H3 f3 s3 e3
  have tnx:tn≠x:=fun z=>by rw [z,u2.at'] at f3;cases f3
  walk_at "l2"
  refine mZ (s3.get u2.at') T.au T.bI (by show 1 < 1000;decide) rfl fun H4 u4=>?_
  have ho4:=u4.oth _ _ onx (s3.get ho2)
  have e4:=u4.oth _ _ tnx e3
  walk_at "l2"
  intro to H5 f5 s5 e5
  have tox:to≠x:=fun z=>by rw [z,u4.at'] at f5;cases f5
  walk_at "l2"
  refine mZ (s5.get u4.at') T.au T.cI (by show 2 < 1000;decide) rfl fun H6 u6=>?_
  have k:∀ b ob,b≠x→H b=some ob→H6 b=some ob:=fun b ob nb e=>u6.oth _ _ nb (s5.get (u4.oth _ _ nb (s3.get (u2.oth _ _ nb (s1.get e)))))
  walk_at "l2"
  refine q H6 k ⟨⟨dx,tn,to,u6.at',u6.oth _ _ tnx (s5.get e4),u6.oth _ _ tox e5⟩,fun pr h=>k _ _ ?_ (t.pn pr h),fun pr h=>k _ _ ?_ (t.po pr h)⟩
  ·exact iN (t.pn pr h) hx (by simp)
  ·exact iN (t.po pr h) hx (by simp)
theorem c3 (T:Tx K mg a):FnOk P w K mg base CX0 1 a.aI a.fN ["self"] (Em a.ai):=by
 refine T.dz.ok mY (fun vs H Q E h=>?_) (fun cdv A outer s H vs Q E hr h=>?_)
 ·obtain ⟨p,m,nx,os,rfl,_⟩:=h;rfl
 ·obtain ⟨p,m,nx,os,rfl,ma,q⟩:=h
  obtain ⟨dx,tn,to,ho,hn,ho2⟩:=ma.ho
  refine ⟨_,((ah (aE (aD (bo (K:=K) rfl) (by rfl) T.jv PySem.boot_len (aa (bt (K:=K) rfl (pv 0) rfl) af))))),aA (σ':=[some _]) rfl ?_⟩
  walk_at "l2"
  refine bq ho T.au T.bI rfl ?_
  walk_at "l2"
  unfold refs
  rw [List.length_map]
  exact q
theorem E4 (T:Tx K mg a):FnOk P w K mg base CX0 2 a.fQ a.vX ["pair","state","row"] G7:=by
 have uo:=@zv P w K mg base a T
 refine T.pQ.ok EC (fun vs H Q E h=>?_) (fun cdv A outer s H vs Q E hr h=>?_)
 ·obtain ⟨t,x1,x2,x,r,rfl,_⟩:=h;rfl
 ·obtain ⟨t,a1,b1,x,r,rfl,ht,ha,hb,q⟩:=h
  refine ⟨_,((ah (aE (g6 uY (aj uo (hr.mono (by decide)) (by rfl) T.Bk T.Bh T.um .nil az (aa (am dU (aV (aq (K:=K) rfl) (pv 0) ag (fun _ _=>rfl)) (pv 1)) af)) (aj uo (hr.mono (by decide)) (by rfl) T.Bk T.Bh T.um .nil az (aa (am dU (aV (aq (K:=K) rfl) (pv 0) ag (fun _ _=>rfl)) (pv 2)) af)) (a8 _))))),aA (σ':=[some _,some _,some _]) rfl ?_⟩
  walk_at "l2"
  rw [aO]
  refine ⟨a1&&&x,rfl,Nat.lt_of_le_of_lt Nat.and_le_left ha,?_⟩
  walk_at "l2"
  rw [aO]
  refine ⟨b1&&&r,rfl,Nat.lt_of_le_of_lt Nat.and_le_left hb,?_⟩
  walk_at "l2"
  rw [Ec]
  exact q
theorem u0 (T:Tx K mg a):FnOk P w K mg base CX0 3 a.bP a.jC ["pairs","state","row"] (JT K):=by
 have IG:=@E4 P w K mg base a T
 have gE:=@j3 P w K mg base a T
 refine T.gU.ok uG (fun vs H Q E h=>?_) (fun cdv A outer s H vs Q E hr h=>?_)
 ·obtain ⟨r,ps,x,y,rfl,_⟩:=h;rfl
 ·obtain ⟨r,ps,x,y,rfl,hp,pt,hl,hb,q⟩:=h
  refine ⟨_,((ah (aE (aj gE (hr.mono (by decide)) (by rfl) T.mf T.l9 T.iE .nil az (aa (dC (osc:=ad cO) (ON:=["pairs","state","row"]) (N:=["place","pair","state","row"]) (n:=2) (fx:=[1,2]) rfl rfl rfl (by decide +kernel) (uT (K:=K) rfl (by rfl) T.cu (pv 0)) (xN (fh (aW (by decide)) (fh (aW (by decide)) rf))) (fun _ _ _ _ _=>⟨(qe (K:=K) (n:=2) rfl rfl (aL (ak (i:=0) (show List.Nodup (["place","pair","state","row"]:List Str) from by decide +kernel) rfl (by walk_at "o")) (aL (ak (i:=1) (show List.Nodup (["place","pair","state","row"]:List Str) from by decide +kernel) rfl (by walk_at "o")) dS))),(uJ (cz (aj IG (hr.mono (by decide)) (by rfl) T.Ig T.HY T.wj .nil az (aa (pv 1) (aa (pv 2) (aa (pv 3) af)))))),(pv 0)⟩)) af))))),aA (σ':=[some _,some _,some _]) rfl ?_⟩
  walk_at "l2"
  refine .inr ⟨⟨_,hp⟩,?_⟩
  intro D hD
  refine Db (xs:=refs ps) (fun i ys H'=>Cs (fun i ys=>∃ qs:List Nat,ys=qs.map nat∧(∀ p∈qs,p < i)∧M.xm qs=M.tr2 (prs (ps.take i)) x y) H D i ys H') (Cs.zero hD ⟨[],rfl,fun _ h=>absurd h (by simp),rfl⟩) (fun i ys H' _ c=>Same.tup c.same hp) (fun i v ys H' p H7 hv c fp s7 e7=>?_) (fun ys H' c=>?_)
  ·obtain ⟨pr,hpr,rfl⟩:=aK hv
   obtain ⟨qs,eqs,hq,exm⟩:=c.pv
   have hm:=List.mem_of_getElem? hpr
   have hi:=(List.getElem?_eq_some_iff.mp hpr).1
   have ht:=s7.get (c.same.get (pt pr hm))
   have ts:=GU x y hpr
   walk_at "l2"
   refine ⟨pr.1,pr.2.1,pr.2.2,x,y,rfl,ht,(hb pr hm).1,(hb pr hm).2,?_⟩
   cases hod:(M.od (pr.2.1&&&x)^^M.od (pr.2.2&&&y)) with
   | true=>
     rw [hod,if_pos rfl] at ts
     walk_at "l2"
     refine Cs.put hD (c.same.trans s7) (s7.get c.at') c.len (by omega) ⟨qs++[i],?_,fun k hk=>?_,?_⟩
     ·rw [eqs,List.map_append];rfl
     ·rcases List.mem_append.mp hk with h | h
      ·have:=hq k h;omega
      ·rw [List.mem_singleton.mp h];omega
     ·rw [M.xm_snoc,exm,ts]
   | false=>
     rw [hod,if_neg Bool.false_ne_true,Nat.xor_zero] at ts
     walk_at "l2"
     refine Cs.skip (c.same.trans s7) (s7.get c.at') c.len ⟨qs,eqs,fun k hk=>?_,?_⟩
     ·have:=hq k hk;omega
     ·rw [exm,ts]
  ·obtain ⟨qs,eqs,hq,exm⟩:=c.pv
   rw [dQ] at hq exm
   have ec:=c.at'
   rw [eqs] at ec
   walk_at "l2"
   refine ⟨D,qs,rfl,ec,fun k hk=>by have:=hq k hk;omega,?_⟩
   rw [exm,List.take_length]
   exact q _ c.same
theorem er (T:Tx K mg a):FnOk P w K mg base (CX1 P w) 3 a.av a.cW ["self","state"] (LL K a.ai a.bz):=by
 have iH:=@nj P w K mg base a T
 refine T.b7.okX jb (fun vs H Q E h=>?_) (fun cdv A outer s H vs Q E hr h=>?_)
 ·obtain ⟨p,m,nx,os,x,k,rfl,_⟩:=h;rfl
 ·obtain ⟨p,m,nx,os,x,k,rfl,ma,hk,qQ,qE⟩:=h
  obtain ⟨dx,tn,to,ho,hn,ho2⟩:=ma.ho
  refine ⟨_,((ah (di (cR (cz (aj iH (hr.mono (by decide)) (by rfl) T.mh T.md T.iF .nil az (aa (pv 1) (aa (aD (bo (K:=K) rfl) (by rfl) T.jv PySem.boot_len (aa (bt (K:=K) rfl (pv 0) rfl) af)) af))))) (ah (j1 PySem.F.excBase_ValueError T.ij pH rfl (by rfl) T.xU (aa n9 af))) aU))),aA (σ':=[some _,some _]) rfl ?_⟩
  walk_at "l2"
  refine bq ho T.au T.bI rfl ?_
  walk_at "l2"
  rw [dQ]
  cases hm:nB x (nx.length:Int) with
  | false=>
    walk_at "l2"
    exact ⟨by rw [sizeLine_eq];decide,qE hm⟩
  | true=>
    walk_at "l2"
    exact qQ hm
theorem qo (T:Tx K mg a):FnOk P w K mg base (CX1 P w) 4 a.aR a.h9 ["self","state","row"] (GZ K a.ai a.bz):=by
 have iH:=@nj P w K mg base a T
 have cZ:=@er P w K mg base a T
 have oG:=@u0 P w K mg base a T
 refine T.fu.okX p8 (fun vs H Q E h=>?_) (fun cdv A outer s H vs Q E hr h=>?_)
 ·obtain ⟨p,m,nx,os,x,y,kx,ky,rfl,_⟩:=h;rfl
 ·obtain ⟨p,m,nx,os,x,y,kx,ky,rfl,ma,g,hkx,hky,qQ,qE⟩:=h
  obtain ⟨dx,tn,to,ho,hn,ho2⟩:=ma.ho
  have ln:=g.ln
  have lo:=g.lo
  refine ⟨_,((ae (dB (j2 (pv 0) T.au T.fG cZ (hr.mono (by decide)) T.b0 .nil pH (aa (pv 1) af)))
   (ae (di (cR (cz (aj iH (hr.mono (by decide)) (by rfl) T.mh T.md T.iF .nil az (aa (pv 2) (aa (bt (K:=K) rfl (pv 0) rfl) af))))) (ah (j1 PySem.F.excBase_ValueError T.ij pH rfl (by rfl) T.xU (aa n9 af))) aU)
   (ah (aE (jp (aa (aj oG (hr.mono (by decide)) (by rfl) T.oA T.oz T.gR .nil az (aa (bt (K:=K) rfl (pv 0) rfl) (aa (pv 1) (aa (pv 2) af)))) (aa (aj oG (hr.mono (by decide)) (by rfl) T.oA T.oz T.gR .nil az (aa (bt (K:=K) rfl (pv 0) rfl) (aa (pv 1) (aa (pv 2) af)))) af)))))))),aA (σ':=[some _,some _,some _]) rfl ?_⟩
  walk_at "l2"
  refine im ho rfl ?_
  walk_at "l2"
  refine ⟨p,m,nx,os,x,kx,rfl,ma,hkx,fun hm=>?_,fun hm=>qE (.inl hm)⟩
  walk_at "l2"
  refine bq ho T.au T.bu rfl ?_
  walk_at "l2"
  cases hm2:nB y (m:Int) with
  | false=>
    walk_at "l2"
    exact ⟨by rw [sizeLine_eq];decide,qE (.inr hm2)⟩
  | true=>
    obtain ⟨a1,rfl,ha⟩:=vv hm
    obtain ⟨b1,rfl,hb⟩:=vv hm2
    walk_at "l2"
    refine bq ho T.au T.cI rfl ?_
    walk_at "l2"
    refine ⟨to,os,a1,b1,rfl,SqT.of ho2,ma.hs,by omega,g.b2,fun H2 s2=>?_⟩
    walk_at "l2"
    refine bq (s2.get ho) T.au T.bI rfl ?_
    walk_at "l2"
    refine ⟨tn,nx,a1,b1,rfl,SqT.of (s2.get hn),ma.hn.same s2,by omega,g.b1,fun H3 s3=>?_⟩
    walk_at "l2"
    intro t H4 f4 s4 e4
    exact qQ a1 b1 rfl rfl ha hb t H4 (s2.trans (s3.trans s4)) e4
theorem jt (T:Tx K mg a):FnOk P w K mg base (CX1 P w) 4 a.aT a.ia ["self","mask"] (G0 K a.ai a.bz):=by
 have cZ:=@er P w K mg base a T
 have sf:=@ua P w K mg base a T
 refine T.fv.okX ca (fun vs H Q E h=>?_) (fun cdv A outer s H vs Q E hr h=>?_)
 ·obtain ⟨p,m,nx,os,x,k,rfl,_⟩:=h;rfl
 ·obtain ⟨p,m,nx,os,x,k,rfl,ma,g,hk,qQ,qE⟩:=h
  obtain ⟨dx,tn,to,ho,hn,ho2⟩:=ma.ho
  have ln:=g.ln
  refine ⟨_,((ae (dB (j2 (pv 0) T.au T.fG cZ (hr.mono (by decide)) T.b0 .nil pH (aa (pv 1) af)))
   (ae (ar (i:=2) ca.nd rfl (by walk_at "o") ag)
   (ae (ar (i:=3) ca.nd rfl (by walk_at "o") ag)
   (ae (eh (zm ⟨rfl,rfl⟩) rfl (aZ (K:=K) rfl (aj sf (hr.mono (by decide)) (by rfl) T.xP T.xH T.mK .nil az (aa (pv 1) af))) (ak (i:=4) ca.nd rfl (by walk_at "o")) (ae (ar (i:=2) ca.nd rfl (by walk_at "o") (am kB (pv 2) (aV (aq (K:=K) rfl) (aV (aq (K:=K) rfl) (bt (K:=K) rfl (pv 0) rfl) (pv 4) (fun _ _=>rfl)) ag (fun _ _=>rfl))))
   (ah (ar (i:=3) ca.nd rfl (by walk_at "o") (am kB (pv 3) (aV (aq (K:=K) rfl) (aV (aq (K:=K) rfl) (bt (K:=K) rfl (pv 0) rfl) (pv 4) (fun _ _=>rfl)) ag (fun _ _=>rfl)))))))
   (ah (aE (jp (aa (pv 2) (aa (pv 3) af)))))))))),aA (σ':=[some _,some _,none,none,none]) rfl ?_⟩
  walk_at "l2"
  refine im ho rfl ?_
  walk_at "l2"
  refine ⟨p,m,nx,os,x,k,rfl,ma,hk,fun hm=>?_,qE⟩
  obtain ⟨a0,rfl,ha0⟩:=vv hm
  walk_at "l2"
  refine ⟨a0,rfl,ir ha0 (by omega),fun D H1 f1 s1 e1=>?_⟩
  rw [M.pl_up ha0 (by omega)] at e1
  generalize hA:nx.map (fun q=>q.2.1)=As at qQ
  generalize hB:nx.map (fun q=>q.2.2)=Bs at qQ
  have lA:As.length=nx.length:=by rw [← hA,List.length_map]
  have lB:Bs.length=nx.length:=by rw [← hB,List.length_map]
  walk_at "l2"
  refine gP (xs:=(M.pl nx.length a0).map nat) (fun i σ H'=>∃ v,σ=[some (.ref p),some (nat a0),some (nat (((M.pl nx.length a0).take i).foldl (fun a p=>a^^^As.getD p 0) 0)),some (nat (((M.pl nx.length a0).take i).foldl (fun a p=>a^^^Bs.getD p 0) 0)),v]∧H'=H1) ⟨none,rfl,rfl⟩ (fun i σ H' _ ⟨_,_,e⟩=>by rw [e];exact SqL.of e1) ?_ ?_
  ·rintro i y σ H' hy ⟨v,rfl,rfl⟩
   obtain ⟨k,hkk,rfl⟩:=aK hy
   have hkn:k < nx.length:=List.mem_range.mp (List.mem_filter.mp (List.mem_of_getElem? hkk)).1
   obtain ⟨pr,hpr⟩:∃ pr,nx[k]? =some pr:=⟨_,List.getElem?_eq_getElem hkn⟩
   have hat:atI (refs nx) (k:Int)=some (.ref pr.1):=nZ (by unfold refs;rw [List.getElem?_map,hpr];rfl)
   have ht:=s1.get (ma.hn pr (List.mem_of_getElem? hpr))
   have hn1:=s1.get hn
   have gA:As.getD k 0=pr.2.1:=by rw [← hA,List.getD_eq_getElem?_getD,List.getElem?_map,hpr];rfl
   have gB:Bs.getD k 0=pr.2.2:=by rw [← hB,List.getD_eq_getElem?_getD,List.getElem?_map,hpr];rfl
   walk_at "l2"
   refine bq (s1.get ho) T.au T.bI rfl ?_
   walk_at "l2"
   refine bq (s1.get ho) T.au T.bI rfl ?_
   walk_at "l2"
   refine ⟨some (nat k),?_,rfl⟩
   rw [cJ,cJ,take_succ hkk,List.foldl_append,List.foldl_append]
   show _=[_,_,some (nat (_^^^As.getD k 0)),some (nat (_^^^Bs.getD k 0)),_]
   rw [gA,gB]
  ·rintro σ H' ⟨v,rfl,rfl⟩
   rw [List.length_map,List.take_length,M.sm_places As a0 (by rw [lA];exact ha0) nx.length (by omega),M.sm_places Bs a0 (by rw [lB];exact ha0) nx.length (by omega)]
   walk_at "l2"
   intro t H2 f2 s2 e2
   exact qQ a0 rfl ha0 t H2 (s1.trans s2) e2
theorem qm (T:Tx K mg a):FnOk P w K mg base CX0 1 a.aQ a.h8 ["self"] (JQ a.ai):=by
 refine T.fq.ok p7 (fun vs H Q E h=>?_) (fun cdv A outer s H vs Q E hr h=>?_)
 ·obtain ⟨p,m,nx,os,rfl,_⟩:=h;rfl
 ·obtain ⟨p,m,nx,os,rfl,ma,g,q⟩:=h
  obtain ⟨dx,tn,to,ho,hn,ho2⟩:=ma.ho
  refine ⟨_,((ah (aE (jp (aa (bt (K:=K) rfl (pv 0) rfl) (aa (dn (gc (K:=K) rfl) (by rfl) T.ix PyProof.Rows.boot_list (aa (bt (K:=K) rfl (pv 0) rfl) af)) (aa (dn (gc (K:=K) rfl) (by rfl) T.ix PyProof.Rows.boot_list (aa (bt (K:=K) rfl (pv 0) rfl) af)) af))))))),aA (σ':=[some _]) rfl ?_⟩
  walk_at "l2"
  refine bq ho T.au T.bu rfl ?_
  walk_at "l2"
  refine bq ho T.au T.bI rfl ?_
  walk_at "l2"
  intro D1 H1 f1 s1 e1
  have ho3:=s1.get ho2
  walk_at "l2"
  refine bq (s1.get ho) T.au T.cI rfl ?_
  walk_at "l2"
  intro D2 H2 f2 s2 e2
  walk_at "l2"
  intro t H3 f3 s3 e3
  have f2':H D2=none:=by
   cases hx:H D2 with
   | none=>rfl
   | some v=>have:=s1.get hx;rw [f2] at this;cases this
  exact q t D1 D2 H3 f1 f2' (al e1 f2) (s1.trans (s2.trans s3)) e3 (s3.get (s2.get e1)) (s3.get e2)
theorem gJ (T:Tx K mg a):FnOk P w K mg base CX0 1 a.aF a.eV ["self"] (BM a.ai):=by
 refine T.de.ok lI (fun vs H Q E h=>?_) (fun cdv A outer s H vs Q E hr h=>?_)
 ·obtain ⟨p,m,nx,os,rfl,_⟩:=h;rfl
 ·obtain ⟨p,m,nx,os,rfl,ma,q⟩:=h
  obtain ⟨dx,tn,to,ho,hn,ho2⟩:=ma.ho
  refine ⟨_,((ah (aE (aD (bo (K:=K) rfl) (by rfl) T.jv PySem.boot_len (aa (bt (K:=K) rfl (pv 0) rfl) af))))),aA (σ':=[some _]) rfl ?_⟩
  walk_at "l2"
  refine bq ho T.au T.cI rfl ?_
  walk_at "l2"
  unfold refs
  rw [List.length_map]
  exact q
end
section
variable {P:Program} {w:World} {K:PySem.W.Frag} {mg:Str→Option Value} {base:Heap} {a:Ad}
local macro_rules | `(tactic| walk_at "l2step") =>`(tactic| first | ((with_reducible refine' lv ?e ?_);(case e=>walk_at "l2kind")) | ((with_reducible refine' rS ?e ?_);(case e=>walk_at "l2kind")) | (with_reducible refine j0 ?_) | (with_reducible refine m8 ?_))
theorem zu (T:Tx K mg a):FnOk P w K mg base CX0 1 a.c6 a.nM ["whole","width","count"] El:=by
 refine T.ke.ok y8 (fun vs H Q E h=>?_) (fun cdv A outer s H vs Q E hr h=>?_)
 ·obtain ⟨q,wd,T',rfl,_⟩:=h;rfl
 ·obtain ⟨qq,wd,T',rfl,hw,hT,q⟩:=h
  have hp0:=Nat.two_pow_pos wd
  have e6:(1:Int) * 2 ^ ((wd:Int).toNat) - 1=((2 ^ wd - 1:Nat):Int):=by rw [shl1];omega
  refine ⟨_,((ah (aE (dC (osc:=ad eJ) (ON:=["whole","width","count"]) (N:=["place","whole","width"]) (n:=1) (fx:=[0,1]) rfl rfl rfl (by decide +kernel) (dR (by rfl) T.iO (aa (pv 2) af)) (aW (by decide)) (fun _ _ _ _ _=>⟨(ak (i:=0) (show List.Nodup (["place","whole","width"]:List Str) from by decide +kernel) rfl (by walk_at "o")),bL,(am dU (am xa (pv 1) (am ox (pv 0) (pv 2))) (am ou (am fz ag (pv 2)) ag))⟩))))),aA (σ':=[some _,some _,some _]) rfl ?_⟩
  walk_at "l2"
  intro D hD
  refine nU (fun i ys H'=>Cs (fun i ys=>ys=((List.range i).map fun t=>(qq>>>(t * wd))&&&(2 ^ wd - 1)).map nat) H D i ys H') (Cs.zero hD rfl) (fun i ys H' hi c=>?_) (fun ys H' c=>?_)
  ·have ec:((0:Int) + (i:Int)) * (wd:Int)=((i * wd:Nat):Int):=by rw [Int.zero_add];push_cast;rfl
   walk_at "l2"
   rw [ec]
   walk_at "l2"
   rw [uF,e6,aO]
   refine Cs.put hD c.same c.at' c.len (by omega) ?_
   rw [c.pv,List.range_succ,List.map_append,List.map_append];rfl
  ·have ec:=c.at'
   rw [c.pv,Int.toNat_natCast] at ec
   exact q D H' hD c.same ec
theorem Hs (T:Tx K mg a):FnOk P w K mg base CX0 5 a.iP a.Am ["machine","turns"] (GX a.ai):=by
 have kI:=@qo P w K mg base a T
 refine T.wB.ok jX (fun vs H Q E h=>?_) (fun cdv A outer s H vs Q E hr h=>?_)
 ·obtain ⟨p,m,nx,os,T',rfl,_⟩:=h;rfl
 ·obtain ⟨p,m,nx,os,T',rfl,ma,g,hT,q⟩:=h
  obtain ⟨dx,tn,to,ho,hn,ho2⟩:=ma.ho
  have m6:=g.m6
  have ln:=g.ln
  refine ⟨_,((ae (gi (osc:=ad jn) (ON:=["machine","turns","states","told","turn"]) (N:=["which","machine"]) (n:=1) (fx:=[0]) (i:=2) jX.nd rfl rfl rfl rfl rfl rfl (by decide +kernel) (dR (by rfl) T.iO (aa (bt (K:=K) rfl (pv 0) rfl) af)) (aW (by decide)) (fun _ _ _ _ _=>⟨(ak (i:=0) (show List.Nodup (["which","machine"]:List Str) from by decide +kernel) rfl (by walk_at "o")),bL,(aV (aq (K:=K) rfl) (j2 (pv 1) T.au T.kC kI (hr.mono (by decide)) T.fi .nil thr0 (aa ag (aa (am fz ag (pv 0)) af))) ag (fun _ _=>rfl))⟩))
   (ae (ar (i:=3) jX.nd rfl (by walk_at "o") (ek af))
   (ae (eh PassesOwn.never rfl (dR (by rfl) T.iO (aa (pv 1) af)) (ak (i:=4) jX.nd rfl (by walk_at "o")) (ae (ar (i:=3) jX.nd rfl (by walk_at "o") (am E3 (pv 2) (pv 3)))
   (ah (gi (osc:=ad jn) (ON:=["machine","turns","states","told","turn"]) (N:=["state","machine"]) (n:=1) (fx:=[0]) (i:=2) jX.nd rfl rfl rfl rfl rfl rfl (by decide +kernel) (aZ (K:=K) rfl (pv 2)) (aW (by decide)) (fun _ _ _ _ _=>⟨(ak (i:=0) (show List.Nodup (["state","machine"]:List Str) from by decide +kernel) rfl (by walk_at "o")),bL,(aV (aq (K:=K) rfl) (j2 (pv 1) T.au T.kC kI (hr.mono (by decide)) T.fi .nil thr0 (aa (pv 0) (aa ag af))) ag (fun _ _=>rfl))⟩)))))
   (ah (aE (pv 3))))))),aA (σ':=[some _,some _,none,none,none]) rfl ?_⟩
  walk_at "l2"
  refine bq ho T.au T.bu rfl ?_
  walk_at "l2"
  intro D hD
  refine nU (fun i ys H'=>Cs (fun i ys=>ys=((List.range i).map fun w=>M.tr2 (prs nx) 0 (2 ^ w)).map nat) H D i ys H') (Cs.zero hD rfl) (fun i ys H' hi c=>?_) (fun ys H1 c=>?_)
  ·have him:i < m:=by omega
   have ei:(0:Int) + (i:Int)=(i:Int):=Int.zero_add _
   walk_at "l2"
   refine im (c.same.get ho) rfl ?_
   walk_at "l2"
   rw [ei]
   walk_at "l2"
   rw [shl1]
   refine ⟨p,m,nx,os,nat 0,nat (2 ^ i),"int","int",rfl,ma.same c.same,g,rfl,rfl,fun a1 b1 ea eb _ _ t6 H6 s6 e6=>?_,fun bad=>?_⟩
   ·have ea:=ny ea
    have eb:=ny eb
    subst ea eb
    walk_at "l2"
    refine Cs.put hD (c.same.trans s6) (s6.get c.at') c.len (by omega) ?_
    rw [c.pv,List.range_succ,List.map_append,List.map_append];rfl
   ·rcases bad with h | h
    ·rw [fE (Nat.two_pow_pos _)] at h;cases h
    ·rw [fE (Nat.pow_lt_pow_right (by decide) him)] at h;cases h
  ·have e1:=c.at'
   rw [c.pv,Int.toNat_natCast] at e1
   have s1:=c.same
   walk_at "l2"
   intro D0 H2 f2 s2 e2
   walk_at "l2"
   refine iA (fun i σ H'=>∃ (v:Option V) (Ds Dt:Addr),σ=[some (.ref p),some (nat T'),some (.ref Ds),some (.ref Dt),v]∧Same H H'∧H' Ds=some (.lst ((M.stj (prs nx) (M.sg0 (prs nx) m) i).map nat))∧H' Dt=some (.lst ((M.rch (prs nx) m i).map nat))∧H Dt=none) ⟨none,D,D0,rfl,s1.trans s2,s2.get e1,e2,mj s1 f2⟩ ?_ ?_
   ·rintro i σ H' hi ⟨v,Ds,Dt,rfl,s6,es,et,ft⟩
    have ls:(M.stj (prs nx) (M.sg0 (prs nx) m) i).length=m:=by rw [M.stj_len,M.sg0_len]
    have lr:=M.rch_len (prs nx) m i
    have hmul:i * m≤100 * 6:=Nat.mul_le_mul (by omega) m6
    walk_at "l2"
    refine Kk es et (by rw [List.length_map,List.length_map,sizeLine_eq];omega) fun D7 H7 f7 s7 e7=>?_
    rw [← List.map_append] at e7
    have es7:=s7.get es
    walk_at "l2"
    intro D8 hD8
    refine bw (xs:=(M.stj (prs nx) (M.sg0 (prs nx) m) i).map nat) (fun j ys H'=>Cs (fun j ys=>ys=(((M.stj (prs nx) (M.sg0 (prs nx) m) i).take j).map fun x=>M.tr2 (prs nx) x 0).map nat) H7 D8 j ys H') (Cs.zero hD8 rfl) (fun j ys H' _ c=>SqL.of (c.same.get es7)) (fun j x ys H' hx c=>?_) (fun ys H' c=>?_)
    ·obtain ⟨x0,hx0,rfl⟩:=aK hx
     have hj:=(List.getElem?_eq_some_iff.mp hx0).1
     have hxb:=M.stj_lt (prs nx) m i x0 (List.mem_of_getElem? hx0)
     rw [aG] at hxb
     have s08:=s6.trans (s7.trans c.same)
     walk_at "l2"
     refine im (s08.get ho) rfl ?_
     walk_at "l2"
     refine ⟨p,m,nx,os,nat x0,nat 0,"int","int",rfl,ma.same s08,g,rfl,rfl,fun a1 b1 ea eb _ _ t6 H6 s6' e6=>?_,fun bad=>?_⟩
     ·have ea:=ny ea
      have eb:=ny eb
      subst ea eb
      walk_at "l2"
      refine Cs.put hD8 (c.same.trans s6') (s6'.get c.at') c.len (by omega) ?_
      rw [c.pv,take_succ hx0,List.map_append,List.map_append];rfl
     ·rcases bad with h | h
      ·rw [fE hxb] at h;cases h
      ·rw [fE (Nat.two_pow_pos _)] at h;cases h
    ·have ec:=c.at'
     rw [c.pv,List.length_map,List.take_length] at ec
     exact ⟨_,D8,D7,rfl,s6.trans (s7.trans c.same),ec,c.same.get e7,mj s6 f7⟩
   ·rintro σ H' ⟨v,Ds,Dt,rfl,s6,es,et,ft⟩
    rw [Int.toNat_natCast] at et
    walk_at "l2"
    exact q Dt H' ft s6 et
theorem Cd (T:Tx K mg a):FnOk P w K mg base CX0 2 a.dY a.rA ["machine","places","turns"] (Eo a.ai):=by
 have gE:=@j3 P w K mg base a T
 have DS:=@zu P w K mg base a T
 refine T.mP.ok BV (fun vs H Q E h=>?_) (fun cdv A outer s H vs Q E hr h=>?_)
 ·obtain ⟨p,D,m,nx,os,q,T',rfl,_⟩:=h;rfl
 ·obtain ⟨p,D,m,nx,os,qq,T',rfl,ma,g,hD,hq,hT,q⟩:=h
  obtain ⟨dx,tn,to,ho,hn,ho2⟩:=ma.ho
  have m6:=g.m6
  refine ⟨_,((ah (aE (aj DS (hr.mono (by decide)) (by rfl) T.CO T.CK T.nX .nil az (aa (aj gE (hr.mono (by decide)) (by rfl) T.mf T.l9 T.iE .nil az (aa (pv 1) af)) (aa (bt (K:=K) rfl (pv 0) rfl) (aa (pv 2) af))))))),aA (σ':=[some _,some _,some _]) rfl ?_⟩
  walk_at "l2"
  refine ⟨D,M.pl 1000 qq,rfl,hD,fun x hx=>M.pl_lt hq x hx,?_⟩
  rw [Lr hq]
  walk_at "l2"
  refine bq ho T.au T.bu rfl ?_
  walk_at "l2"
  exact ⟨qq,m,T',rfl,by omega,hT,q⟩
end
section
variable {P:Program} {w:World} {K:PySem.W.Frag} {mg:Str→Option Value} {base:Heap} {a:Ad}
theorem i5 (T:Tx K mg a):FnOk P w K mg base CX0 1 a.aM a.gv ["self","mask"] (LJ a.aC):=by
 refine T.d9.ok cy (fun vs H Q E h=>?_) (fun cdv A outer s H vs Q E hr h=>?_)
 ·obtain ⟨p,d,f,n,rows,x,rfl,_⟩:=h;rfl
 ·obtain ⟨p,d,f,n,rows,x,rfl,st,q⟩:=h
  have hu:=Ib hr
  obtain ⟨dx,ho⟩:=st.ho
  obtain ⟨es,hd,ht,g,l⟩:=st.he
  refine ⟨_,((ae (ar (i:=2) cy.nd rfl (by walk_at "o") ag)
   (ae (uK PassesOwn.never (Ms (MC hu (am ou (g7 (K:=K) rfl PySem.F.plainAttrs_int PySem.F.slot_int_bit_length PySem.F.type_int_bit_length kX (pv 1)) ag) (bt (K:=K) rfl (pv 0) rfl))) (ae (ar (i:=3) cy.nd rfl (by walk_at "o") (EW hu (bt (K:=K) rfl (pv 0) rfl) (am ou (g7 (K:=K) rfl PySem.F.plainAttrs_int PySem.F.slot_int_bit_length PySem.F.type_int_bit_length kX (pv 1)) ag) (fun _ _=>rfl)))
   (ae (ar (i:=1) cy.nd rfl (by walk_at "o") (am kB (pv 1) (aV (aq (K:=K) rfl) (pv 3) ag (fun _ _=>rfl))))
   (ah (ar (i:=2) cy.nd rfl (by walk_at "o") (am kB (pv 2) (aV (aq (K:=K) rfl) (pv 3) ag (fun _ _=>rfl))))))))
   (ah (aE (jp (aa (pv 1) (aa (pv 2) af)))))))),aA (σ':=[some _,some _,none,none]) rfl ?_⟩
  walk_at "l2"
  refine ⟨fun μ σ' H'=>∃ qq v,σ'=[some (.ref p),some (nat (x^^^M.sm rows qq)),some (nat qq),v]∧H'=H∧qq < 2 ^ rows.length∧μ=x^^^M.sm rows qq∧M.Frs rows qq,⟨x,0,none,?_,rfl,Nat.two_pow_pos _,?_,M.Frs.zero _⟩,?_⟩
  ·rw [M.sm_zero,Nat.xor_zero];rfl
  ·rw [M.sm_zero,Nat.xor_zero]
  rintro μ σ' H' ⟨qq,v,rfl,rfl,hq,rfl,hfr⟩
  walk_at "l2"
  refine bq ho T.dE T.cH rfl ?_
  refine Md hd ?_
  walk_at "l2"
  generalize hm:x^^^M.sm rows qq=m
  refine iteB (fun hc=>?_) (fun hc=>?_)
  ·rcases pU es ((Builtin.Int.intBits (m:Int):Nat) - 1:Int) with ⟨e,he,ez,ev⟩ | ⟨_,hv⟩
   ·have hm0:m≠0:=fun z=>by rw [z,yp] at ez;omega
    have hl2:m.log2=e.m.log2:=by rw [kb hm0] at ez;omega
    have hem:(e.m,e.p)∈es.map (fun e=>(e.m,e.p)):=List.mem_map.mpr ⟨e,he,rfl⟩
    have e0:=g.nz _ hem
    refine ⟨fun σ2 H2=>∃ q2 v,σ2=[some (.ref p),some (nat (x^^^M.sm rows q2)),some (nat q2),v]∧H2=H'∧q2 < 2 ^ rows.length∧x^^^M.sm rows q2 < m∧M.Frs rows q2,fun σ2 H2 ⟨q2,v,h1,h2,h3,h4,h5⟩=>⟨_,h4,q2,v,h1,h2,h3,rfl,h5⟩,?_⟩
    walk_at "l2"
    refine bq ho T.dE T.cH rfl ?_
    walk_at "l2"
    refine EE hd ev ?_
    have hte:=ht e he
    walk_at "l2"
    refine ⟨qq^^^e.p,some (.ref e.a),?_,rfl,M.xor_lt_pow hq (g.lt _ hem),?_,hfr.xor (g.sub _ hem)⟩
    ·rw [M.sm_xor,g.sm _ hem,← Nat.xor_assoc,hm,cJ,cJ]
    ·rw [M.sm_xor,g.sm _ hem,← Nat.xor_assoc,hm];exact M.xor_less hm0 e0 hl2
   ·rw [hv] at hc;cases hc
  ·walk_at "l2"
   intro t H2 f2 s2 e2
   subst hm
   refine q t H2 qq f2 s2 e2 hq (fun m0 y hy y0 hl2=>?_) hfr
   rcases pU es ((Builtin.Int.intBits ((x^^^M.sm rows qq:Nat):Int):Nat) - 1:Int) with ⟨e,he,ez,ev⟩ | ⟨h1,hv⟩
   ·rw [ev] at hc;cases hc
   ·obtain ⟨e,he,ee⟩:=g.all y hy y0
    obtain ⟨e',he',rfl⟩:=List.mem_map.mp he
    refine h1 e' he' ?_
    have ee:e'.m.log2=y.log2:=ee
    rw [kb m0,ee,hl2];omega
theorem xf (T:Tx K mg a):FnOk P w K mg base CX0 2 a.bJ a.lj ["self","place","row"] (LK a.aC):=by
 have gG:=@i5 P w K mg base a T
 refine T.i0.ok jm (fun vs H Q E h=>?_) (fun cdv A outer s H vs Q E hr h=>?_)
 ·obtain ⟨p,d,f,n,rows,r,rfl,_⟩:=h;rfl
 ·obtain ⟨p,d,f,n,rows,r,rfl,st,hl,q⟩:=h
  have hu:=Ib hr
  obtain ⟨dx,ho⟩:=st.ho
  refine ⟨_,((ae (ar (i:=3) jm.nd rfl (by walk_at "o") (uU (pv 0) T.dE T.jw gG (hr.mono (by decide)) T.d6 .nil az (aa (pv 2) af)))
   (ae (ar (i:=4) jm.nd rfl (by walk_at "o") (am kB (aV (aq (K:=K) rfl) (pv 3) ag (fun _ _=>rfl)) (am fz ag (pv 1))))
   (ah (di (a7 oP (aV (aq (K:=K) rfl) (pv 3) ag (fun _ _=>rfl)) ag (a8 _)) (ah (dB (lM (K:=K) rfl PySem.F.plainAttrs_list PySem.F.slot_list_append PySem.F.type_list_append dW (bt (K:=K) rfl (pv 0) rfl) (aa (pv 4) af)))) (ae (dB (lM (K:=K) rfl PySem.F.plainAttrs_list PySem.F.slot_list_append PySem.F.type_list_append dW (bt (K:=K) rfl (pv 0) rfl) (aa (pv 1) af)))
   (ah (Kt hu (bt (K:=K) rfl (pv 0) rfl) (am ou (g7 (K:=K) rfl PySem.F.plainAttrs_int PySem.F.slot_int_bit_length PySem.F.type_int_bit_length kX (aV (aq (K:=K) rfl) (pv 3) ag (fun _ _=>rfl))) ag) (jp (aa (aV (aq (K:=K) rfl) (pv 3) ag (fun _ _=>rfl)) (aa (pv 4) af))) rfl)))))))),aA (σ':=[some _,some _,some _,none,none]) rfl ?_⟩
  walk_at "l2"
  refine cK ho rfl ?_
  walk_at "l2"
  refine ⟨p,d,f,n,rows,r,rfl,st,fun t H2 qq f2 s2 e2 hq hn hfr=>?_⟩
  walk_at "l2"
  rw [shl1,cJ]
  have ho2:=s2.get ho
  have st2:=st.same s2
  have lf:=M.fr_len rows
  refine iteB (fun hc=>?_) (fun hc=>?_)
  ·have hz:r^^^M.sm rows qq=0:=by have:=V.int.inj (of_decide_eq_true hc);omega
   obtain ⟨nms,hnn,gn⟩:=st2.hn
   have ln:=gn.len
   walk_at "l2"
   refine bq ho2 T.dE T.gL rfl ?_
   walk_at "l2"
   refine gH hnn (by rw [List.length_map];exact dk (by omega)) fun H3 u3=>?_
   walk_at "l2"
   exact q H3 (fun b o h1 h2 h3 e=>u3.oth _ _ h3 (s2.get e)) (st2.null hq hz gn hnn u3)
  ·have hz:r^^^M.sm rows qq≠0:=fun z=>by rw [z] at hc;exact absurd hc (by decide)
   obtain ⟨es,hd,ht,g,le⟩:=st2.he
   have hf2:=st2.hf
   walk_at "l2"
   refine bq ho2 T.dE T.dD rfl ?_
   walk_at "l2"
   refine gH st2.hf (by rw [List.length_map];exact dk (by omega)) fun H3 u3=>?_
   have e3:=u3.oth _ _ (iN e2 st2.hf (by simp)) e2
   have ho3:=u3.oth _ _ (iN ho2 st2.hf (by simp)) ho2
   have hd3:=u3.oth _ _ (iN hd st2.hf (by simp)) hd
   walk_at "l2"
   intro t' H4 f4 s4 e4
   walk_at "l2"
   refine bq (s4.get ho3) T.dE T.cH rfl ?_
   walk_at "l2"
   refine Kj (s4.get hd3) (by unfold l7;rw [List.length_map];exact dk (by omega)) fun H5 u5=>?_
   walk_at "l2"
   refine q H5 (fun b o h1 h2 h3 e=>u5.oth _ _ h1 (s4.get (u3.oth _ _ h2 (s2.get e)))) (st2.more hq hz (hn hz) hfr u3 s4 e4 hd ht g le ?_)
   have ez:(((r^^^M.sm rows qq).log2 + 1:Nat):Int) - 1=(((r^^^M.sm rows qq).log2:Nat):Int):=by omega
   rw [kb hz,ez] at u5
   exact u5
theorem iw (T:Tx K mg a):FnOk P w K mg base CX0 3 a.aH a.fM ["self","rows"] (JR a.aC):=by
 have AR:=@xf P w K mg base a T
 refine T.dy.ok eI (fun vs H Q E h=>?_) (fun cdv A outer s H vs Q E hr h=>?_)
 ·obtain ⟨x,dx,r,rows,rfl,_⟩:=h;rfl
 ·obtain ⟨x,dx,r,rows,rfl,hw,hl,hx,q⟩:=h
  have hu:=Ib hr
  have rx:r≠x:=iN hw hx (by simp)
  refine ⟨_,((ae (nc (K:=K) rfl (pv 0) Hq rfl)
   (ae (nc (K:=K) rfl (pv 0) (ek af) rfl)
   (ae (nc (K:=K) rfl (pv 0) (ek af) rfl)
   (ah (eh PassesOwn.never rfl (ni (K:=K) rfl (by rfl) T.cu (pv 1)) (ku rfl (aL (ak (i:=2) eI.nd rfl (by walk_at "o")) (aL (ak (i:=3) eI.nd rfl (by walk_at "o")) dS))) (ah (dB (uU (pv 0) T.dE T.zO AR (hr.mono (by decide)) T.lC .nil az (aa (pv 2) (aa (pv 3) af))))))))))),aA (σ':=[some _,some _,none,none]) rfl ?_⟩
  walk_at "l2"
  intro d H1 f1 s1 e1
  walk_at "l2"
  have dx1:d≠x:=fun z=>by rw [z,hx] at f1;cases f1
  refine mZ (s1.get hx) T.dE T.cH (by decide) rfl fun H2 u2=>?_
  walk_at "l2"
  intro f H3 f3 s3 e3
  walk_at "l2"
  have fx1:f≠x:=fun z=>by rw [z,u2.at'] at f3;cases f3
  refine mZ (s3.get u2.at') T.dE T.dD (by show 1 < 1000;decide) rfl fun H4 u4=>?_
  walk_at "l2"
  intro n H5 f5 s5 e5
  walk_at "l2"
  have nx1:n≠x:=fun z=>by rw [z,u4.at'] at f5;cases f5
  refine mZ (s5.get u4.at') T.dE T.gL (by show 2 < 1000;decide) rfl fun H6 u6=>?_
  have k1:∀ b o,b≠x→H b=some o→H2 b=some o:=fun b o nb e=>u2.oth _ _ nb (s1.get e)
  have k2:∀ b o,b≠x→H b=some o→H4 b=some o:=fun b o nb e=>u4.oth _ _ nb (s3.get (k1 b o nb e))
  have k3:∀ b o,b≠x→H b=some o→H6 b=some o:=fun b o nb e=>u6.oth _ _ nb (s5.get (k2 b o nb e))
  have nd:∀ b o,H b=some o→b≠d:=fun b o e=>al e f1
  have nf:∀ b o,b≠x→H b=some o→b≠f:=fun b o nb e=>al (k1 b o nb e) f3
  have nn:∀ b o,b≠x→H b=some o→b≠n:=fun b o nb e=>al (k2 b o nb e) f5
  have e3':=u4.oth _ _ fx1 e3
  have fn:f≠n:=al e3' f5
  have hd0:H6 d=some (.dK (l7 [])):=u6.oth _ _ dx1 (s5.get (u4.oth _ _ dx1 (s3.get (u2.oth _ _ dx1 e1))))
  have hw6:=k3 _ _ rx hw
  walk_at "l2"
  refine pN (xs:=rows.map nat) (fun i σ H'=>∃ v v',σ=[some (.ref x),some (.ref r),v,v']∧StA H' a.aC x d f n (rows.take i)∧∀ b o,b≠x→H b=some o→H' b=some o) ?_ ?_ ?_ ?_
  ·refine ⟨none,none,rfl,⟨⟨dx,u6.at'⟩,⟨[],hd0,fun _ h=>absurd h (by simp),M.Ech.nil,rfl⟩,u6.oth _ _ fx1 (s5.get e3'),⟨[],u6.oth _ _ nx1 e5,M.Nul.nil⟩,fn⟩,k3⟩
  ·rintro i σ H' _ ⟨v,v',_,_,k⟩
   exact SqL.of (k _ _ rx hw)
  ·rintro i y σ H' p H7 hy ⟨v,v',rfl,st,k⟩ fp s7 e7
   obtain ⟨ri,hri,rfl⟩:=aK hy
   obtain ⟨dx7,ho7⟩:=(st.same s7).ho
   walk_at "l2"
   refine cK ho7 rfl ?_
   walk_at "l2"
   have tl:=AX hri
   refine ⟨x,d,f,n,rows.take i,ri,by rw [tl],st.same s7,by rw [tl];have:=(List.getElem?_eq_some_iff.mp hri).1;omega,fun H8 fr8 st8=>?_⟩
   walk_at "l2"
   refine ⟨_,_,rfl,by rw [take_succ hri];exact st8,fun b o nb e=>fr8 b o (nd b o e) (nf b o nb e) (nn b o nb e) (s7.get (k b o nb e))⟩
  ·rintro σ H' ⟨v,v',rfl,st,k⟩
   rw [List.length_map,List.take_length] at st
   walk_at "l2"
   exact q H' d f n k st
theorem KB (T:Tx K mg a):FnOk P w K mg base CX0 5 a.mq a.F6 ["rows"] J0:=by
 have fO:=@iw P w K mg base a T
 refine T.Bw.ok J6 (fun vs H Q E h=>?_) (fun cdv A outer s H vs Q E hr h=>?_)
 ·obtain ⟨r,rows,rfl,_⟩:=h;rfl
 ·obtain ⟨r,rows,rfl,hw,hl,q⟩:=h
  refine ⟨_,((ah (aE (dn (gc (K:=K) rfl) (by rfl) T.ix PyProof.Rows.boot_list (aa (bt (K:=K) rfl (uV T.GD fO (hr.mono (by decide)) (by rfl) T.FN T.dw .nil az (aa (pv 0) af)) rfl) af))))),aA (σ':=[some _]) rfl ?_⟩
  walk_at "l2"
  intro x dx H2 f2 s2 e2
  refine ⟨x,dx,r,rows,rfl,s2.get hw,hl,e2,fun H3 d f n k st=>⟨rfl,?_⟩⟩
  obtain ⟨dx3,ho⟩:=st.ho
  refine bq ho T.dE T.dD rfl ?_
  have hf:=st.hf
  walk_at "l2"
  intro D H4 f4 s4 e4
  have hs:Same H H3:=fun b o e=>k b o (al e f2) (s2.get e)
  exact q D H4 (hs.free f4) (hs.trans s4) e4
theorem Cc (T:Tx K mg a):FnOk P w K mg base CX0 5 a.dX a.rz ["rows","wish"] BL:=by
 have fO:=@iw P w K mg base a T
 have gG:=@i5 P w K mg base a T
 have sg:=@oR P w K mg base a T
 have sf:=@ua P w K mg base a T
 refine T.mO.ok mX (fun vs H Q E h=>?_) (fun cdv A outer s H vs Q E hr h=>?_)
 ·obtain ⟨r,rows,x,rfl,_⟩:=h;rfl
 ·obtain ⟨r,rows,x,rfl,hw,hl,hr1,hx1,h64,qA,qB⟩:=h
  refine ⟨_,((ae (ar (i:=2) mX.nd rfl (by walk_at "o") (uV T.GD fO (hr.mono (by decide)) (by rfl) T.FN T.dw .nil az (aa (pv 0) af)))
   (ae (ar (i:=3) mX.nd rfl (by walk_at "o") (uU (pv 2) T.dE T.jw gG (hr.mono (by decide)) T.d6 .nil az (aa (pv 1) af)))
   (ae (di (a7 oP (aV (aq (K:=K) rfl) (pv 3) ag (fun _ _=>rfl)) ag (a8 _)) (ah (aE (jp (aa n9 (aa (aj sf (hr.mono (by decide)) (by rfl) T.xP T.xH T.mK .nil az (aa (aV (aq (K:=K) rfl) (pv 3) ag (fun _ _=>rfl)) af)) af))))) aU)
   (ah (aE (jp (aa n9 (aa (uU (pv 2) T.dE T.qH sg (hr.mono (by decide)) T.gD .nil az (aa (am ou (g7 (K:=K) rfl PySem.F.plainAttrs_int PySem.F.slot_int_bit_length PySem.F.type_int_bit_length kX (aV (aq (K:=K) rfl) (pv 3) ag (fun _ _=>rfl))) ag) af)) af))))))))),aA (σ':=[some _,some _,none,none]) rfl ?_⟩
  walk_at "l2"
  intro p dx H2 f2 s2 e2
  refine ⟨p,dx,r,rows,rfl,s2.get hw,hl,e2,fun H3 d f n k st=>⟨rfl,?_⟩⟩
  obtain ⟨dx3,ho⟩:=st.ho
  have hs:Same H H3:=fun b o e=>k b o (al e f2) (s2.get e)
  walk_at "l2"
  refine cK ho rfl ?_
  walk_at "l2"
  refine ⟨p,d,f,n,rows,x,rfl,st,fun t H4 qq f4 s4 e4 hq hn hfr=>?_⟩
  walk_at "l2"
  refine iteB (fun hc=>?_) (fun hc=>?_)
  ·have hz:x^^^M.sm rows qq=0:=by have:=V.int.inj (of_decide_eq_true hc);omega
   have hsm:M.sm rows qq=x:=by
    have:=congrArg (x^^^·) hz
    simp only [← Nat.xor_assoc,Nat.xor_self,Nat.zero_xor,Nat.xor_zero] at this
    exact this
   walk_at "l2"
   refine ⟨qq,rfl,Nat.lt_of_lt_of_le hq (Nat.pow_le_pow_right (by decide) hl),fun D H5 f5 s5 e5=>?_⟩
   walk_at "l2"
   intro t' H6 f6 s6 e6
   exact qA t' D H6 qq (mj (hs.trans s4) f5) (hs.trans (s4.trans (s5.trans s6))) e6 (s6.get e5) ⟨hq,hsm,hfr⟩
  ·have hz:x^^^M.sm rows qq≠0:=fun z=>by rw [z] at hc;exact absurd hc (by decide)
   have hx1':x^^^M.sm rows qq < 2 ^ 1000:=M.xor_lt_pow hx1 (M.span_lt hr1 (M.sm_span rows qq))
   have hb1:=M.log2_under hz hx1'
   have hns:¬ M.Span rows x:=fun hsp=>hn hz _ (M.span_xor hsp (M.sm_span rows qq)) hz rfl
   have h64':(M.fr rows).length < 64:=h64.resolve_left hns
   have ez:(((x^^^M.sm rows qq).log2 + 1:Nat):Int) - 1=(((x^^^M.sm rows qq).log2:Nat):Int):=by omega
   walk_at "l2"
   refine cK (s4.get ho) rfl ?_
   walk_at "l2"
   rw [kb hz,ez]
   refine ⟨p,d,f,n,rows,(x^^^M.sm rows qq).log2,rfl,st.same s4,hb1,hr1,h64',hn hz,fun m H5 s5 B=>?_⟩
   walk_at "l2"
   intro t' H6 f6 s6 e6
   refine qB t' H6 m (hs.trans (s4.trans (s5.trans s6))) e6 ⟨hns,⟨M.sm rows qq,M.sm_span _ _,hz,hn hz,B⟩,B.ev,B.odd hz rfl hb1,fun W hW hxW=>B.lt W hW ?_⟩
   exact M.log2_under hz (M.xor_lt_pow hxW (M.span_lt hW (M.sm_span rows qq)))
end
section
variable {P:Program} {w:World} {K:PySem.W.Frag} {mg:Str→Option Value} {base:Heap} {a:Ad}
local macro_rules | `(tactic| walk_at "l2step") =>`(tactic| first | ((with_reducible refine' lv ?e ?_);(case e=>walk_at "l2kind")) | ((with_reducible refine' rS ?e ?_);(case e=>walk_at "l2kind")) | (with_reducible refine j0 ?_) | (with_reducible refine m8 ?_))
theorem u1 (T:Tx K mg a):FnOk P w K mg base CX0 5 a.bQ a.jD ["machine"] (G3 a.ai):=by
 have bb:=@c3 P w K mg base a T
 have ii:=@jt P w K mg base a T
 refine T.gW.ok dM (fun vs H Q E h=>?_) (fun cdv A outer s H vs Q E hr h=>?_)
 ·obtain ⟨p,m,nx,os,rfl,_⟩:=h;rfl
 ·obtain ⟨p,m,nx,os,rfl,ma,g,l60,q⟩:=h
  obtain ⟨dx,tn,to,ho,hn,ho2⟩:=ma.ho
  have lo:=g.lo
  have ln:=g.ln
  have hA:∀ x∈(prs nx).map (·.1),x < 2 ^ nx.length:=fun x hx=>by
   obtain ⟨q,hq,rfl⟩:=List.mem_map.mp hx
   obtain ⟨r,hr,rfl⟩:=List.mem_map.mp hq
   exact (g.bn r (List.mem_append_left _ hr)).1
  have hO:∀ x∈(prs os).map (·.1),x < 2 ^ nx.length:=fun x hx=>by
   obtain ⟨q,hq,rfl⟩:=List.mem_map.mp hx
   obtain ⟨r,hr,rfl⟩:=List.mem_map.mp hq
   exact (g.bn r (List.mem_append_right _ hr)).1
  have eA:(nx.map fun q=>q.2.1)=(prs nx).map (·.1):=by rw [List.map_map];rfl
  have lO:((prs os).map (·.1)).length=os.length:=by rw [List.length_map,List.length_map]
  refine ⟨_,((ae (gi (osc:=ad cn) (ON:=["machine","masks","told","turn"]) (N:=["pair"]) (n:=1) (fx:=[]) (i:=1) dM.nd rfl rfl rfl rfl rfl rfl (by decide +kernel) (EV (K:=K) rfl (bt (K:=K) rfl (pv 0) rfl)) (aW (by decide)) (fun _ _ _ _ _=>⟨(ak (i:=0) (show List.Nodup (["pair"]:List Str) from by decide +kernel) rfl (by walk_at "o")),bL,(aV (aq (K:=K) rfl) (pv 0) ag (fun _ _=>rfl))⟩))
   (ae (ar (i:=2) dM.nd rfl (by walk_at "o") (ek af))
   (ae (eh PassesOwn.never rfl (dR (by rfl) T.iO (aa (fg (pv 0) T.au T.cA bb (hr.mono (by decide)) T.bv .nil az) af)) (ak (i:=3) dM.nd rfl (by walk_at "o")) (ae (dB (lM (K:=K) rfl PySem.F.plainAttrs_list PySem.F.slot_list_extend PySem.F.type_list_extend Fd (pv 2) (aa (pv 1) af)))
   (ah (gi (osc:=ad cn) (ON:=["machine","masks","told","turn"]) (N:=["mask","machine"]) (n:=1) (fx:=[0]) (i:=1) dM.nd rfl rfl rfl rfl rfl rfl (by decide +kernel) (aZ (K:=K) rfl (pv 1)) (aW (by decide)) (fun _ _ _ _ _=>⟨(ak (i:=0) (show List.Nodup (["mask","machine"]:List Str) from by decide +kernel) rfl (by walk_at "o")),bL,(aV (aq (K:=K) rfl) (j2 (pv 1) T.au T.kE ii (hr.mono (by decide)) T.fj .nil thr0 (aa (pv 0) af)) ag (fun _ _=>rfl))⟩)))))
   (ah (aE (pv 2))))))),aA (σ':=[some _,none,none,none]) rfl ?_⟩
  walk_at "l2"
  refine bq ho T.au T.cI rfl ?_
  walk_at "l2"
  intro D hD
  refine Bm (xs:=refs os) (fun i ys H'=>Cs (fun i ys=>ys=(((prs os).map (·.1)).take i).map nat) H D i ys H') (Cs.zero hD rfl) (fun i ys H' _ c=>SqT.of (c.same.get ho2)) (fun i v ys H' hv c=>?_) (fun ys H1 c=>?_)
  ·obtain ⟨pr,hpr,rfl⟩:=aK hv
   have hi:=(List.getElem?_eq_some_iff.mp hpr).1
   have ht:=c.same.get (ma.hs pr (List.mem_of_getElem? hpr))
   walk_at "l2"
   refine Cs.put hD c.same c.at' c.len (by omega) ?_
   rw [c.pv,take_succ (show ((prs os).map (·.1))[i]? =some pr.2.1 by rw [List.getElem?_map,List.getElem?_map,hpr];rfl),List.map_append];rfl
  ·have e1:=c.at'
   rw [c.pv,dQ,show os.length=((prs os).map (·.1)).length from lO.symm,List.take_length] at e1
   have s1:=c.same
   clear c
   walk_at "l2"
   intro D0 H2 f2 s2 e2
   walk_at "l2"
   refine cK ((s1.trans s2).get ho) rfl ?_
   walk_at "l2"
   refine ⟨p,m,nx,os,rfl,ma.same (s1.trans s2),?_⟩
   walk_at "l2"
   refine iA (fun i σ H'=>∃ (v:Option V) (Dm:Addr),σ=[some (.ref p),some (.ref Dm),some (.ref D0),v]∧Same H H'∧H' Dm=some (.lst ((M.lk1 ((prs nx).map (·.1)) ((prs os).map (·.1)) i).map nat))∧H' D0=some (.lst ((M.lkm ((prs nx).map (·.1)) ((prs os).map (·.1)) i).map nat))∧Dm≠D0) ⟨none,D,rfl,s1.trans s2,?_,e2,?_⟩ ?_ ?_
   ·rw [s2.get e1];unfold M.lk1;rw [show (fun s=>M.bkI ((prs nx).map (·.1)) s 0)=id from rfl,List.map_id]
   ·exact fun z=>by rw [← z,e1] at f2;cases f2
   ·rintro i σ H' hi ⟨v,Dm,rfl,s',em,et,nm⟩
    have ll:=M.lkm_len ((prs nx).map (·.1)) ((prs os).map (·.1)) i
    have l1:=M.lk1_len ((prs nx).map (·.1)) ((prs os).map (·.1)) i
    have b6:i * ((prs os).map (·.1)).length≤60 * 6:=Nat.mul_le_mul (by omega) (by omega)
    walk_at "l2"
    refine Hc et em (by rw [List.length_map,List.length_map,ll,l1];exact Nat.le_of_lt (dk (by omega))) nm.symm fun H5 u5=>?_
    have f0:H D0=none:=s1.free f2
    have s5:=u5.same f0 s'
    have em5:=u5.oth _ _ nm em
    have et5:=u5.at'
    rw [← List.map_append] at et5
    have bm:∀ x∈M.lk1 ((prs nx).map (·.1)) ((prs os).map (·.1)) i,x < 2 ^ nx.length:=fun x hx=>by
     obtain ⟨y,hy,rfl⟩:=List.mem_map.mp hx
     exact M.bkI_lt hA (hO y hy) i
    walk_at "l2"
    intro D5 hD5
    refine bw (xs:=(M.lk1 ((prs nx).map (·.1)) ((prs os).map (·.1)) i).map nat) (fun j ys H'=>Cs (fun j ys=>ys=((M.lk1 ((prs nx).map (·.1)) ((prs os).map (·.1)) (i + 1)).take j).map nat) H5 D5 j ys H') (Cs.zero hD5 rfl) (fun j ys H' _ c=>SqL.of (c.same.get em5)) (fun j v ys H6 hv c=>?_) (fun ys H6 c=>?_)
    ·obtain ⟨y,hy,rfl⟩:=aK hv
     have hj:=(List.getElem?_eq_some_iff.mp hy).1
     have hy2:=bm y (List.mem_of_getElem? hy)
     have s56:=s5.trans c.same
     walk_at "l2"
     refine im (s56.get ho) rfl ?_
     walk_at "l2"
     refine ⟨p,m,nx,os,nat y,"int",rfl,ma.same s56,g,rfl,fun a1 ea ha t7 H7 s7 e7=>?_,fun bad=>?_⟩
     ·have ea:=ny ea
      subst ea
      walk_at "l2"
      refine Cs.put hD5 (c.same.trans s7) (s7.get c.at') c.len (by omega) ?_
      rw [c.pv,take_succ (show (M.lk1 ((prs nx).map (·.1)) ((prs os).map (·.1)) (i + 1))[j]? =some (M.sm ((prs nx).map (·.1)) y) from ?_),List.map_append,eA];rfl
      unfold M.lk1 at hy ⊢
      rw [List.getElem?_map] at hy ⊢
      cases e:((prs os).map (·.1))[j]? with
      | none=>rw [e] at hy;cases hy
      | some z=>rw [e] at hy;rw [← Option.some.inj hy,M.bkI_succ];rfl
     ·rw [fE hy2] at bad;cases bad
    ·have e6:=c.at'
     rw [c.pv,List.length_map,l1,← M.lk1_len ((prs nx).map (·.1)) ((prs os).map (·.1)) (i + 1),List.take_length] at e6
     have s6:=c.same
     clear c
     walk_at "l2"
     exact ⟨_,D5,rfl,s5.trans s6,e6,s6.get et5,fun z=>by rw [z,et5] at hD5;cases hD5⟩
   ·rintro σ H' ⟨v,Dm,rfl,s',em,et,nm⟩
    walk_at "l2"
    refine q D0 H' (s1.free f2) s' ?_
    unfold M.msk
    rw [aG];exact et
theorem qi (T:Tx K mg a):FnOk P w K mg base CX0 3 a.c7 a.nN ["mask","others"] JS:=by
 have uo:=@zv P w K mg base a T
 have gE:=@j3 P w K mg base a T
 refine T.kg.ok y9 (fun vs H Q E h=>?_) (fun cdv A outer s H vs Q E hr h=>?_)
 ·obtain ⟨r,x,L,rfl,_⟩:=h;rfl
 ·obtain ⟨r,x,L,rfl,hL,l1,hx,q⟩:=h
  refine ⟨_,((ah (aE (aj gE (hr.mono (by decide)) (by rfl) T.mf T.l9 T.iE .nil az (aa (dC (osc:=ad eK) (ON:=["mask","others"]) (N:=["place","other","mask"]) (n:=2) (fx:=[0]) rfl rfl rfl (by decide +kernel) (uT (K:=K) rfl (by rfl) T.cu (pv 1)) (xN (fh (aW (by decide)) (fh (aW (by decide)) rf))) (fun _ _ _ _ _=>⟨(qe (K:=K) (n:=2) rfl rfl (aL (ak (i:=0) (show List.Nodup (["place","other","mask"]:List Str) from by decide +kernel) rfl (by walk_at "o")) (aL (ak (i:=1) (show List.Nodup (["place","other","mask"]:List Str) from by decide +kernel) rfl (by walk_at "o")) dS))),(uJ (cR (cz (aj uo (hr.mono (by decide)) (by rfl) T.Bk T.Bh T.um .nil az (aa (am dU (pv 2) (pv 1)) af))))),(pv 0)⟩)) af))))),aA (σ':=[some _,some _]) rfl ?_⟩
  walk_at "l2"
  refine .inl ⟨⟨_,SqL.of hL⟩,?_⟩
  intro D hD
  refine ka (xs:=L.map nat) (fun i ys H'=>Cs (fun i ys=>∃ qs:List Nat,ys=qs.map nat∧(∀ p∈qs,p < i)∧M.xm qs=M.ow x (L.take i)) H D i ys H') (Cs.zero hD ⟨[],rfl,fun _ h=>absurd h (by simp),rfl⟩) (fun i ys H' _ c=>Same.seq c.same (SqL.of hL)) (fun i v ys H' p H7 hv c fp s7 e7=>?_) (fun ys H' c=>?_)
  ·obtain ⟨pr,hpr,rfl⟩:=aK hv
   obtain ⟨qs,eqs,hq,exm⟩:=c.pv
   have hi:=(List.getElem?_eq_some_iff.mp hpr).1
   have ts:=Kz (x:=x) hpr
   walk_at "l2"
   rw [aO]
   refine ⟨x&&&pr,rfl,Nat.lt_of_le_of_lt Nat.and_le_left hx,?_⟩
   cases hod:M.od (x&&&pr) with
   | true=>
     rw [hod,if_pos rfl] at ts
     refine ⟨false,rfl,?_⟩
     rw [if_pos (show (!false)=true from rfl)]
     walk_at "l2"
     refine Cs.put hD (c.same.trans s7) (s7.get c.at') c.len (by omega) ⟨qs++[i],?_,fun k hk=>?_,?_⟩
     ·rw [eqs,List.map_append];rfl
     ·rcases List.mem_append.mp hk with h | h
      ·have:=hq k h;omega
      ·rw [List.mem_singleton.mp h];omega
     ·rw [M.xm_snoc,exm,ts]
   | false=>
     rw [hod,if_neg Bool.false_ne_true,Nat.xor_zero] at ts
     refine ⟨true,rfl,?_⟩
     rw [if_neg (by decide)]
     refine Cs.skip (c.same.trans s7) (s7.get c.at') c.len ⟨qs,eqs,fun k hk=>?_,?_⟩
     ·have:=hq k hk;omega
     ·rw [exm,ts]
  ·obtain ⟨qs,eqs,hq,exm⟩:=c.pv
   rw [List.length_map] at hq exm
   have ec:=c.at'
   rw [eqs] at ec
   walk_at "l2"
   refine ⟨D,qs,rfl,ec,fun k hk=>by have:=hq k hk;omega,?_⟩
   rw [exm,List.take_length]
   exact q _ c.same
theorem oQ (T:Tx K mg a):FnOk P w K mg base CX0 7 a.a9 a.gu ["pair","states","seen"] LI:=by
 have GE:=@Cc P w K mg base a T
 have iG:=@qi P w K mg base a T
 have gE:=@j3 P w K mg base a T
 refine T.d8.ok oK (fun vs H Q E h=>?_) (fun cdv A outer s H vs Q E hr h=>?_)
 ·obtain ⟨t,D1,D2,x,b,S,Z,rfl,_⟩:=h;rfl
 ·obtain ⟨t,D1,D2,x,b,S,Z,rfl,ht,h1,h2,lS,lZ,bZ,bx,sp,q⟩:=h
  refine ⟨_,((ah (aE (jp (aa (aj gE (hr.mono (by decide)) (by rfl) T.mf T.l9 T.iE .nil az (aa (aV (aq (K:=K) rfl) (aj GE (hr.mono (by decide)) (by rfl) T.FJ T.Fw T.rV .nil az (aa (pv 2) (aa (aj iG (hr.mono (by decide)) (by rfl) T.j7 T.j5 T.gd .nil az (aa (aV (aq (K:=K) rfl) (pv 0) ag (fun _ _=>rfl)) (aa (pv 1) af))) af))) ag (fun _ _=>rfl)) af)) (aa (aV (aq (K:=K) rfl) (pv 0) ag (fun _ _=>rfl)) af)))))),aA (σ':=[some _,some _,some _]) rfl ?_⟩
  walk_at "l2"
  refine ⟨D1,x,S,rfl,h1,lS,bx,fun H3 s3=>?_⟩
  walk_at "l2"
  refine ⟨D2,Z,_,rfl,s3.get h2,lZ,bZ,Nat.lt_of_lt_of_le (M.ow_lt _ _) (Nat.pow_le_pow_right (by decide) lS),.inl sp,fun t4 D4 H4 qq f4 s4 e4 e4' sd=>?_,fun t4 H4 mk s4 e4 bd=>absurd sp bd.ns⟩
  have hq:qq < 2 ^ 1000:=Nat.lt_of_lt_of_le sd.lt (Nat.pow_le_pow_right (by decide) lZ)
  have ht4:=s4.get (s3.get ht)
  walk_at "l2"
  refine ⟨D4,M.pl 1000 qq,rfl,e4',fun x hx=>M.pl_lt hq x hx,?_⟩
  rw [Lr hq]
  walk_at "l2"
  intro t5 H5 f5 s5 e5
  exact q t5 H5 qq (s3.free (s4.free f5)) (s3.trans (s4.trans s5)) e5 sd
theorem Ht (T:Tx K mg a):FnOk P w K mg base CX0 9 a.iQ a.An ["machine"] (G6 a.ai):=by
 have bb:=@c3 P w K mg base a T
 have fc:=@gJ P w K mg base a T
 have ii:=@jt P w K mg base a T
 have d7:=@gq P w K mg base a T
 have Lk:=@Hs P w K mg base a T
 have yH:=@u1 P w K mg base a T
 have JB:=@KB P w K mg base a T
 have iG:=@qi P w K mg base a T
 have jT:=@oQ P w K mg base a T
 have GF:=@Cd P w K mg base a T
 refine T.wC.ok ff (fun vs H Q E h=>?_) (fun cdv A outer s H vs Q E hr h=>?_)
 ·obtain ⟨p,m,nx,os,rfl,_⟩:=h;rfl
 ·obtain ⟨p,m,nx,os,rfl,ma,g,l60,q⟩:=h
  obtain ⟨dx,tn,to,ho,hn,ho2⟩:=ma.ho
  have lo:=g.lo
  have m6:=g.m6
  refine ⟨_,((ae (ar (i:=1) ff.nd rfl (by walk_at "o") (aj Lk (hr.mono (by decide)) (by rfl) T.KW T.KN T.AE .nil az (aa (pv 0) (aa (fg (pv 0) T.au T.cA bb (hr.mono (by decide)) T.bv .nil az) af))))
   (ae (ar (i:=2) ff.nd rfl (by walk_at "o") (aj yH (hr.mono (by decide)) (by rfl) T.xO T.xG T.jP .nil az (aa (pv 0) af)))
   (ae (ar (i:=3) ff.nd rfl (by walk_at "o") (aj JB (hr.mono (by decide)) (by rfl) T.Jm T.Jj T.Bt .nil az (aa (dC (osc:=ad dP) (ON:=["machine","leads","masks","led","states","looks","seen","nexts","outs","rows"]) (N:=["state","masks"]) (n:=1) (fx:=[2]) rfl rfl rfl (by decide +kernel) (aZ (K:=K) rfl (pv 1)) (aW (by decide)) (fun _ _ _ _ _=>⟨(ak (i:=0) (show List.Nodup (["state","masks"]:List Str) from by decide +kernel) rfl (by walk_at "o")),bL,(aj iG (hr.mono (by decide)) (by rfl) T.j7 T.j5 T.gd .nil az (aa (pv 0) (aa (pv 1) af)))⟩)) af)))
   (ae (ar (i:=4) ff.nd rfl (by walk_at "o") (dC (osc:=ad dP) (ON:=["machine","leads","masks","led","states","looks","seen","nexts","outs","rows"]) (N:=["place","leads"]) (n:=1) (fx:=[1]) rfl rfl rfl (by decide +kernel) (aZ (K:=K) rfl (pv 3)) (aW (by decide)) (fun _ _ _ _ _=>⟨(ak (i:=0) (show List.Nodup (["place","leads"]:List Str) from by decide +kernel) rfl (by walk_at "o")),bL,(aV (gN (K:=K) rfl) (pv 1) (pv 0) (fun _ _=>rfl))⟩)))
   (ae (ar (i:=5) ff.nd rfl (by walk_at "o") (aj JB (hr.mono (by decide)) (by rfl) T.Jm T.Jj T.Bt .nil az (aa (dC (osc:=ad dP) (ON:=["machine","leads","masks","led","states","looks","seen","nexts","outs","rows"]) (N:=["mask","states"]) (n:=1) (fx:=[4]) rfl rfl rfl (by decide +kernel) (aZ (K:=K) rfl (pv 2)) (aW (by decide)) (fun _ _ _ _ _=>⟨(ak (i:=0) (show List.Nodup (["mask","states"]:List Str) from by decide +kernel) rfl (by walk_at "o")),bL,(aj iG (hr.mono (by decide)) (by rfl) T.j7 T.j5 T.gd .nil az (aa (pv 0) (aa (pv 1) af)))⟩)) af)))
   (ae (ar (i:=6) ff.nd rfl (by walk_at "o") (dC (osc:=ad dP) (ON:=["machine","leads","masks","led","states","looks","seen","nexts","outs","rows"]) (N:=["place","masks","states"]) (n:=1) (fx:=[2,4]) rfl rfl rfl (by decide +kernel) (aZ (K:=K) rfl (pv 5)) (aW (by decide)) (fun _ _ _ _ _=>⟨(ak (i:=0) (show List.Nodup (["place","masks","states"]:List Str) from by decide +kernel) rfl (by walk_at "o")),bL,(aj iG (hr.mono (by decide)) (by rfl) T.j7 T.j5 T.gd .nil az (aa (aV (gN (K:=K) rfl) (pv 1) (pv 0) (fun _ _=>rfl)) (aa (pv 2) af)))⟩)))
   (ae (gi (osc:=ad dP) (ON:=["machine","leads","masks","led","states","looks","seen","nexts","outs","rows"]) (N:=["place","machine","masks","states","seen"]) (n:=1) (fx:=[0,2,4,6]) (i:=7) ff.nd rfl rfl rfl rfl rfl rfl (by decide +kernel) (aZ (K:=K) rfl (pv 5)) (aW (by decide)) (fun _ _ _ _ _=>⟨(ak (i:=0) (show List.Nodup (["place","machine","masks","states","seen"]:List Str) from by decide +kernel) rfl (by walk_at "o")),bL,(aj jT (hr.mono (by decide)) (by rfl) T.jA T.jy T.d5 .nil az (aa (j2 (pv 1) T.au T.kE ii (hr.mono (by decide)) T.fj .nil thr0 (aa (aV (gN (K:=K) rfl) (pv 2) (pv 0) (fun _ _=>rfl)) af)) (aa (pv 3) (aa (pv 4) af))))⟩))
   (ae (gi (osc:=ad dP) (ON:=["machine","leads","masks","led","states","looks","seen","nexts","outs","rows"]) (N:=["pair","states","seen"]) (n:=1) (fx:=[4,6]) (i:=8) ff.nd rfl rfl rfl rfl rfl rfl (by decide +kernel) (EV (K:=K) rfl (bt (K:=K) rfl (pv 0) rfl)) (aW (by decide)) (fun _ _ _ _ _=>⟨(ak (i:=0) (show List.Nodup (["pair","states","seen"]:List Str) from by decide +kernel) rfl (by walk_at "o")),bL,(aj jT (hr.mono (by decide)) (by rfl) T.jA T.jy T.d5 .nil az (aa (pv 0) (aa (pv 1) (aa (pv 2) af))))⟩))
   (ae (gi (osc:=ad dP) (ON:=["machine","leads","masks","led","states","looks","seen","nexts","outs","rows"]) (N:=["place","machine"]) (n:=1) (fx:=[0]) (i:=9) ff.nd rfl rfl rfl rfl rfl rfl (by decide +kernel) (aZ (K:=K) rfl (pv 3)) (aW (by decide)) (fun _ _ _ _ _=>⟨(ak (i:=0) (show List.Nodup (["place","machine"]:List Str) from by decide +kernel) rfl (by walk_at "o")),bL,(aj GF (hr.mono (by decide)) (by rfl) T.FK T.Fx T.rW .nil az (aa (pv 1) (aa (ek (aa (pv 0) af)) (aa (fg (pv 1) T.au T.cA bb (hr.mono (by decide)) T.bv .nil az) af))))⟩))
   (ah (aE (jp (aa (uV T.yG d7 (hr.mono (by decide)) (by rfl) T.xT T.cL .nil az (aa (bt (K:=K) rfl (pv 0) rfl) (aa (pv 7) (aa (pv 8) af)))) (aa (pv 9) (aa (dC (osc:=ad dP) (ON:=["machine","leads","masks","led","states","looks","seen","nexts","outs","rows"]) (N:=["place","machine"]) (n:=1) (fx:=[0]) rfl rfl rfl (by decide +kernel) (aZ (K:=K) rfl (pv 5)) (aW (by decide)) (fun _ _ _ _ _=>⟨(ak (i:=0) (show List.Nodup (["place","machine"]:List Str) from by decide +kernel) rfl (by walk_at "o")),bL,(aD Dg (by rfl) T.HK PyProof.Rows.boot_divmod (aa (pv 0) (aa (fg (pv 1) T.au T.iy fc (hr.mono (by decide)) T.dc .nil az) af)))⟩)) af)))))))))))))))),aA (σ':=[some _,none,none,none,none,none,none,none,none,none]) rfl ?_⟩
  walk_at "l2"
  refine cK ho rfl ?_
  walk_at "l2"
  refine ⟨p,m,nx,os,rfl,ma,?_⟩
  walk_at "l2"
  refine ⟨p,m,nx,os,_,rfl,ma,g,by omega,fun Dl H1 f1 s1 e1=>?_⟩
  walk_at "l2"
  refine ⟨p,m,nx,os,rfl,ma.same s1,g,l60,fun Dm H2 f2 s2 e2=>?_⟩
  have e12:=s2.get e1
  have s02:=s1.trans s2
  have hfit:M.Fit (prs nx) (prs os) m:=⟨by rw [aG];omega,fun q hq=>by
   rw [show prs nx++prs os=prs (nx++os) from (List.map_append ..).symm] at hq
   obtain ⟨r,hr,rfl⟩:=List.mem_map.mp hq
   rw [aG];exact (g.bn r hr).1⟩
  obtain ⟨X,eX⟩:∃ X,X=M.rch (prs nx) m (prs nx).length:=⟨_,rfl⟩
  obtain ⟨Y,eY⟩:∃ Y,Y=M.msk (prs nx) (prs os):=⟨_,rfl⟩
  have lX:X.length=nx.length * m:=by rw [eX,M.rch_len,aG]
  have lY:Y.length=nx.length * os.length:=by rw [eY];unfold M.msk;rw [M.lkm_len,aG,List.length_map,aG]
  have lX':nx.length * m≤60 * 6:=Nat.mul_le_mul l60 m6
  have lY':nx.length * os.length≤60 * 6:=Nat.mul_le_mul l60 lo
  have pw:2 ^ nx.length≤2 ^ 1000:=Nat.pow_le_pow_right (by decide) (by omega)
  have bX:∀ x∈X,x < 2 ^ nx.length:=fun x hx=>by rw [eX] at hx;have:=M.rch_lt (prs nx) m _ x hx;rwa [aG] at this
  have bY:∀ x∈Y,x < 2 ^ nx.length:=fun x hx=>by
   rw [eY] at hx
   obtain ⟨s,t,hs,ht,rfl⟩:=M.lkm_of hx
   have:=M.bkI_lt hfit.A (hfit.O s hs) t
   rwa [aG] at this
  rw [← aG nx,← eX] at e12
  rw [← eY] at e2
  have e2':=e2
  clear e1
  walk_at "l2"
  intro D3 hD3
  refine bw (xs:=X.map nat) (fun j ys H'=>Cs (fun j ys=>ys=((X.map (M.ow · Y)).take j).map nat) H2 D3 j ys H') (Cs.zero hD3 rfl) (fun j ys H' _ c=>SqL.of (c.same.get e12)) (fun j v ys H6 hv c=>?_) (fun ys H3 c=>?_)
  ·obtain ⟨y,hy,rfl⟩:=aK hv
   have hj:=(List.getElem?_eq_some_iff.mp hy).1
   have hy2:=bX y (List.mem_of_getElem? hy)
   walk_at "l2"
   refine ⟨Dm,y,Y,rfl,c.same.get e2,by omega,Nat.lt_of_lt_of_le hy2 pw,fun H7 s7=>?_⟩
   refine Cs.put hD3 (c.same.trans s7) (s7.get c.at') c.len (by omega) ?_
   rw [c.pv,take_succ (show (X.map (M.ow · Y))[j]? =some (M.ow y Y) by rw [List.getElem?_map,hy];rfl),List.map_append];rfl
  have e3:=c.at'
  rw [c.pv,List.length_map,← List.length_map (as:=X) (f:=(M.ow · Y)),List.take_length] at e3
  have s03:=s02.trans c.same
  have eX3:=c.same.get e12
  have eY3:=c.same.get e2
  clear c e2' e12 e2
  walk_at "l2"
  refine ⟨D3,X.map (M.ow · Y),rfl,e3,by rw [List.length_map];omega,fun Dd H4 f4 s4 e4=>?_⟩
  obtain ⟨led,eled⟩:∃ led,led=M.ldp (prs nx) (prs os) m:=⟨_,rfl⟩
  have e4:H4 Dd=some (.lst (led.map nat)):=by rw [e4,eled,eX,eY];rfl
  have bled:∀ i∈led,i < X.length:=fun i hi=>by rw [eled] at hi;have:=M.ldp_lt i hi;rw [eX];exact this
  have lled:led.length≤360:=by
   have:=M.fr_len (X.map (M.ow · Y))
   rw [eled];unfold M.ldp
   rw [← eX,← eY];rw [List.length_map] at this;omega
  have eX4:=s4.get eX3
  have eY4:=s4.get eY3
  have s04:=s03.trans s4
  clear eX3 eY3 e3
  walk_at "l2"
  intro D5 hD5
  refine bw (xs:=led.map nat) (fun j ys H'=>Cs (fun j ys=>ys=((led.map fun i=>X.getD i 0).take j).map nat) H4 D5 j ys H') (Cs.zero hD5 rfl) (fun j ys H' _ c=>SqL.of (c.same.get e4)) (fun j v ys H6 hv c=>?_) (fun ys H5 c=>?_)
  ·obtain ⟨y,hy,rfl⟩:=aK hv
   have hj:=(List.getElem?_eq_some_iff.mp hy).1
   have hy2:=bled y (List.mem_of_getElem? hy)
   have eX6:=c.same.get eX4
   have gx:atI (X.map nat) (y:Int)=some (nat (X.getD y 0)):=nZ (by rw [List.getElem?_map,M.getD_at' (d:=0) hy2];rfl)
   walk_at "l2"
   refine Cs.put hD5 c.same c.at' c.len (by omega) ?_
   rw [c.pv,take_succ (show (led.map fun i=>X.getD i 0)[j]? =some (X.getD y 0) by rw [List.getElem?_map,hy];rfl),List.map_append];rfl
  obtain ⟨S,eS⟩:∃ S,S=M.lst_ (prs nx) (prs os) m:=⟨_,rfl⟩
  have e5:=c.at'
  rw [c.pv,List.length_map,← List.length_map (as:=led) (f:=fun i=>X.getD i 0),List.take_length] at e5
  have e5:H5 D5=some (.lst (S.map nat)):=by rw [e5,eS,eled,eX];rfl
  have lS:S.length=led.length:=by rw [eS,eled,M.lst_len]
  have bS:∀ x∈S,x < 2 ^ nx.length:=fun x hx=>by rw [eS] at hx;have:=M.lst_in x hx;rw [← eX] at this;exact bX x this
  have s05:=s04.trans c.same
  have eX5:=c.same.get eX4
  have eY5:=c.same.get eY4
  have ed5:=c.same.get e4
  clear c eX4 eY4 e4
  walk_at "l2"
  intro D6 hD6
  refine bw (xs:=Y.map nat) (fun j ys H'=>Cs (fun j ys=>ys=((Y.map (M.ow · S)).take j).map nat) H5 D6 j ys H') (Cs.zero hD6 rfl) (fun j ys H' _ c=>SqL.of (c.same.get eY5)) (fun j v ys H6 hv c=>?_) (fun ys H6 c=>?_)
  ·obtain ⟨y,hy,rfl⟩:=aK hv
   have hj:=(List.getElem?_eq_some_iff.mp hy).1
   have hy2:=bY y (List.mem_of_getElem? hy)
   walk_at "l2"
   refine ⟨D5,y,S,rfl,c.same.get e5,by omega,Nat.lt_of_lt_of_le hy2 pw,fun H7 s7=>?_⟩
   refine Cs.put hD6 (c.same.trans s7) (s7.get c.at') c.len (by omega) ?_
   rw [c.pv,take_succ (show (Y.map (M.ow · S))[j]? =some (M.ow y S) by rw [List.getElem?_map,hy];rfl),List.map_append];rfl
  have e6:=c.at'
  rw [c.pv,List.length_map,← List.length_map (as:=Y) (f:=(M.ow · S)),List.take_length] at e6
  have s06:=s05.trans c.same
  have eY6:=c.same.get eY5
  have eS6:=c.same.get e5
  have ed6:=c.same.get ed5
  clear c eX5 eY5 e5 ed5
  walk_at "l2"
  refine ⟨D6,Y.map (M.ow · S),rfl,e6,by rw [List.length_map];omega,fun Dk H7 f7 s7 e7=>?_⟩
  obtain ⟨lks,elks⟩:∃ lks,lks=M.lkp (prs nx) (prs os) m:=⟨_,rfl⟩
  have e7:H7 Dk=some (.lst (lks.map nat)):=by rw [e7,elks,eY,eS];rfl
  have blks:∀ i∈lks,i < Y.length:=fun i hi=>by rw [elks] at hi;have:=M.lkp_lt i hi;rw [eY];exact this
  have llks:lks.length≤nx.length:=by rw [elks,← aG nx];exact M.many_le
  have eY7:=s7.get eY6
  have eS7:=s7.get eS6
  have ed7:=s7.get ed6
  have s07:=s06.trans s7
  clear eY6 eS6 ed6 e6
  walk_at "l2"
  intro D8 hD8
  refine bw (xs:=lks.map nat) (fun j ys H'=>Cs (fun j ys=>ys=((lks.map fun i=>M.ow (Y.getD i 0) S).take j).map nat) H7 D8 j ys H') (Cs.zero hD8 rfl) (fun j ys H' _ c=>SqL.of (c.same.get e7)) (fun j v ys H8 hv c=>?_) (fun ys H8 c=>?_)
  ·obtain ⟨y,hy,rfl⟩:=aK hv
   have hj:=(List.getElem?_eq_some_iff.mp hy).1
   have hy2:=blks y (List.mem_of_getElem? hy)
   have eY8:=c.same.get eY7
   have gy:atI (Y.map nat) (y:Int)=some (nat (Y.getD y 0)):=nZ (by rw [List.getElem?_map,M.getD_at' (d:=0) hy2];rfl)
   walk_at "l2"
   refine ⟨D5,Y.getD y 0,S,rfl,c.same.get eS7,by omega,Nat.lt_of_lt_of_le (bY _ (M.getD_mem hy2)) pw,fun H9 s9=>?_⟩
   refine Cs.put hD8 (c.same.trans s9) (s9.get c.at') c.len (by omega) ?_
   rw [c.pv,take_succ (show (lks.map fun i=>M.ow (Y.getD i 0) S)[j]? =some (M.ow (Y.getD y 0) S) by rw [List.getElem?_map,hy];rfl),List.map_append];rfl
  obtain ⟨Z,eZ⟩:∃ Z,Z=M.sen (prs nx) (prs os) m:=⟨_,rfl⟩
  have e8:=c.at'
  rw [c.pv,List.length_map,← List.length_map (as:=lks) (f:=fun i=>M.ow (Y.getD i 0) S),List.take_length] at e8
  have e8:H8 D8=some (.lst (Z.map nat)):=by
   rw [e8,eZ,elks,eY,eS];unfold M.sen M.lkL;rw [List.map_map (l:=M.lkp _ _ _) (g:=fun x=>M.ow x _)];rfl
  have lZ:Z.length=lks.length:=by rw [eZ,elks,M.sen_len]
  have bZ:∀ x∈Z,x < 2 ^ 1000:=fun x hx=>by
   rw [eZ] at hx
   obtain ⟨y,_,rfl⟩:=List.mem_map.mp hx
   exact Nat.lt_of_lt_of_le (M.ow_lt _ _) (Nat.pow_le_pow_right (by decide) (by rw [← eS];omega))
  have s08:=s07.trans c.same
  have eY8:=c.same.get eY7
  have eS8:=c.same.get eS7
  have ed8:=c.same.get ed7
  have ek8:=c.same.get e7
  clear c eY7 eS7 ed7 e7
  have eA:(nx.map fun q=>q.2.1)=(prs nx).map (·.1):=by rw [List.map_map];rfl
  have eB:(nx.map fun q=>q.2.2)=(prs nx).map (·.2):=by rw [List.map_map];rfl
  have bA:∀ y,M.sm ((prs nx).map (·.1)) y < 2 ^ nx.length:=fun y=>by have:=M.sm_lt y hfit.A;rwa [aG] at this
  have bB:∀ y,M.sm ((prs nx).map (·.2)) y < 2 ^ m:=fun y=>M.sm_lt y fun x hx=>by
   obtain ⟨q,hq,rfl⟩:=List.mem_map.mp hx
   obtain ⟨r,hr,rfl⟩:=List.mem_map.mp hq
   exact (g.bn r (List.mem_append_left _ hr)).2
  walk_at "l2"
  intro D9 hD9
  refine bw (xs:=lks.map nat) (fun j ys H'=>Cp (fun qs=>∀ (j:Nat) (q:Pr3),qs[j]? =some q→q.2.1 < 2 ^ lks.length∧M.sm Z q.2.1=M.ow (M.sm ((prs nx).map (·.1)) (Y.getD (lks.getD j 0) 0)) S∧q.2.2=M.sm ((prs nx).map (·.2)) (Y.getD (lks.getD j 0) 0)) H8 D9 j ys H') (F8 hD9 fun j q h=>by simp at h) (fun j ys H' _ ⟨_,_,_,_,_,s',_⟩=>SqL.of (s'.get ek8)) (fun j v ys H9 hv c=>?_) (fun ys H9 c=>?_)
  ·obtain ⟨y,hy,rfl⟩:=aK hv
   obtain ⟨qs,rfl,lq,pv,pt,s9,eD9⟩:=c
   have hj:=(List.getElem?_eq_some_iff.mp hy).1
   have hy2:=blks y (List.mem_of_getElem? hy)
   have hyY:=M.getD_mem hy2
   have eY9:=s9.get eY8
   have s09:=s08.trans s9
   have gy:atI (Y.map nat) (y:Int)=some (nat (Y.getD y 0)):=nZ (by rw [List.getElem?_map,M.getD_at' (d:=0) hy2];rfl)
   walk_at "l2"
   refine im (s09.get ho) rfl ?_
   walk_at "l2"
   refine ⟨p,m,nx,os,nat (Y.getD y 0),"int",rfl,ma.same s09,g,rfl,fun a1 ea ha t10 H10 s10 e10=>?_,fun bad=>?_⟩
   ·have ea:=ny ea
    subst ea
    rw [eA,eB] at e10
    walk_at "l2"
    refine ⟨t10,D5,D8,_,_,S,Z,rfl,e10,s10.get (s9.get eS8),s10.get (s9.get e8),by omega,by omega,bZ,Nat.lt_of_lt_of_le (bA _) pw,?_,fun t11 H11 qq f11 s11 e11 sd=>?_⟩
    ·rw [eZ,eS]
     rw [eY] at hyY
     exact M.span_sen (hfit.back (by rw [eY];exact hyY))
    ·refine Jv hD9 lq pt s9 eD9 (s10.trans s11) e11 (by omega) fun k q hk=>?_
     by_cases hk2:k < qs.length
     ·rw [List.getElem?_append_left hk2] at hk;exact pv k q hk
     ·rw [List.getElem?_append_right (by omega)] at hk
      have hz:k - qs.length=0:=by
       cases e:k - qs.length with
       | zero=>rfl
       | succ m=>rw [e] at hk;simp at hk
      rw [hz] at hk
      have hk:q=(t11,qq,M.sm ((prs nx).map (·.2)) (Y.getD y 0)):=(Option.some.inj hk).symm
      have hkj:k=j:=by omega
      have hy':lks.getD k 0=y:=by rw [hkj,List.getD_eq_getElem?_getD,hy];rfl
      rw [hk,hy']
      exact ⟨by have:=sd.lt;rwa [lZ] at this,sd.sm,rfl⟩
   ·rw [fE (bY _ hyY)] at bad;cases bad
  obtain ⟨nx2,rfl,ln2,pn2,pt9,s9,e9⟩:=c
  rw [List.length_map] at ln2
  have s09:=s08.trans s9
  have eS9:=s9.get eS8
  have eZ9:=s9.get e8
  have ed9:=s9.get ed8
  have ek9:=s9.get ek8
  clear eY8 eS8 e8 ed8 ek8
  walk_at "l2"
  refine bq (s09.get ho) T.au T.cI rfl ?_
  have ho9:=s09.get ho2
  walk_at "l2"
  intro DA hDA
  refine Bm (xs:=refs os) (fun j ys H'=>Cp (fun qs=>∀ (j:Nat) (q:Pr3),qs[j]? =some q→q.2.1 < 2 ^ lks.length∧M.sm Z q.2.1=M.ow ((prs os).getD j (0,0)).1 S∧q.2.2=((prs os).getD j (0,0)).2) H9 DA j ys H') (F8 hDA fun j q h=>by simp at h) (fun j ys H' _ ⟨_,_,_,_,_,s',_⟩=>SqT.of (s'.get ho9)) (fun j v ys HA hv c=>?_) (fun ys HA c=>?_)
  ·obtain ⟨pr,hpr,rfl⟩:=aK hv
   obtain ⟨qs,rfl,lq,pv,pt,sA,eDA⟩:=c
   have hj:=(List.getElem?_eq_some_iff.mp hpr).1
   have hm:=List.mem_of_getElem? hpr
   have s0A:=s09.trans sA
   have hpo:(prs os)[j]? =some pr.2:=EQ hpr
   walk_at "l2"
   refine ⟨pr.1,D5,D8,pr.2.1,pr.2.2,S,Z,rfl,s0A.get (ma.hs pr hm),sA.get eS9,sA.get eZ9,by omega,by omega,bZ,Nat.lt_of_lt_of_le (g.bn pr (List.mem_append_right _ hm)).1 pw,?_,fun t11 H11 qq f11 s11 e11 sd=>?_⟩
   ·rw [eZ,eS]
    exact M.span_sen (hfit.out (List.mem_map.mpr ⟨pr.2,List.mem_of_getElem? hpo,rfl⟩))
   ·refine Jv hDA lq pt sA eDA s11 e11 (by omega) fun k q hk=>?_
    by_cases hk2:k < qs.length
    ·rw [List.getElem?_append_left hk2] at hk;exact pv k q hk
    ·rw [List.getElem?_append_right (by omega)] at hk
     have hz:k - qs.length=0:=by
      cases e:k - qs.length with
      | zero=>rfl
      | succ m=>rw [e] at hk;simp at hk
     rw [hz] at hk
     have hk:q=(t11,qq,pr.2.2):=(Option.some.inj hk).symm
     have hkj:k=j:=by omega
     have hy':(prs os).getD k (0,0)=pr.2:=by rw [hkj,List.getD_eq_getElem?_getD,hpo];rfl
     rw [hk,hy']
     exact ⟨by have:=sd.lt;rwa [lZ] at this,sd.sm,rfl⟩
  obtain ⟨os2,rfl,lo2,po2,ptA,sA,eA'⟩:=c
  rw [dQ] at lo2
  have s0A:=s09.trans sA
  have edA:=sA.get ed9
  have ekA:=sA.get ek9
  have e9A:=sA.get e9
  have pt9A:=pt9.same sA
  clear eS9 eZ9 ed9 ek9 e9 pt9
  walk_at "l2"
  intro DB hDB
  refine bw (xs:=led.map nat) (fun j ys H'=>Co (fun j=> .lst ((M.upk m (2 ^ led.getD j 0) nx.length).map nat)) HA DB j ys H') (Av hDB) (fun j ys H' _ ⟨_,_,_,_,_,s',_⟩=>SqL.of (s'.get edA)) (fun j v ys HB hv c=>?_) (fun ys HB c=>?_)
  ·obtain ⟨y,hy,rfl⟩:=aK hv
   have c':=c
   obtain ⟨qs,eqs,lq,pa,pf,sB,eDB⟩:=c'
   have hj:=(List.getElem?_eq_some_iff.mp hy).1
   have hy2:=bled y (List.mem_of_getElem? hy)
   have s0B:=s0A.trans sB
   walk_at "l2"
   intro Dq HC fC sC eC
   have s0C:=s0B.trans sC
   walk_at "l2"
   refine cK (s0C.get ho) rfl ?_
   walk_at "l2"
   refine ⟨p,m,nx,os,rfl,ma.same s0C,?_⟩
   walk_at "l2"
   refine ⟨p,Dq,m,nx,os,2 ^ y,_,rfl,ma.same s0C,g,by rw [Mw (show y < 1000 by omega)];exact eC,Nat.pow_lt_pow_right (by decide) (by omega),by omega,fun D2 H2' f2' s2' e2'=>?_⟩
   refine F9 hDB c (sC.trans s2') (sC.free f2') ?_ (by omega)
   rw [e2']
   have hy':led.getD j 0=y:=by rw [List.getD_eq_getElem?_getD,hy];rfl
   rw [hy']
  obtain ⟨ds,rfl,lds,ads,fds,sB,eB'⟩:=c
  rw [List.length_map] at lds
  have s0B:=s0A.trans sB
  have tabB:Tab HB D9 DA m nx2 os2:=⟨m6,sB.get e9A,sB.get eA',pt9A.same sB,ptA.same sB,by omega,by omega,fun q hq=>by
   rw [ln2]
   rcases List.mem_append.mp hq with h | h
   ·obtain ⟨j,hj,ej⟩:=List.mem_iff_getElem.mp h
    have:=pn2 j q (by rw [List.getElem?_eq_getElem hj,ej])
    exact ⟨this.1,by rw [this.2.2];exact bB _⟩
   ·obtain ⟨j,hj,ej⟩:=List.mem_iff_getElem.mp h
    have:=po2 j q (by rw [List.getElem?_eq_getElem hj,ej])
    refine ⟨this.1,?_⟩
    rw [this.2.2,List.getD_eq_getElem?_getD]
    cases e:(prs os)[j]? with
    | none=>exact Nat.two_pow_pos m
    | some r=>
      obtain ⟨r',hr',rfl⟩:=List.mem_map.mp (List.mem_of_getElem? e)
      exact (g.bn r' (List.mem_append_right _ hr')).2⟩
  have ekB:=sB.get ekA
  clear ekA edA e9A eA'
  walk_at "l2"
  refine bq (s0B.get ho) T.au T.bu rfl ?_
  walk_at "l2"
  intro x dx2 HC fC sC eC
  refine ⟨x,dx2,D9,DA,m,nx2,os2,rfl,eC,tabB.same sC,fun HD kD maD=>⟨rfl,?_⟩⟩
  have sBD:Same HB HD:=fun b ob e=>kD _ _ (al e fC) (sC.get e)
  have ekD:=sBD.get ekB
  have s0D:=s0B.trans sBD
  walk_at "l2"
  intro DE hDE
  refine bw (xs:=lks.map nat) (fun j ys H'=>Co (fun j=> .tup [nat (lks.getD j 0 / os.length),nat (lks.getD j 0 % os.length)]) HD DE j ys H') (Av hDE) (fun j ys H' _ ⟨_,_,_,_,_,s',_⟩=>SqL.of (s'.get ekD)) (fun j v ys HE hv c=>?_) (fun ys HE c=>?_)
  ·obtain ⟨y,hy,rfl⟩:=aK hv
   have c':=c
   obtain ⟨qs,eqs,lq,pa,pf,sE,eDE⟩:=c'
   have hj:=(List.getElem?_eq_some_iff.mp hy).1
   have hy2:=blks y (List.mem_of_getElem? hy)
   have s0E:=s0D.trans sE
   have hop:0 < os.length:=Nat.pos_of_ne_zero fun z=>by rw [lY,z,Nat.mul_zero] at hy2;omega
   walk_at "l2"
   refine cK (s0E.get ho) rfl ?_
   walk_at "l2"
   refine ⟨p,m,nx,os,rfl,ma.same s0E,?_⟩
   walk_at "l2"
   refine Mc (by omega) (by omega) fun t2 H2' f2' s2' e2'=>?_
   refine F9 hDE c s2' f2' ?_ (by omega)
   have hy':lks.getD j 0=y:=by rw [List.getD_eq_getElem?_getD,hy];rfl
   rw [e2',hy'];rfl
  obtain ⟨es,rfl,les,aes,fes,sE,eE'⟩:=c
  rw [List.length_map] at les
  have s0E:=s0D.trans sE
  have sBE:=sBD.trans sE
  walk_at "l2"
  intro t HF fF sF eF
  have sBF:=sBE.trans sF
  have gl:∀ (l:List Nat) (j k:Nat),l[j]? =some k→l.getD j 0=k:=fun l j k h=>by rw [List.getD_eq_getElem?_getD,h];rfl
  refine q t x DB DE ds es HF nx2 os2 (s0E.trans sF) eF ((maD.same sE).same sF) ⟨m6,by omega,by omega,tabB.bn⟩ ?_ ⟨sBF.get eB',sF.get eE',by rw [lds,eled],by rw [les,elks],fun j d k h1 h2=>?_,fun j d k h1 h2=>?_⟩ (s0A.free hDB) (s0D.free hDE) ?_ fun d hd=>?_
  ·refine ⟨by rw [aG,ln2,elks],by rw [aG,aG,lo2],fun j q hq=>?_,fun j q hq=>?_⟩
   ·rw [List.getElem?_map] at hq
    cases e:nx2[j]? with
    | none=>rw [e] at hq;cases hq
    | some r=>
      rw [e] at hq
      have hq:=Option.some.inj hq
      have hj:=(List.getElem?_eq_some_iff.mp e).1
      have h:=pn2 j r e
      have hL:(M.lkL (prs nx) (prs os) m).getD j 0=Y.getD (lks.getD j 0) 0:=by
       unfold M.lkL
       rw [← eY,← elks,List.getD_eq_getElem?_getD,List.getElem?_map,M.getD_at' (d:=0) (show j < lks.length by omega)];rfl
      rw [← hq,hL,← elks,← eZ,← eS]
      exact h
   ·rw [List.getElem?_map] at hq
    cases e:os2[j]? with
    | none=>rw [e] at hq;cases hq
    | some r=>
      rw [e] at hq
      have hq:=Option.some.inj hq
      have h:=po2 j r e
      rw [← hq,← elks,← eZ,← eS]
      exact h
  ·rw [← eled] at h2
   rw [← gl _ _ _ h2]
   exact sBF.get (ads j d h1)
  ·rw [← elks] at h2
   rw [← gl _ _ _ h2]
   exact sF.get (aes j d h1)
  ·exact fun z=>by rw [← z,sBD.get eB'] at hDE;cases hDE
  ·have h:=fds d hd
   refine ⟨s0A.free h.1,h.2,fun z=>?_⟩
   obtain ⟨j,hj,ej⟩:=List.mem_iff_getElem.mp hd
   have:=sBD.get (ads j d (by rw [List.getElem?_eq_getElem hj,ej]))
   rw [z,hDE] at this;cases this
end
section
variable {P:Program} {w:World} {K:PySem.W.Frag} {mg:Str→Option Value} {base:Heap} {a:Ad}
theorem xc (T:Tx K mg a):FnOk P w K mg base CX0 1 a.cx a.li ["_law_script","_law_k"] (A2 K):=by
 refine T.iZ.ok wN (fun vs H Q E h=>?_) (fun cdv A outer s H vs Q E hr h=>?_)
 ·obtain ⟨a,ns,k,rfl,_⟩:=h;rfl
 ·obtain ⟨p,ns,k,rfl,hS,h0,q⟩:=h
  refine ⟨_,((ae (di (a7 KA (pv 1) (aD (bo (K:=K) rfl) (by rfl) T.jv PySem.boot_len (aa (pv 0) af)) (a8 _)) (ah (aE (aV (gN (K:=K) rfl) (pv 0) (pv 1) (fun _ _=>rfl)))) aU)
   (ah (aE (am cq (am ox ag (pv 1)) ag))))),aA (σ':=[some _,some _]) rfl ?_⟩
  walk_at "l2"
  rw [List.length_map]
  unfold cell at q
  refine ite2 (fun hc=>?_) (fun hc=>?_)
  ·have hc:=of_decide_eq_true hc
   have ha:atI (ns.map V.int) k=some (.int (ns.getD k.toNat 0)):=by
    obtain ⟨j,rfl⟩:=Int.eq_ofNat_of_zero_le h0
    have hj:j < ns.length:=by omega
    exact nZ (by rw [List.getElem?_map,List.getElem?_eq_getElem hj,List.getD_eq_getElem?_getD,Int.toNat_natCast,List.getElem?_eq_getElem hj];rfl)
   rw [if_pos hc] at q
   walk_at "l2"
   exact q
  ·have hc:¬ k < ns.length:=fun z=>hc (decide_eq_true z)
   rw [if_neg hc] at q
   walk_at "l2"
   exact q
theorem kS (T:Tx K mg a):FnOk P w K mg base CX0 1 a.c9 a.nP ["_law_cell_here","_law_k"] IR:=by
 refine T.kl.ok kM (fun vs H Q E h=>?_) (fun cdv A outer s H vs Q E hr h=>?_)
 ·obtain ⟨c,k,rfl,_⟩:=h;rfl
 ·obtain ⟨c,k,rfl,h0,h1,q⟩:=h
  refine ⟨_,((ae (ar (i:=2) kM.nd rfl (by walk_at "o") (am dJ (am cq (am cq (am ox (am dJ (pv 0) ag) ag) (am ox ag (pv 1))) ag) ag))
   (ae (ar (i:=2) kM.nd rfl (by walk_at "o") (am dJ (am ox (pv 2) (pv 2)) ag))
   (ah (aE (am dJ (am ox (pv 2) (am cq (am cq (pv 2) (am ox ag (pv 1))) ag)) ag)))))),aA (σ':=[some _,some _,none]) rfl ?_⟩
  walk_at "l2"
  show Q (.int _) H
  generalize hx:(_:Int) * (_ + 48271 * k + 7)=x
  have r1:0≤x % 2147483587:=Int.emod_nonneg _ (by decide)
  have r2:x % 2147483587 < 2147483587:=Int.emod_lt_of_pos _ (by decide)
  obtain ⟨j,hj⟩:=Int.eq_ofNat_of_zero_le r1
  rw [hj] at r2 ⊢
  exact q j (by omega)
local macro_rules | `(tactic| walk_at "l2step") =>`(tactic| first | ((with_reducible refine' Gk ?e ?a ?_);(case e=>walk_at "l2hp");(case a=>walk_at "l2side")) | ((with_reducible refine' M9 ?a ?b ?_);(case a=>walk_at "l2side");(case b=>walk_at "l2side");(with_reducible intro _ _)))
local macro_rules | `(tactic| walk_at "l2step") =>`(tactic| first | (with_reducible refine NA ?_))
theorem va (T:Tx K mg a):FnOk P w K mg base CX0 2 a.bU a.jG ["_law_cell_here","_law_start","_law_many","_law_width","_law_digits"] Et:=by
 have ck:=@kS P w K mg base a T
 refine T.gZ.ok dO (fun vs H Q E h=>?_) (fun cdv A outer s H vs Q E hr h=>?_)
 ·obtain ⟨c,st,n,wd,dg,rfl,_⟩:=h;rfl
 ·obtain ⟨c,st,n,wd,dg,rfl,hst,hn,hw,q⟩:=h
  have hnw:n * wd≤1024:=Nat.le_trans (Nat.mul_le_mul hn hw) (by decide)
  have hpow:(1:Int) * 2 ^ ((wd:Int).toNat)=((2 ^ wd:Nat):Int):=shl1 wd
  have hp0:=Nat.two_pow_pos wd
  have hp16:2 ^ wd≤2 ^ 16:=Nat.pow_le_pow_right (by decide) hw
  have ec:(n:Int) * (wd:Int) + 1=((n * wd + 1:Nat):Int):=by push_cast;rfl
  have hpow2:(1:Int) * 2 ^ (((n * wd + 1:Nat):Int).toNat)=((2 ^ (n * wd + 1):Nat):Int):=shl1 _
  have hp2:=Nat.two_pow_pos (n * wd + 1)
  refine ⟨_,((ae (ar (i:=5) dO.nd rfl (by walk_at "o") (ek af))
   (ae (ar (i:=6) dO.nd rfl (by walk_at "o") (am kR (am dJ (pv 0) (am fz ag (am cq (am ox (pv 2) (pv 3)) ag))) ag))
   (ae (eh PassesOwn.never rfl (dR (by rfl) T.iO (aa (pv 2) af)) (ak (i:=7) dO.nd rfl (by walk_at "o")) (ah (di (cz (pv 4)) (ae (dB (lM (K:=K) rfl PySem.F.plainAttrs_list PySem.F.slot_list_append PySem.F.type_list_append dW (pv 5) (aa (am dJ (pv 6) (am fz ag (pv 3))) af)))
   (ah (ar (i:=6) dO.nd rfl (by walk_at "o") (am kR (pv 6) (am fz ag (pv 3)))))) (ah (dB (lM (K:=K) rfl PySem.F.plainAttrs_list PySem.F.slot_list_append PySem.F.type_list_append dW (pv 5) (aa (am dJ (aj ck (hr.mono (by decide)) (by rfl) T.c5 T.c4 T.cj .nil az (aa (pv 0) (aa (am cq (pv 1) (pv 7)) af))) (am fz ag (pv 3))) af)))))))
   (ah (aE (pv 5))))))),aA (σ':=[some _,some _,some _,some _,some _,none,none,none]) rfl ?_⟩
  walk_at "l2"
  intro D H1 f1 s1 e1
  walk_at "l2"
  rw [ec]
  walk_at "l2"
  rw [hpow2]
  walk_at "l2"
  refine iA (fun i σ H'=>∃ (l:Int) (v:Option V) (ms:List Nat),σ=[some (.int c),some (nat st),some (nat n),some (nat wd),some (.bl dg),some (.ref D),some (.int l),v]∧Same H H'∧H' D=some (.lst (ms.map nat))∧ms.length=i∧∀ x∈ms,x < 2 ^ wd) ⟨_,none,[],rfl,s1,e1,rfl,fun _ h=>absurd h (by simp)⟩ ?_ ?_
  ·rintro i σ H' hi ⟨l,v,ms,rfl,s6,e6,el,hb⟩
   have hi':i < n:=by omega
   clear hpow2 hp2 ec
   cases dg with
   | true=>
     walk_at "l2"
     rw [hpow]
     obtain ⟨k,hk,hkl⟩:=pP (c:=l) (m:=((2 ^ wd:Nat):Int)) (by omega)
     walk_at "l2"
     rw [hk]
     refine gH e6 (by rw [List.length_map,sizeLine_eq];omega) fun H7 u7=>?_
     walk_at "l2"
     rw [hpow]
     walk_at "l2"
     refine ⟨_,_,ms++[k],rfl,fun b o e=>u7.oth _ _ (al e f1) (s6.get e),?_,by rw [List.length_append,el];rfl,fun x hx=>?_⟩
     ·rw [u7.at',List.map_append];rfl
     ·rcases List.mem_append.mp hx with h | h
      ·exact hb x h
      ·rw [List.mem_singleton.mp h];omega
   | false=>
     walk_at "l2"
     rename_i r hr'
     rw [hpow]
     obtain ⟨k,hk,hkl⟩:=pP (c:=(r:Int)) (m:=((2 ^ wd:Nat):Int)) (by omega)
     walk_at "l2"
     rw [hk]
     refine gH e6 (by rw [List.length_map,sizeLine_eq];omega) fun H7 u7=>?_
     walk_at "l2"
     refine ⟨_,_,ms++[k],rfl,fun b o e=>u7.oth _ _ (al e f1) (s6.get e),?_,by rw [List.length_append,el];rfl,fun x hx=>?_⟩
     ·rw [u7.at',List.map_append];rfl
     ·rcases List.mem_append.mp hx with h | h
      ·exact hb x h
      ·rw [List.mem_singleton.mp h];omega
  ·rintro σ H' ⟨l,v,ms,rfl,s6,e6,el,hb⟩
   walk_at "l2"
   exact q D H' ms f1 s6 e6 (by omega) hb
theorem qk (T:Tx K mg a):FnOk P w K mg base CX0 2 a.bh a.hZ ["_law_masks_here","_law_cell_here","_law_start","_law_way"] G2:=by
 have ck:=@kS P w K mg base a T
 refine T.fk.ok bH (fun vs H Q E h=>?_) (fun cdv A outer s H vs Q E hr h=>?_)
 ·obtain ⟨r,ms,c,st,wy,wd,rfl,_⟩:=h;rfl
 ·obtain ⟨r,ms,c,st,wy,wd,rfl,hp,hst,hw,hl,hb,q⟩:=h
  refine ⟨_,((ae (ar (i:=4) bH.nd rfl (by walk_at "o") (ek af))
   (ae (eh PassesOwn.never rfl (ni (K:=K) rfl (by rfl) T.cu (pv 0)) (ku rfl (aL (ak (i:=5) bH.nd rfl (by walk_at "o")) (aL (ak (i:=6) bH.nd rfl (by walk_at "o")) dS))) (jo (di (a7 oP (pv 3) ag (a8 _)) (ah (ar (i:=6) bH.nd rfl (by walk_at "o") (am dU (pv 6) (aj ck (hr.mono (by decide)) (by rfl) T.c5 T.c4 T.cj .nil az (aa (pv 1) (aa (am cq (pv 2) (pv 5)) af)))))) aU)
   (jo (di (PW.pt (EN (a7 oP (pv 3) ag (a8 _)) (zd (a7 uZ (pv 5) ag (a8 _))))) (ah (ar (i:=6) bH.nd rfl (by walk_at "o") (am fz ag (am ou (pv 5) ag)))) aU)
   (jo (di (a7 oP (pv 3) ag (a8 _)) (ah (ar (i:=6) bH.nd rfl (by walk_at "o") (am dU (pv 6) (aV (gN (K:=K) rfl) (ek (aa ag (aa ag af))) (am dJ (pv 5) ag) (fun _ _=>rfl))))) aU)
   (ah (dB (lM (K:=K) rfl PySem.F.plainAttrs_list PySem.F.slot_list_append PySem.F.type_list_append dW (pv 4) (aa (pv 6) af))))))))
   (ah (aE (pv 4)))))),aA (σ':=[some _,some _,some _,some _,none,none,none]) rfl ?_⟩
  walk_at "l2"
  intro D H1 f1 s1 e1
  walk_at "l2"
  refine pN (xs:=ms.map nat) (fun i σ H'=>∃ (v v':Option V) (ms2:List Nat),σ=[some (.ref r),some (.int c),some (nat st),some (nat wy),some (.ref D),v,v']∧Same H H'∧H' D=some (.lst (ms2.map nat))∧ms2.length=i∧∀ x∈ms2,x < 2 ^ wd) ⟨none,none,[],rfl,s1,e1,rfl,fun _ h=>absurd h (by simp)⟩ (fun i σ H' _ ⟨_,_,_,_,e,_⟩=>SqL.of (e.get hp)) ?_ ?_
  ·rintro i y σ H' p H7 hy ⟨v,v',ms2,rfl,s6,e6,el,hb2⟩ fp s7 e7
   obtain ⟨x,hx,rfl⟩:=aK hy
   have hi:=(List.getElem?_eq_some_iff.mp hx).1
   have hxb:=hb x (List.mem_of_getElem? hx)
   have eD7:=s7.get e6
   walk_at "l2"
   refine wO (fun σ H2=>H7=H2∧∃ x:Nat,x < 2 ^ wd∧σ=[some (.ref r),some (.int c),some (nat st),some (nat wy),some (.ref D),some (nat i),some (nat x)]) ?_ ?_
   ·walk_at "l2"
    refine iteB (fun hc=>?_) (fun hc=>?_)
    ·walk_at "l2"
     rw [aO]
     exact ⟨_,Nat.lt_of_le_of_lt Nat.and_le_left hxb,rfl⟩
    ·walk_at "l2"
     exact ⟨_,hxb,rfl⟩
   ·rintro σ H2 ⟨rfl,x2,hx2,rfl⟩
    walk_at "l2"
    refine wO (fun σ H2=>H7=H2∧∃ x:Nat,x < 2 ^ wd∧σ=[some (.ref r),some (.int c),some (nat st),some (nat wy),some (.ref D),some (nat i),some (nat x)]) ?_ ?_
    ·walk_at "l2"
     refine iteB (fun hc=>?_) (fun hc=>?_)
     ·walk_at "l2"
      refine iteB (fun hc2=>?_) (fun hc2=>?_)
      ·have hi0:0 < i:=by have:=of_decide_eq_true hc2;omega
       have e1:(i:Int) - 1=((i - 1:Nat):Int):=by omega
       walk_at "l2"
       rw [e1]
       walk_at "l2"
       rw [shl1]
       exact ⟨_,Nat.pow_lt_pow_right (by decide) (show i - 1 < wd by omega),rfl⟩
      ·walk_at "l2"
       exact ⟨_,hx2,rfl⟩
     ·walk_at "l2"
      exact ⟨_,hx2,rfl⟩
    ·rintro σ H2 ⟨rfl,x3,hx3,rfl⟩
     walk_at "l2"
     refine wO (fun σ H2=>Same H7 H2∧∃ x:Nat,x < 2 ^ wd∧σ=[some (.ref r),some (.int c),some (nat st),some (nat wy),some (.ref D),some (nat i),some (nat x)]) ?_ ?_
     ·walk_at "l2"
      refine iteB (fun hc=>?_) (fun hc=>?_)
      ·walk_at "l2"
       intro D8 H8 f8 s8 e8
       have key:∃ k:Nat,atI [V.int 43690,.int 21845] ((i:Int) % 2)=some (nat k):=by
        rcases Int.emod_two_eq (i:Int) with h | h<;>rw [h]
        ·exact ⟨43690,rfl⟩
        ·exact ⟨21845,rfl⟩
       obtain ⟨k,hk⟩:=key
       walk_at "l2"
       rw [aO]
       exact ⟨s8,_,Nat.lt_of_le_of_lt Nat.and_le_left hx3,rfl⟩
      ·walk_at "l2"
       exact ⟨Same.refl _,_,hx3,rfl⟩
     ·rintro σ H2 ⟨s8,x4,hx4,rfl⟩
      walk_at "l2"
      refine gH (s8.get eD7) (by rw [List.length_map,sizeLine_eq];omega) fun H9 u9=>?_
      walk_at "l2"
      refine ⟨_,_,ms2++[x4],rfl,fun b o e=>u9.oth _ _ (al e f1) (s8.get (s7.get (s6.get e))),?_,by rw [List.length_append,el];rfl,fun z hz=>?_⟩
      ·rw [u9.at',List.map_append];rfl
      ·rcases List.mem_append.mp hz with h | h
       ·exact hb2 z h
       ·rw [List.mem_singleton.mp h];exact hx4
  ·rintro σ H' ⟨v,v',ms2,rfl,s6,e6,el,hb2⟩
   rw [List.length_map] at el
   walk_at "l2"
   exact q D H' ms2 f1 s6 e6 el hb2
theorem ql (T:Tx K mg a):FnOk P w K mg base CX0 3 a.bi a.h7 ["_law_script","_law_start","_law_most"] (G4 K):=by
 have cX:=@xc P w K mg base a T
 have ck:=@kS P w K mg base a T
 have gT:=@va P w K mg base a T
 have tJ:=@qk P w K mg base a T
 refine T.fm.ok ao (fun vs H Q E h=>?_) (fun cdv A outer s H vs Q E hr h=>?_)
 ·obtain ⟨p,ns,st,mo,rfl,_⟩:=h;rfl
 ·obtain ⟨p,ns,st,mo,rfl,hS,hst,hmo,q⟩:=h
  refine ⟨_,((ae (ar (i:=3) ao.nd rfl (by walk_at "o") (aj cX (hr.mono (by decide)) (by rfl) T.cV T.cU T.b9 .nil az (aa (pv 0) (aa (pv 1) af))))
   (ae (ar (i:=4) ao.nd rfl (by walk_at "o") (am dJ (am kR (pv 3) ag) (am cq (pv 2) ag)))
   (jo (di (a7 oP (am dJ (am kR (pv 3) ag) ag) ag (a8 _)) (ah (ar (i:=4) ao.nd rfl (by walk_at "o") (am dJ (am kR (pv 3) ag) ag))) aU)
   (ae (ar (i:=5) ao.nd rfl (by walk_at "o") (am dJ (aj ck (hr.mono (by decide)) (by rfl) T.c5 T.c4 T.cj .nil az (aa (pv 3) (aa ag af))) ag))
   (ae (ar (i:=6) ao.nd rfl (by walk_at "o") (am dJ (aj ck (hr.mono (by decide)) (by rfl) T.c5 T.c4 T.cj .nil az (aa (pv 3) (aa ag af))) ag))
   (jo (di (a7 oP (am dJ (am kR (pv 3) ag) ag) ag (a8 _)) (ae (ar (i:=5) ao.nd rfl (by walk_at "o") (am dJ (aj ck (hr.mono (by decide)) (by rfl) T.c5 T.c4 T.cj .nil az (aa (pv 3) (aa ag af))) ag))
   (ah (ar (i:=6) ao.nd rfl (by walk_at "o") (am dJ (aj ck (hr.mono (by decide)) (by rfl) T.c5 T.c4 T.cj .nil az (aa (pv 3) (aa ag af))) ag)))) aU)
   (ae (ar (i:=7) ao.nd rfl (by walk_at "o") (g6 oP (am dJ (pv 3) ag) ag (a8 _)))
   (ae (ar (i:=8) ao.nd rfl (by walk_at "o") (am dJ (aj ck (hr.mono (by decide)) (by rfl) T.c5 T.c4 T.cj .nil az (aa (pv 3) (aa ag af))) ag))
   (ae (ar (i:=9) ao.nd rfl (by walk_at "o") (aj gT (hr.mono (by decide)) (by rfl) T.gO T.gM T.dL .nil az (aa (aj cX (hr.mono (by decide)) (by rfl) T.cV T.cU T.b9 .nil az (aa (pv 0) (aa (am cq (pv 1) ag) af))) (aa ag (aa (pv 4) (aa (pv 4) (aa (pv 7) af)))))))
   (ae (ar (i:=10) ao.nd rfl (by walk_at "o") (aj gT (hr.mono (by decide)) (by rfl) T.gO T.gM T.dL .nil az (aa (aj cX (hr.mono (by decide)) (by rfl) T.cV T.cU T.b9 .nil az (aa (pv 0) (aa (am cq (pv 1) ag) af))) (aa ag (aa (pv 4) (aa (pv 5) (aa (pv 7) af)))))))
   (jo (di (cR (cz (pv 7))) (ae (ar (i:=9) ao.nd rfl (by walk_at "o") (aj tJ (hr.mono (by decide)) (by rfl) T.sX T.sV T.ib .nil az (aa (pv 9) (aa (aj cX (hr.mono (by decide)) (by rfl) T.cV T.cU T.b9 .nil az (aa (pv 0) (aa (am cq (pv 1) ag) af))) (aa ag (aa (pv 8) af))))))
   (ah (di (a7 uZ (pv 8) ag (a8 _)) (ah (gi (osc:=ad bg) (ON:=["_law_script","_law_start","_law_most","_law_cell_here","_law_stores","_law_inputs","_law_outputs","_law_digits","_law_way","_law_one","_law_other","_law_shown","_law_straight"]) (N:=["_law_k","_law_mask","_law_script","_law_start"]) (n:=2) (fx:=[0,1]) (i:=10) ao.nd rfl rfl rfl rfl rfl rfl (by decide +kernel) (ni (K:=K) rfl (by rfl) T.cu (pv 10)) (xN (fh (aW (by decide)) (fh (aW (by decide)) rf))) (fun _ _ _ _ _=>⟨(qe (K:=K) (n:=2) rfl rfl (aL (ak (i:=0) (show List.Nodup (["_law_k","_law_mask","_law_script","_law_start"]:List Str) from by decide +kernel) rfl (by walk_at "o")) (aL (ak (i:=1) (show List.Nodup (["_law_k","_law_mask","_law_script","_law_start"]:List Str) from by decide +kernel) rfl (by walk_at "o")) dS))),bL,(am dU (pv 1) (aj ck (hr.mono (by decide)) (by rfl) T.c5 T.c4 T.cj .nil az (aa (aj cX (hr.mono (by decide)) (by rfl) T.cV T.cU T.b9 .nil az (aa (pv 2) (aa (am cq (pv 3) ag) af))) (aa (am cq ag (pv 0)) af))))⟩))) aU))) aU)
   (ae (ar (i:=11) ao.nd rfl (by walk_at "o") (aj gT (hr.mono (by decide)) (by rfl) T.gO T.gM T.dL .nil az (aa (aj cX (hr.mono (by decide)) (by rfl) T.cV T.cU T.b9 .nil az (aa (pv 0) (aa (am cq (pv 1) ag) af))) (aa ag (aa (pv 6) (aa (pv 4) (aa (pv 7) af)))))))
   (ae (ar (i:=12) ao.nd rfl (by walk_at "o") (aj gT (hr.mono (by decide)) (by rfl) T.gO T.gM T.dL .nil az (aa (aj cX (hr.mono (by decide)) (by rfl) T.cV T.cU T.b9 .nil az (aa (pv 0) (aa (am cq (pv 1) ag) af))) (aa ag (aa (pv 6) (aa (pv 5) (aa (pv 7) af)))))))
   (jo (di (PW.pt (EN (cR (cz (pv 7))) (zd (a7 uZ (pv 8) ag (a8 _))))) (ah (gi (osc:=ad bg) (ON:=["_law_script","_law_start","_law_most","_law_cell_here","_law_stores","_law_inputs","_law_outputs","_law_digits","_law_way","_law_one","_law_other","_law_shown","_law_straight"]) (N:=["_law_k","_law_mask","_law_script","_law_start"]) (n:=2) (fx:=[0,1]) (i:=11) ao.nd rfl rfl rfl rfl rfl rfl (by decide +kernel) (ni (K:=K) rfl (by rfl) T.cu (pv 11)) (xN (fh (aW (by decide)) (fh (aW (by decide)) rf))) (fun _ _ _ _ _=>⟨(qe (K:=K) (n:=2) rfl rfl (aL (ak (i:=0) (show List.Nodup (["_law_k","_law_mask","_law_script","_law_start"]:List Str) from by decide +kernel) rfl (by walk_at "o")) (aL (ak (i:=1) (show List.Nodup (["_law_k","_law_mask","_law_script","_law_start"]:List Str) from by decide +kernel) rfl (by walk_at "o")) dS))),bL,(am dU (pv 1) (aj ck (hr.mono (by decide)) (by rfl) T.c5 T.c4 T.cj .nil az (aa (aj cX (hr.mono (by decide)) (by rfl) T.cV T.cU T.b9 .nil az (aa (pv 2) (aa (am cq (pv 3) ag) af))) (aa (am cq ag (pv 0)) af))))⟩))) aU)
   (jo (di (PW.pt (EN (cR (cz (pv 7))) (zd (a7 uZ (pv 8) ag (a8 _))))) (ah (gi (osc:=ad bg) (ON:=["_law_script","_law_start","_law_most","_law_cell_here","_law_stores","_law_inputs","_law_outputs","_law_digits","_law_way","_law_one","_law_other","_law_shown","_law_straight"]) (N:=["_law_mask"]) (n:=1) (fx:=[]) (i:=12) ao.nd rfl rfl rfl rfl rfl rfl (by decide +kernel) (aZ (K:=K) rfl (pv 12)) (aW (by decide)) (fun _ _ _ _ _=>⟨(ak (i:=0) (show List.Nodup (["_law_mask"]:List Str) from by decide +kernel) rfl (by walk_at "o")),bL,ag⟩))) aU)
   (ah (aE (jp (aa (pv 5) (aa (tU (K:=K) rfl rfl (by rfl) (by rfl) T.ix T.ML (pv 9) (pv 10)) (aa (tU (K:=K) rfl rfl (by rfl) (by rfl) T.ix T.ML (pv 11) (pv 12)) af)))))))))))))))))))))),aA (σ':=[some _,some _,some _,none,none,none,none,none,none,none,none,none,none]) rfl ?_⟩
  walk_at "l2"
  obtain ⟨S0,eS,lS⟩:=pP (c:=cell ns (st:Int) / 2) (m:=(mo:Int) + 1) (by omega)
  rw [eS]
  generalize cell ns (st:Int)=c
  refine wO (fun σ H2=>H=H2∧∃ S:Nat,S≤16∧σ=[some (.ref p),some (nat st),some (nat mo),some (.int c),some (nat S),none,none,none,none,none,none,none,none]) ?_ ?_
  ·walk_at "l2"
   refine iteB (fun hc=>?_) (fun hc=>?_)
   ·walk_at "l2"
    obtain ⟨k,hk,hkl⟩:=pP (c:=c / 512) (m:=17) (by decide)
    rw [hk]
    exact ⟨_,by omega,rfl⟩
   ·walk_at "l2"
    exact ⟨_,by omega,rfl⟩
  ·rintro σ H2 ⟨rfl,S,hS16,rfl⟩
   clear eS lS
   walk_at "l2"
   rename_i r1 h1 r2 h2
   have ei:(r1:Int) % 4=((r1 % 4:Nat):Int):=by omega
   have eo:(r2:Int) % 4=((r2 % 4:Nat):Int):=by omega
   rw [ei,eo]
   refine wO (fun σ H2=>H=H2∧∃ I O:Nat,(I≤6∧O≤6)∧σ=[some (.ref p),some (nat st),some (nat mo),some (.int c),some (nat S),some (nat I),some (nat O),none,none,none,none,none,none]) ?_ ?_
   ·walk_at "l2"
    refine iteB (fun hc=>?_) (fun hc=>?_)
    ·walk_at "l2"
     rename_i r3 h3 r4 h4
     have ei:(r3:Int) % 7=((r3 % 7:Nat):Int):=by omega
     have eo:(r4:Int) % 7=((r4 % 7:Nat):Int):=by omega
     rw [ei,eo]
     exact ⟨_,_,⟨by omega,by omega⟩,rfl⟩
    ·walk_at "l2"
     exact ⟨_,_,⟨by omega,by omega⟩,rfl⟩
   ·rintro σ H2 ⟨rfl,I,O,⟨hI,hO⟩,rfl⟩
    clear ei eo h1 h2
    walk_at "l2"
    rename_i r5 h5
    have ew:(r5:Int) % 5=((r5 % 5:Nat):Int):=by omega
    rw [ew]
    generalize hwy:r5 % 5=wy
    have hwy5:wy < 5:=by omega
    generalize hdg:decide (V.int (c % 2)=V.int 0)=dg
    clear ew hwy hdg h5
    refine ⟨_,100,S,S,dg,rfl,by decide,by omega,hS16,fun D1 H1 ms1 f1 s1 e1 l1 b1=>?_⟩
    have hS1:=Same.seq s1 hS
    walk_at "l2"
    refine ⟨_,140,S,I,dg,rfl,by decide,by omega,by omega,fun D2 H2 ms2 f2 s2 e2 l2 b2=>?_⟩
    have hS2:=Same.seq s2 hS1
    have e1':=s2.get e1
    walk_at "l2"
    refine wO (fun σ H3=>∃ (D1 D2:Addr) (ms1 ms2:List Nat),σ=[some (.ref p),some (nat st),some (nat mo),some (.int c),some (nat S),some (nat I),some (nat O),some (.bl dg),some (nat wy),some (.ref D1),some (.ref D2),none,none]∧Same H H3∧H3 D1=some (.lst (ms1.map nat))∧H3 D2=some (.lst (ms2.map nat))∧ms1.length=S∧ms2.length=S∧(∀ x∈ms1,x < 2 ^ S)∧∀ x∈ms2,x < 2 ^ I) ?_ ?_
    ·walk_at "l2"
     cases dg with
     | true=>
       walk_at "l2"
       exact ⟨D1,D2,ms1,ms2,rfl,s1.trans s2,e1',e2,l1,l2,b1,b2⟩
     | false=>
       walk_at "l2"
       refine ⟨D1,ms1,_,180,wy,S,rfl,e1',by decide,hS16,by omega,b1,fun D3 H3 ms3 f3 s3 e3 l3 b3=>?_⟩
       have e23:=s3.get e2
       have hS3:=Same.seq s3 hS2
       walk_at "l2"
       refine iteB (fun hc=>?_) (fun hc=>?_)
       ·walk_at "l2"
        intro D hD
        refine ka (xs:=ms2.map nat) (fun i ys H'=>Cs (fun i ys=>∃ qs:List Nat,ys=qs.map nat∧qs.length=i∧∀ x∈qs,x < 2 ^ I) H3 D i ys H') (Cs.zero hD ⟨[],rfl,rfl,fun _ h=>absurd h (by simp)⟩) (fun i ys H' _ c=>SqL.of (c.same.get e23)) (fun i v ys H' p' H7 hv c' fp s7 e7=>?_) (fun ys H' c'=>?_)
        ·obtain ⟨x,hx,rfl⟩:=aK hv
         obtain ⟨qs,eqs,lqs,bqs⟩:=c'.pv
         have hi:=(List.getElem?_eq_some_iff.mp hx).1
         have hS7:=Same.seq s7 (Same.seq c'.same hS3)
         walk_at "l2"
         rw [aO]
         refine Cs.put hD (c'.same.trans s7) (s7.get c'.at') c'.len (by omega) ⟨qs++[_],by rw [eqs,List.map_append];rfl,by rw [List.length_append,lqs];rfl,fun z hz=>?_⟩
         rcases List.mem_append.mp hz with h | h
         ·exact bqs z h
         ·rw [List.mem_singleton.mp h];exact Nat.lt_of_le_of_lt Nat.and_le_left (b2 x (List.mem_of_getElem? hx))
        ·obtain ⟨qs,eqs,lqs,bqs⟩:=c'.pv
         rw [List.length_map] at lqs
         have ec:=c'.at'
         rw [eqs] at ec
         exact ⟨D3,D,ms3,qs,rfl,s1.trans (s2.trans (s3.trans c'.same)),c'.same.get e3,ec,by omega,by omega,b3,bqs⟩
       ·walk_at "l2"
        exact ⟨D3,D2,ms3,ms2,rfl,s1.trans (s2.trans s3),e3,e23,by omega,l2,b3,b2⟩
    ·rintro σ H3 ⟨D1,D2,ms1,ms2,rfl,s3,e1,e2,l1,l2,b1,b2⟩
     have hS3:=Same.seq s3 hS
     walk_at "l2"
     refine ⟨_,260,O,S,dg,rfl,by decide,by omega,hS16,fun D4 H4 ms4 f4 s4 e4 l4 b4=>?_⟩
     have hS4:=Same.seq s4 hS3
     walk_at "l2"
     refine ⟨_,280,O,I,dg,rfl,by decide,by omega,by omega,fun D5 H5 ms5 f5 s5 e5 l5 b5=>?_⟩
     have hS5:=Same.seq s5 hS4
     have e45:=s5.get e4
     walk_at "l2"
     refine wO (fun σ H6=>∃ (D4:Addr) (ms4:List Nat),σ=[some (.ref p),some (nat st),some (nat mo),some (.int c),some (nat S),some (nat I),some (nat O),some (.bl dg),some (nat wy),some (.ref D1),some (.ref D2),some (.ref D4),some (.ref D5)]∧Same H5 H6∧H6 D4=some (.lst (ms4.map nat))∧ms4.length=O∧∀ x∈ms4,x < 2 ^ S) ?_ ?_
     ·walk_at "l2"
      refine iteB (fun hc=>?_) (fun hc=>?_)
      ·walk_at "l2"
       refine iteB (fun hc=>?_) (fun hc=>?_)
       ·walk_at "l2"
        intro D hD
        refine ka (xs:=ms4.map nat) (fun i ys H'=>Cs (fun i ys=>∃ qs:List Nat,ys=qs.map nat∧qs.length=i∧∀ x∈qs,x < 2 ^ S) H5 D i ys H') (Cs.zero hD ⟨[],rfl,rfl,fun _ h=>absurd h (by simp)⟩) (fun i ys H' _ c=>SqL.of (c.same.get e45)) (fun i v ys H' p' H7 hv c' fp s7 e7=>?_) (fun ys H' c'=>?_)
        ·obtain ⟨x,hx,rfl⟩:=aK hv
         obtain ⟨qs,eqs,lqs,bqs⟩:=c'.pv
         have hi:=(List.getElem?_eq_some_iff.mp hx).1
         have hS7:=Same.seq s7 (Same.seq c'.same hS5)
         walk_at "l2"
         rw [aO]
         refine Cs.put hD (c'.same.trans s7) (s7.get c'.at') c'.len (by omega) ⟨qs++[_],by rw [eqs,List.map_append];rfl,by rw [List.length_append,lqs];rfl,fun z hz=>?_⟩
         rcases List.mem_append.mp hz with h | h
         ·exact bqs z h
         ·rw [List.mem_singleton.mp h];exact Nat.lt_of_le_of_lt Nat.and_le_left (b4 x (List.mem_of_getElem? hx))
        ·obtain ⟨qs,eqs,lqs,bqs⟩:=c'.pv
         rw [List.length_map] at lqs
         have ec:=c'.at'
         rw [eqs] at ec
         exact ⟨D,qs,rfl,c'.same,ec,by omega,bqs⟩
       ·walk_at "l2"
        exact ⟨D4,ms4,rfl,Same.refl _,e45,l4,b4⟩
      ·walk_at "l2"
       exact ⟨D4,ms4,rfl,Same.refl _,e45,l4,b4⟩
     ·rintro σ H6 ⟨D4,ms4,rfl,s6,e4,l4,b4⟩
      have e56:=s6.get e5
      have e16:=s6.get (s5.get (s4.get e1))
      have e26:=s6.get (s5.get (s4.get e2))
      have s06:=s3.trans (s4.trans (s5.trans s6))
      clear hS1 hS2 hS3 hS4 hS5 e45
      walk_at "l2"
      refine wO (fun σ H7=>∃ (D5:Addr) (ms5:List Nat),σ=[some (.ref p),some (nat st),some (nat mo),some (.int c),some (nat S),some (nat I),some (nat O),some (.bl dg),some (nat wy),some (.ref D1),some (.ref D2),some (.ref D4),some (.ref D5)]∧Same H6 H7∧H7 D5=some (.lst (ms5.map nat))∧ms5.length=O∧∀ x∈ms5,x < 2 ^ I) ?_ ?_
      ·walk_at "l2"
       refine iteB (fun hc=>?_) (fun hc=>?_)
       ·walk_at "l2"
        refine iteB (fun hc=>?_) (fun hc=>?_)
        ·walk_at "l2"
         intro D hD
         refine bw (xs:=ms5.map nat) (fun i ys H'=>Cs (fun i ys=>ys=(List.replicate i 0).map nat) H6 D i ys H') (Cs.zero hD rfl) (fun i ys H' _ c=>SqL.of (c.same.get e56)) (fun i v ys H' hv c'=>?_) (fun ys H' c'=>?_)
         ·have hi:=(List.getElem?_eq_some_iff.mp hv).1
          rw [List.length_map] at hi
          walk_at "l2"
          refine Cs.put hD c'.same c'.at' c'.len (by omega) ?_
          rw [c'.pv,List.replicate_succ',List.map_append];rfl
         ·have ec:=c'.at'
          rw [c'.pv,List.length_map] at ec
          refine ⟨D,List.replicate ms5.length 0,rfl,c'.same,ec,by rw [List.length_replicate];exact l5,fun x hx=>?_⟩
          rw [List.eq_of_mem_replicate hx];exact Nat.two_pow_pos _
        ·walk_at "l2"
         exact ⟨D5,ms5,rfl,Same.refl _,e56,l5,b5⟩
       ·walk_at "l2"
        exact ⟨D5,ms5,rfl,Same.refl _,e56,l5,b5⟩
      ·rintro σ H7 ⟨D5,ms5,rfl,s7,e5,l5,b5⟩
       walk_at "l2"
       refine ⟨D1,D2,ms1.map nat,ms2.map nat,rfl,rfl,SqL.of (s7.get e16),SqL.of (s7.get e26),by rw [List.length_map,List.length_map];omega,fun Dn pn H8 f8 s8 e8 lp8 t8=>?_⟩
       obtain ⟨nx,rn,ptn,lnx,mn⟩:=Eb (by omega) lp8 t8
       rw [← rn] at e8
       walk_at "l2"
       refine ⟨D4,D5,ms4.map nat,ms5.map nat,rfl,rfl,SqL.of (s8.get (s7.get e4)),SqL.of (s8.get e5),by rw [List.length_map,List.length_map];omega,fun Do po H9 f9 s9 e9 lp9 t9=>?_⟩
       obtain ⟨os,ro,pto,los,mo'⟩:=Eb (by omega) lp9 t9
       rw [← ro] at e9
       walk_at "l2"
       intro t H10 f10 s10 e10
       have s07:=s06.trans s7
       refine q t Dn Do H10 I nx os (s07.trans (s8.trans (s9.trans s10))) (mj s07 f8) (mj (s07.trans s8) f9) ⟨e10,hI,s10.get (s9.get e8),s10.get e9,(ptn.same s9).same s10,pto.same s10,by omega,by omega,fun pr hpr=>?_⟩ (by omega)
       rw [lnx,l1]
       rcases List.mem_append.mp hpr with h | h
       ·exact ⟨b1 _ (mn pr h).1,b2 _ (mn pr h).2⟩
       ·exact ⟨b4 _ (mo' pr h).1,b5 _ (mo' pr h).2⟩
end
section
variable {P:Program} {w:World} {K:PySem.W.Frag} {mg:Str→Option Value} {base:Heap} {a:Ad}
theorem zw (T:Tx K mg a):FnOk P w K mg base CX0 1 a.c8 a.nO ["_law_number"] JV:=by
 refine T.kj.ok kL (fun vs H Q E h=>?_) (fun cdv A outer s H vs Q E hr h=>?_)
 ·obtain ⟨n,rfl,_⟩:=h;rfl
 ·obtain ⟨n,rfl,hn,q⟩:=h
  refine ⟨_,((ae (eh PassesOwn.never rfl (aZ (K:=K) rfl (ek (aa ag (aa ag (aa ag (aa ag (aa ag (aa ag (aa ag af))))))))) (ak (i:=1) kL.nd rfl (by walk_at "o")) (ah (ar (i:=0) kL.nd rfl (by walk_at "o") (am kB (pv 0) (am xa (pv 0) (pv 1))))))
   (ah (aE (am dU (pv 0) ag))))),aA (σ':=[some _,none]) rfl ?_⟩
  walk_at "l2"
  intro D H1 f1 s1 e1
  walk_at "l2"
  refine gP (xs:=([64,32,16,8,4,2,1]:List Nat).map nat) (fun i σ H'=>∃ (m:Nat) (v:Option V),σ=[some (nat m),v]∧H'=H1∧M.pb (2 ^ (7 - i)) m=M.od n) ⟨n,none,rfl,rfl,?_⟩ (fun i σ H' _ ⟨_,_,_,e,_⟩=>by rw [e];exact SqL.of e1) ?_ ?_
  ·exact (M.pb_up hn (show 128≤1000 by decide)).symm
  ·rintro i y σ H' hy ⟨m,v,rfl,rfl,hm⟩
   obtain ⟨k,hk,rfl⟩:=aK hy
   obtain ⟨hi,hk2⟩:=EA hk
   have hdouble:2 ^ (7 - i)=k + k:=by rw [hk2,show 7 - i=(6 - i) + 1 by omega,Nat.pow_succ];omega
   rw [hdouble,← M.pb_half2] at hm
   have hk3:2 ^ (7 - (i + 1))=k:=by rw [hk2,show 7 - (i + 1)=6 - i by omega]
   rw [← hk3] at hm
   clear hdouble hk2 hk
   walk_at "l2"
   rw [uF,cJ]
   rw [hk3] at hm
   exact ⟨_,_,rfl,rfl,by rw [hk3];exact hm⟩
  ·rintro σ H' ⟨m,v,rfl,rfl,hm⟩
   have hm:M.pb 1 m=M.od n:=hm
   walk_at "l2"
   rw [show (1:Int)=((1:Nat):Int) from rfl,aO,M.pb_one,hm]
   exact q _ s1
theorem jr (T:Tx K mg a):FnOk P w K mg base CX0 2 a.cv a.lg ["_law_tables","_law_state","_law_row"] G1:=by
 have kd:=@zw P w K mg base a T
 refine T.iX.ok bj (fun vs H Q E h=>?_) (fun cdv A outer s H vs Q E hr h=>?_)
 ·obtain ⟨t,n,o,m,nx,os,x,r,rfl,_⟩:=h;rfl
 ·obtain ⟨t,n,o,m,nx,os,x,r,rfl,tt,hx,hr',q⟩:=h
  have e0:=tt.t
  have en:=tt.tab.n
  have eo:=tt.tab.o
  have ln:=tt.tab.ln
  have lo:=tt.tab.lo
  refine ⟨_,((ae (ar (i:=3) bj.nd rfl (by walk_at "o") ag)
   (ae (ar (i:=4) bj.nd rfl (by walk_at "o") ag)
   (ae (eh PassesOwn.never rfl (ni (K:=K) rfl (by rfl) T.cu (aV (aq (K:=K) rfl) (pv 0) ag (fun _ _=>rfl))) (ku rfl (aL (ak (i:=5) bj.nd rfl (by walk_at "o")) (aL (ku rfl (aL (ak (i:=6) bj.nd rfl (by walk_at "o")) (aL (ak (i:=7) bj.nd rfl (by walk_at "o")) dS))) dS))) (ah (ar (i:=3) bj.nd rfl (by walk_at "o") (am cq (pv 3) (am fz (am dJ (am cq (aj kd (hr.mono (by decide)) (by rfl) T.j8 T.j6 T.ge .nil az (aa (am dU (pv 6) (pv 1)) af)) (aj kd (hr.mono (by decide)) (by rfl) T.j8 T.j6 T.ge .nil az (aa (am dU (pv 7) (pv 2)) af))) ag) (pv 5))))))
   (ae (eh PassesOwn.never rfl (ni (K:=K) rfl (by rfl) T.cu (aV (aq (K:=K) rfl) (pv 0) ag (fun _ _=>rfl))) (ku rfl (aL (ak (i:=5) bj.nd rfl (by walk_at "o")) (aL (ku rfl (aL (ak (i:=6) bj.nd rfl (by walk_at "o")) (aL (ak (i:=7) bj.nd rfl (by walk_at "o")) dS))) dS))) (ah (ar (i:=4) bj.nd rfl (by walk_at "o") (am cq (pv 4) (am fz (am dJ (am cq (aj kd (hr.mono (by decide)) (by rfl) T.j8 T.j6 T.ge .nil az (aa (am dU (pv 6) (pv 1)) af)) (aj kd (hr.mono (by decide)) (by rfl) T.j8 T.j6 T.ge .nil az (aa (am dU (pv 7) (pv 2)) af))) ag) (pv 5))))))
   (ah (aE (jp (aa (pv 3) (aa (pv 4) af)))))))))),aA (σ':=[some _,some _,some _,none,none,none,none,none]) rfl ?_⟩
  walk_at "l2"
  refine pN (xs:=refs os) (fun i σ H'=>∃ v1 v2 v3,σ=[some (.ref t),some (nat x),some (nat r),some (nat (M.tr2 (prs (os.take i)) x r)),some (.int 0),v1,v2,v3]∧Same H H') ⟨none,none,none,rfl,Same.refl _⟩ (fun i σ H' _ ⟨_,_,_,_,e⟩=>SqL.of (e.get eo)) ?_ ?_
  ·rintro i y σ H' p H7 hy ⟨v1,v2,v3,rfl,s6⟩ fp s7 e7
   obtain ⟨pr,hpr,rfl⟩:=aK hy
   have hi:=(List.getElem?_eq_some_iff.mp hpr).1
   have ht:=s7.get (s6.get (tt.tab.po pr (List.mem_of_getElem? hpr)))
   walk_at "l2"
   rw [aO]
   refine ⟨pr.2.1&&&x,rfl,Nat.lt_of_le_of_lt Nat.and_le_right hx,fun H8 s8=>?_⟩
   walk_at "l2"
   rw [aO]
   refine ⟨pr.2.2&&&r,rfl,Nat.lt_of_le_of_lt Nat.and_le_right hr',fun H9 s9=>?_⟩
   walk_at "l2"
   rw [Jy,Jx,← Int.natCast_add,← wG x r hpr]
   exact ⟨_,_,_,rfl,s6.trans (s7.trans (s8.trans s9))⟩
  ·rintro σ H' ⟨v1,v2,v3,rfl,s6⟩
   rw [dQ,List.take_length]
   have e06:=s6.get e0
   have en6:=s6.get en
   walk_at "l2"
   refine pN (xs:=refs nx) (fun i σ H'=>∃ v1 v2 v3,σ=[some (.ref t),some (nat x),some (nat r),some (nat (M.tr2 (prs os) x r)),some (nat (M.tr2 (prs (nx.take i)) x r)),v1,v2,v3]∧Same H H') ⟨_,_,_,rfl,s6⟩ (fun i σ H' _ ⟨_,_,_,_,e⟩=>SqL.of (e.get en)) ?_ ?_
   ·rintro i y σ H' p H7 hy ⟨v1,v2,v3,rfl,s6⟩ fp s7 e7
    obtain ⟨pr,hpr,rfl⟩:=aK hy
    have hi:=(List.getElem?_eq_some_iff.mp hpr).1
    have ht:=s7.get (s6.get (tt.tab.pn pr (List.mem_of_getElem? hpr)))
    walk_at "l2"
    rw [aO]
    refine ⟨pr.2.1&&&x,rfl,Nat.lt_of_le_of_lt Nat.and_le_right hx,fun H8 s8=>?_⟩
    walk_at "l2"
    rw [aO]
    refine ⟨pr.2.2&&&r,rfl,Nat.lt_of_le_of_lt Nat.and_le_right hr',fun H9 s9=>?_⟩
    walk_at "l2"
    rw [Jy,Jx,← Int.natCast_add,← wG x r hpr]
    exact ⟨_,_,_,rfl,s6.trans (s7.trans (s8.trans s9))⟩
   ·rintro σ H' ⟨v1,v2,v3,rfl,s6⟩
    rw [dQ,List.take_length]
    walk_at "l2"
    intro t2 H7 f7 s7 e7
    exact q t2 H7 (s6.trans s7) e7
theorem sv (T:Tx K mg a):FnOk P w K mg base CX0 3 a.bD a.iS ["_law_tables","_law_which","_law_turns"] BN:=by
 have gF:=@jr P w K mg base a T
 refine T.fU.ok cC (fun vs H Q E h=>?_) (fun cdv A outer s H vs Q E hr h=>?_)
 ·obtain ⟨t,n,o,m,nx,os,j,T',rfl,_⟩:=h;rfl
 ·obtain ⟨t,n,o,m,nx,os,j,T',rfl,tt,hj,hT,q⟩:=h
  have ln:=tt.tab.ln
  refine ⟨_,((ae (ar (i:=3) cC.nd rfl (by walk_at "o") (ek af))
   (ae (ar (i:=4) cC.nd rfl (by walk_at "o") ag)
   (ae (eh PassesOwn.never rfl (dR (by rfl) T.iO (aa (pv 2) af)) (ak (i:=5) cC.nd rfl (by walk_at "o")) (ae (EO (aj gF (hr.mono (by decide)) (by rfl) T.k9 T.k8 T.gC .nil az (aa (pv 0) (aa (pv 4) (aa (aV (gN (K:=K) rfl) (ek (aa ag (aa (am fz ag (pv 1)) af))) (dn yh (by rfl) T.HJ PyProof.Rows.boot_int (aa (g6 oP (pv 5) ag (a8 _)) af)) (fun _ _=>rfl)) af)))) (ku rfl (aL (ak (i:=6) cC.nd rfl (by walk_at "o")) (aL (ak (i:=4) cC.nd rfl (by walk_at "o")) dS))))
   (ah (dB (lM (K:=K) rfl PySem.F.plainAttrs_list PySem.F.slot_list_append PySem.F.type_list_append dW (pv 3) (aa (pv 6) af))))))
   (ah (aE (pv 3))))))),aA (σ':=[some _,some _,some _,none,none,none,none]) rfl ?_⟩
  walk_at "l2"
  intro D H1 f1 s1 e1
  walk_at "l2"
  refine iA (fun i σ H'=>∃ v v',σ=[some (.ref t),some (nat j),some (nat T'),some (.ref D),some (nat (M.wst (prs nx) 0 (M.pulse j i))),v,v']∧Same H H'∧H' D=some (.lst ((M.wan (prs nx) (prs os) 0 (M.pulse j i)).map nat))) ⟨none,none,rfl,s1,e1⟩ ?_ ?_
  ·rintro i σ H' hi ⟨v,v',rfl,s6,e6⟩
   have hw:M.wst (prs nx) 0 (M.pulse j i) < 2 ^ nx.length:=by have:=M.wst_lt (ps:=prs nx) (rs:=M.pulse j i) (x:=0) (Nat.two_pow_pos _);rwa [aG] at this
   walk_at "l2"
   rw [shl1]
   intro D2 H2 f2 s2 e2
   have hat:atI [V.int 0,nat (2 ^ j)] (if decide (V.int (0 + (i:Int))=V.int 0)=true then 1 else 0)=some (nat (if i=0 then 2 ^ j else 0)):=by
    cases i with
    | zero=>rfl
    | succ i=>
      rw [decide_eq_false (fun z=>by have:=V.int.inj z;omega),if_neg Bool.false_ne_true,if_neg (by omega)];rfl
   walk_at "l2"
   refine ⟨t,n,o,m,nx,os,_,_,rfl,(tt.same s6).same s2,lK hw (by omega),?_,fun t2 H3 s3 e3=>?_⟩
   ·split
    ·exact Nat.pow_lt_pow_right (by decide) (by omega)
    ·exact Nat.two_pow_pos _
   ·walk_at "l2"
    refine gH (s3.get (s2.get e6)) (by rw [List.length_map,M.wan_len,M.pulse_len,sizeLine_eq];omega) fun H4 u4=>?_
    walk_at "l2"
    rw [M.pulse_snoc,M.wst_snoc,M.wan_snoc,List.map_append]
    exact ⟨_,_,rfl,fun b ob e=>u4.oth _ _ (al e f1) (s3.get (s2.get (s6.get e))),u4.at'⟩
  ·rintro σ H' ⟨v,v',rfl,s6,e6⟩
   rw [Int.toNat_natCast] at e6
   walk_at "l2"
   exact q D H' f1 s6 e6
end
section
variable {P:Program} {w:World} {K:PySem.W.Frag} {mg:Str→Option Value} {base:Heap} {a:Ad}
local macro_rules | `(tactic| walk_at "l2step") =>`(tactic| first | ((with_reducible refine' lv ?e ?_);(case e=>walk_at "l2kind")) | ((with_reducible refine' rS ?e ?_);(case e=>walk_at "l2kind")) | (with_reducible refine j0 ?_) | (with_reducible refine m8 ?_))
theorem xb (T:Tx K mg a):FnOk P w K mg base CX0 1 a.cw a.lh ["_law_rows"] JW:=by
 refine T.iY.ok fw (fun vs H Q E h=>?_) (fun cdv A outer s H vs Q E hr h=>?_)
 ·obtain ⟨D,l,rfl,_⟩:=h;rfl
 ·obtain ⟨D,l,rfl,hD,inj,hl0,q⟩:=h
  have hu0:=FF hr
  refine ⟨_,((ae (ar (i:=1) fw.nd rfl (by walk_at "o") (dn (gc (K:=K) rfl) (by rfl) T.ix PyProof.Rows.boot_list (aa (pv 0) af)))
   (ae (uK PassesOwn.never (a7 (zq (K:=K) rfl hu0) (pv 1) (ek af) (a8 _)) (ae (ar (i:=2) fw.nd rfl (by walk_at "o") (g7 (K:=K) rfl PySem.F.plainAttrs_list PySem.F.slot_list_pop PySem.F.type_list_pop MM (pv 1)))
   (ae (di (a7 oP (pv 2) ag (a8 _)) (ah (aE kn)) aU)
   (ae (ar (i:=3) fw.nd rfl (by walk_at "o") (am dU (pv 2) (am ou ag (pv 2))))
   (ah (gi (osc:=ad dA) (ON:=["_law_rows","_law_left","_law_row","_law_low"]) (N:=["_law_one","_law_row","_law_low"]) (n:=1) (fx:=[2,3]) (i:=1) fw.nd rfl rfl rfl rfl rfl rfl (by decide +kernel) (aZ (K:=K) rfl (pv 1)) (aW (by decide)) (fun _ _ _ _ _=>⟨(ak (i:=0) (show List.Nodup (["_law_one","_law_row","_law_low"]:List Str) from by decide +kernel) rfl (by walk_at "o")),bL,(aV (gN (K:=K) rfl) (ek (aa (pv 0) (aa (am kB (pv 0) (pv 1)) af))) (dn yh (by rfl) T.HJ PyProof.Rows.boot_int (aa (g6 uZ (am dU (pv 0) (pv 2)) ag (a8 _)) af)) (fun _ _=>rfl))⟩)))))))
   (ah (aE kn))))),aA (σ':=[some _,none,none,none]) rfl ?_⟩
  walk_at "l2"
  intro L H1 f1 s1 e1
  walk_at "l2"
  refine ⟨fun μ σ' H'=>∃ L l v1 v2,σ'=[some (.ref D),some (.ref L),v1,v2]∧H' L=some (.lst (l.map nat))∧H L=none∧Same H H'∧M.Inj l∧l.length=μ∧μ≤1000,⟨l.length,L,l,none,none,rfl,e1,f1,s1,inj,rfl,hl0⟩,?_⟩
  rintro μ σ' H' ⟨L,l,v1,v2,rfl,eL,fL,s',inj,rfl,hl1⟩
  walk_at "l2"
  intro Z H2 f2 s2 e2
  refine Kh (SqL.of (s2.get eL)) (SqL.of e2) ?_
  walk_at "l2"
  rcases List.eq_nil_or_concat l with rfl | ⟨l,x,rfl⟩
  ·walk_at "l2"
   exact q H2 (s'.trans s2)
  ·refine Kb (by simp) ?_
   rw [List.concat_eq_append] at *
   refine ⟨fun σ3 H3=>∃ L l' v1 v2,σ3=[some (.ref D),some (.ref L),v1,v2]∧H3 L=some (.lst (l'.map nat))∧H L=none∧Same H H3∧M.Inj l'∧l'.length < (l++[x]).length,fun σ3 H3 ⟨L,l,v1,v2,h1,h2,h3,h4,h5,h6⟩=>⟨_,h6,L,l,v1,v2,h1,h2,h3,h4,h5,rfl,by omega⟩,?_⟩
   have eL2:=s2.get eL
   have hx0:x≠0:=inj.nz (by simp)
   rw [List.map_append] at eL2
   have eL2:H2 L=some (.lst (l.map nat++[nat x])):=eL2
   rw [List.length_append,List.length_singleton] at hl1
   walk_at "l2"
   refine LV eL2 fun H3 u3=>?_
   have s3:Same H H3:=fun b o e=>u3.oth _ _ (al e fL) (s2.get (s'.get e))
   have e3:=u3.at'
   walk_at "l2"
   refine BZ (decide_eq_false fun z=>hx0 (by have:=V.int.inj z;omega)) ?_
   walk_at "l2"
   generalize Builtin.bitAnd (x:Int) (0 - (x:Int))=low
   intro B hB
   refine bw (xs:=l.map nat) (fun i ys H'=>Cs (fun i ys=>ys=((l.take i).map fun (y:Nat)=>if decide (0 < Builtin.bitAnd (y:Int) low)=true then y^^^x else y).map nat) H3 B i ys H') (Cs.zero hB rfl) (fun i ys H' _ c=>SqL.of (c.same.get e3)) (fun i v ys H4 hv c=>?_) (fun ys H4 c=>?_)
   ·obtain ⟨k,hk,rfl⟩:=aK hv
    have hi:=(List.getElem?_eq_some_iff.mp hk).1
    walk_at "l2"
    rw [cJ]
    intro t5 H5 f5 s5 e5
    have hat:atI [nat k,nat (k^^^x)] (if decide (0 < Builtin.bitAnd (k:Int) low)=true then 1 else 0)=some (nat (if decide (0 < Builtin.bitAnd (k:Int) low)=true then k^^^x else k)):=by
     by_cases hd:decide (0 < Builtin.bitAnd (k:Int) low)=true
     ·rw [if_pos hd,if_pos hd];rfl
     ·rw [if_neg hd,if_neg hd];rfl
    walk_at "l2"
    refine Cs.put hB (c.same.trans s5) (s5.get c.at') c.len (by omega) ?_
    rw [c.pv,take_succ hk,List.map_append,List.map_append];rfl
   ·have e4:=c.at'
    rw [c.pv,List.length_map,List.take_length] at e4
    have inj':=M.Inj.elim (a:=l) (b:=[]) inj fun (y:Nat)=>decide (0 < Builtin.bitAnd (y:Int) low)
    rw [List.append_nil] at inj'
    walk_at "l2"
    exact ⟨B,_,_,_,rfl,e4,s3.free hB,s3.trans c.same,inj',by rw [List.length_map,List.length_append];simp⟩
theorem lR (T:Tx K mg a):FnOk P w K mg base CX0 1 a.bR a.jE ["_law_thing","_law_most"] Er:=by
 refine T.gX.ok uH (fun vs H Q E h=>?_) (fun cdv A outer s H vs Q E hr h=>?_)
 ·obtain ⟨x,b,rfl,_⟩:=h;rfl
 ·obtain ⟨x,b,rfl,q⟩:=h
  refine ⟨_,((ah (aE (oa (aD (cB (K:=K) rfl) (by rfl) T.ba PyProof.Rows.boot_isinstance (aa (pv 0) (aa (fJ (v:= .ty "int") (by rfl) T.HJ PyProof.Rows.boot_int rfl) af))) (oa (Jb (aD (cB (K:=K) rfl) (by rfl) T.ba PyProof.Rows.boot_isinstance (aa (pv 0) (aa (fJ (v:= .ty "bool") (by rfl) T.Jg PyProof.Rows.boot_bool rfl) af)))) (wV (Hr MF KA ag (pv 0) (pv 1)))))))),aA (σ':=[some _,some _]) rfl ?_⟩
  walk_at "l2"
  rw [show decide ((x:Int) < (b:Int))=decide (x < b) from decide_eq_decide.mpr (by omega)]
  exact q
theorem zy (T:Tx K mg a):FnOk P w K mg base CX0 3 a.db a.nQ ["_law_tables","_law_rows"] Ew:=by
 have gF:=@jr P w K mg base a T
 refine T.km.ok iM (fun vs H Q E h=>?_) (fun cdv A outer s H vs Q E hr h=>?_)
 ·obtain ⟨t,n,o,rr,m,nx,os,rs,rfl,_⟩:=h;rfl
 ·obtain ⟨t,n,o,rr,m,nx,os,rs,rfl,tt,hrr,hb,q⟩:=h
  have ln:=tt.tab.ln
  have m6:=tt.tab.m6
  refine ⟨_,((ae (ar (i:=2) iM.nd rfl (by walk_at "o") ag)
   (ae (eh PassesOwn.never rfl (aZ (K:=K) rfl (pv 1)) (ak (i:=3) iM.nd rfl (by walk_at "o")) (ah (ar (i:=2) iM.nd rfl (by walk_at "o") (aV (aq (K:=K) rfl) (aj gF (hr.mono (by decide)) (by rfl) T.k9 T.k8 T.gC .nil az (aa (pv 0) (aa (pv 2) (aa (pv 3) af)))) ag (fun _ _=>rfl)))))
   (ah (aE (pv 2)))))),aA (σ':=[some _,some _,none,none]) rfl ?_⟩
  walk_at "l2"
  refine gP (xs:=rs.map nat) (fun i σ H'=>∃ v,σ=[some (.ref t),some (.ref rr),some (nat (M.wst (prs nx) 0 (rs.take i))),v]∧Same H H') ⟨none,rfl,Same.refl _⟩ (fun i σ H' _ ⟨_,_,s'⟩=>SqL.of (s'.get hrr)) ?_ ?_
  ·rintro i y σ H' hy ⟨v,rfl,s6⟩
   obtain ⟨r,hr',rfl⟩:=aK hy
   have hi:=(List.getElem?_eq_some_iff.mp hr').1
   have hw:M.wst (prs nx) 0 (rs.take i) < 2 ^ nx.length:=by have:=M.wst_lt (ps:=prs nx) (rs:=rs.take i) (x:=0) (Nat.two_pow_pos _);rwa [aG] at this
   walk_at "l2"
   refine ⟨t,n,o,m,nx,os,_,r,rfl,tt.same s6,lK hw (by omega),lK (hb r (List.mem_of_getElem? hr')) (by omega),fun t2 H3 s3 e3=>?_⟩
   walk_at "l2"
   rw [take_succ hr',M.wst_snoc]
   exact ⟨_,rfl,s6.trans s3⟩
  ·rintro σ H' ⟨v,rfl,s6⟩
   rw [List.length_map,List.take_length]
   walk_at "l2"
   exact q H' s6
theorem sw (T:Tx K mg a):FnOk P w K mg base CX0 3 a.bE a.iT ["_law_tables","_law_state","_law_looks_here"] G5:=by
 have gF:=@jr P w K mg base a T
 refine T.fV.ok dm (fun vs H Q E h=>?_) (fun cdv A outer s H vs Q E hr h=>?_)
 ·obtain ⟨t,n,o,Dl,m,x,nx,os,es,ks,rfl,_⟩:=h;rfl
 ·obtain ⟨t,n,o,Dl,m,x,nx,os,es,ks,rfl,tt,hx,l60,hDl,le,lk,he,hk,q⟩:=h
  have ln:=tt.tab.ln
  have lo:=tt.tab.lo
  have hat:∀ (j:Nat) (e:Addr),es[j]? =some e→∃ k,ks[j]? =some k∧k < nx.length * os.length∧H e=some (.tup [nat (k / os.length),nat (k % os.length)]):=fun j e h=>by
   have hj:=(List.getElem?_eq_some_iff.mp h).1
   have hk2:=List.getElem?_eq_getElem (l:=ks) (i:=j) (by omega)
   exact ⟨_,hk2,hk _ (List.getElem_mem _),he j e _ h hk2⟩
  refine ⟨_,((ae (ar (i:=3) dm.nd rfl (by walk_at "o") (ek af))
   (ae (eh PassesOwn.never rfl (dR (by rfl) T.iO (aa (aD (Gd rfl) (by rfl) T.N1 PyProof.Rows.boot_max (aa (am E3 (ek (aa ag af)) (dC (osc:=ad bO) (ON:=["_law_tables","_law_state","_law_looks_here","_law_answers","_law_turn_here","_law_answer"]) (N:=["_law_look"]) (n:=1) (fx:=[]) rfl rfl rfl (by decide +kernel) (aZ (K:=K) rfl (pv 2)) (aW (by decide)) (fun _ _ _ _ _=>⟨(ak (i:=0) (show List.Nodup (["_law_look"]:List Str) from by decide +kernel) rfl (by walk_at "o")),bL,(am cq (aV (aq (K:=K) rfl) (pv 0) ag (fun _ _=>rfl)) ag)⟩))) af)) af)) (ak (i:=4) dm.nd rfl (by walk_at "o")) (ae (EO (aj gF (hr.mono (by decide)) (by rfl) T.k9 T.k8 T.gC .nil az (aa (pv 0) (aa (pv 1) (aa ag af)))) (ku rfl (aL (ak (i:=5) dm.nd rfl (by walk_at "o")) (aL (ak (i:=1) dm.nd rfl (by walk_at "o")) dS))))
   (ah (dB (lM (K:=K) rfl PySem.F.plainAttrs_list PySem.F.slot_list_append PySem.F.type_list_append dW (pv 3) (aa (pv 5) af))))))
   (ah (aE (aD (Gc rfl) (by rfl) T.N0 PyProof.Rows.boot_sum (aa (dC (osc:=ad bO) (ON:=["_law_tables","_law_state","_law_looks_here","_law_answers","_law_turn_here","_law_answer"]) (N:=["_law_k","_law_look","_law_answers"]) (n:=2) (fx:=[3]) rfl rfl rfl (by decide +kernel) (uT (K:=K) rfl (by rfl) T.cu (pv 2)) (xN (fh (aW (by decide)) (fh (aW (by decide)) rf))) (fun _ _ _ _ _=>⟨(qe (K:=K) (n:=2) rfl rfl (aL (ak (i:=0) (show List.Nodup (["_law_k","_law_look","_law_answers"]:List Str) from by decide +kernel) rfl (by walk_at "o")) (aL (ak (i:=1) (show List.Nodup (["_law_k","_law_look","_law_answers"]:List Str) from by decide +kernel) rfl (by walk_at "o")) dS))),bL,(am fz (am dU (am xa (aV (gN (K:=K) rfl) (pv 2) (aV (aq (K:=K) rfl) (pv 1) ag (fun _ _=>rfl)) (fun _ _=>rfl)) (aV (aq (K:=K) rfl) (pv 1) ag (fun _ _=>rfl))) ag) (pv 0))⟩)) af))))))),aA (σ':=[some _,some _,some _,none,none,none]) rfl ?_⟩
  walk_at "l2"
  intro D1 H1 f1 s1 e1
  walk_at "l2"
  intro Z H2 f2 s2 e2
  have s02:=s1.trans s2
  have hDl2:=s02.get hDl
  walk_at "l2"
  intro D3 hD3
  refine bw (xs:=es.map V.ref) (fun i ys H'=>Cs (fun i ys=>ys=((ks.take i).map fun k=>k / os.length + 1).map nat) H2 D3 i ys H') (Cs.zero hD3 rfl) (fun i ys H' _ c=>SqL.of (c.same.get hDl2)) (fun i v ys H3 hv c=>?_) (fun ys H3 c=>?_)
  ·obtain ⟨e,he',rfl⟩:=aK hv
   obtain ⟨k,hk',hkl,hke⟩:=hat i e he'
   have hi:=(List.getElem?_eq_some_iff.mp hk').1
   have hke3:=(s02.trans c.same).get hke
   walk_at "l2"
   refine Cs.put hD3 c.same c.at' c.len (by omega) ?_
   rw [c.pv,take_succ hk',List.map_append,List.map_append];rfl
  ·have e3:=c.at'
   rw [c.pv,List.length_map,le,List.take_length] at e3
   have s23:=c.same
   have s03:=s02.trans s23
   clear c
   have e23:=s23.get e2
   walk_at "l2"
   refine Kk e23 e3 (by rw [List.length_map,List.length_map];exact Nat.le_of_lt (dk (by show 1 + ks.length≤1000;omega))) fun D4 H4 f4 s4 e4=>?_
   have e4:H4 D4=some (.lst ((0::ks.map fun k=>k / os.length + 1).map nat)):=e4
   have s04:=s03.trans s4
   walk_at "l2"
   refine L1 e4 (by simp) fun mx hmx hmax=>?_
   have hall:∀ k∈ks,k / os.length < mx:=fun k hk'=>by have:=hmax (k / os.length + 1) (List.mem_cons_of_mem _ (List.mem_map.mpr ⟨k,hk',rfl⟩));omega
   have hmx2:mx≤60:=by
    rcases List.mem_cons.mp hmx with h | h
    ·omega
    ·obtain ⟨k,hk',rfl⟩:=List.mem_map.mp h
     have h1:=hk k hk'
     have:k / os.length < nx.length:=Nat.div_lt_of_lt_mul (by rw [Nat.mul_comm];exact h1)
     omega
   clear hmax hmx
   walk_at "l2"
   rw [Int.toNat_natCast]
   refine iA (fun i σ H'=>∃ v v',σ=[some (.ref t),some (nat (M.zs (prs nx) x i)),some (.ref Dl),some (.ref D1),v,v']∧Same H H'∧H' D1=some (.lst (((List.range i).map fun k=>M.tr2 (prs os) (M.zs (prs nx) x k) 0).map nat))) ⟨none,none,rfl,s04,s4.get (s23.get (s2.get e1))⟩ ?_ ?_
   ·rintro i σ H' hi ⟨v,v',rfl,s6,e6⟩
    have hw:M.zs (prs nx) x i < 2 ^ nx.length:=by have:=M.zs_lt (ps:=prs nx) (d:=x) (by rw [aG];exact hx) i;rwa [aG] at this
    walk_at "l2"
    refine ⟨t,n,o,m,nx,os,_,0,rfl,tt.same s6,lK hw (by omega),Nat.two_pow_pos _,fun t2 H5 s5 e5=>?_⟩
    walk_at "l2"
    refine gH (s5.get e6) (by rw [List.length_map,List.length_map,List.length_range];exact dk (by omega)) fun H7 u7=>?_
    walk_at "l2"
    refine ⟨_,_,rfl,fun b ob e=>u7.oth _ _ (al e f1) (s5.get (s6.get e)),?_⟩
    rw [u7.at',List.range_succ,List.map_append,List.map_append];rfl
   ·rintro σ H' ⟨v,v',rfl,s6,e6⟩
    have hDl6:=s6.get hDl
    walk_at "l2"
    refine .inl ⟨⟨_,SqL.of hDl6⟩,?_⟩
    intro D8 hD8
    obtain ⟨L,eL⟩:∃ L,L=ks.map fun i=>(M.msk (prs nx) (prs os)).getD i 0:=⟨_,rfl⟩
    refine ka (xs:=es.map V.ref) (fun i ys H2=>Cs (fun i ys=>ys=((List.range i).map fun k=>(M.bn (M.od (x&&&L.getD k 0))) <<< k).map nat) H' D8 i ys H2) (Cs.zero hD8 rfl) (fun i ys H2 _ c=>Same.seq c.same (SqL.of hDl6)) (fun i v ys H5 pp H7 hv c fp s7 e7=>?_) (fun ys H5 c=>?_)
    ·obtain ⟨e,he',rfl⟩:=aK hv
     obtain ⟨k,hk',hkl,hke⟩:=hat i e he'
     have hi:=(List.getElem?_eq_some_iff.mp hk').1
     have s67:=c.same.trans s7
     have hke3:=s67.get (s6.get hke)
     have e67:=s67.get e6
     have hmem:=List.mem_of_getElem? hk'
     have hop:0 < os.length:=Nat.pos_of_ne_zero fun z=>by rw [z,Nat.mul_zero] at hkl;omega
     have hdm:=Nat.div_add_mod k os.length
     have hlt:=Nat.mod_lt k hop
     have hdn:k / os.length < nx.length:=Nat.div_lt_of_lt_mul (by rw [Nat.mul_comm];exact hkl)
     have g1:atI (((List.range mx).map fun k=>M.tr2 (prs os) (M.zs (prs nx) x k) 0).map nat) ((k / os.length:Nat):Int)=some (nat (M.tr2 (prs os) (M.zs (prs nx) x (k / os.length)) 0)):=nZ (by rw [List.getElem?_map,List.getElem?_map,List.getElem?_range (hall k hmem)];rfl)
     have hb:M.od (x&&&L.getD i 0)=(M.tr2 (prs os) (M.zs (prs nx) x (k / os.length)) 0).testBit (k % os.length):=by
      rw [eL,List.getD_eq_getElem?_getD,List.getElem?_map,hk']
      exact M.msk_bit (by rw [aG];omega) (by rw [aG];exact hlt) (by rw [aG];exact hdn) (by rw [aG,Nat.mul_comm];exact hdm.symm)
     walk_at "l2"
     refine s_rI (Gp _ _ (by omega)) ?_
     rw [La,← hb]
     refine Cs.put hD8 s67 (s7.get c.at') c.len (by omega) ?_
     rw [c.pv,List.range_succ,List.map_append,List.map_append];rfl
    ·have e5:=c.at'
     rw [c.pv,List.length_map] at e5
     walk_at "l2"
     refine LT e5 ?_
     rw [Ja,le]
     have:=q H5 (s6.trans c.same)
     rw [← eL] at this
     unfold M.ow at this
     rw [show L.length=ks.length by rw [eL,List.length_map]] at this
     exact this
end
section
variable {P:Program} {w:World} {K:PySem.W.Frag} {mg:Str→Option Value} {base:Heap} {a:Ad}
local macro_rules | `(tactic| walk_at "l2step") =>`(tactic| first | ((with_reducible refine' lv ?e ?_);(case e=>walk_at "l2kind")) | ((with_reducible refine' rS ?e ?_);(case e=>walk_at "l2kind")) | (with_reducible refine j0 ?_) | (with_reducible refine m8 ?_))
theorem vc (T:Tx K mg a):FnOk P w K mg base CX0 2 a.bW a.jI ["_law_rows","_law_tables","_law_many"] Ev:=by
 have gS:=@lR P w K mg base a T
 refine T.g5.ok lH (fun vs H Q E h=>?_) (fun cdv A outer s H vs Q E hr h=>?_)
 ·obtain ⟨Dr,t,n,o,m,nx,os,ds,f,rfl,_⟩:=h;rfl
 ·obtain ⟨Dr,t,n,o,m,nx,os,ds,f,rfl,tt,hDr,hd,q⟩:=h
  have hu0:=FF hr
  have htt:=tt.t
  have htn:=tt.tab.n
  have m6:=tt.tab.m6
  refine ⟨_,((ae (di (PW.pt (m9 (cR (cz (aD (cB (K:=K) rfl) (by rfl) T.ba PyProof.Rows.boot_isinstance (aa (pv 0) (aa (fJ (v:= .ty "list") (by rfl) T.ix PyProof.Rows.boot_list rfl) af))))) (i3 (a7 uY (aD (bo (K:=K) rfl) (by rfl) T.jv PySem.boot_len (aa (pv 0) af)) (pv 2) (a8 _))))) (ah (aE kn)) aU)
   (ae (eh PassesOwn.never rfl (aZ (K:=K) rfl (pv 0)) (ak (i:=3) lH.nd rfl (by walk_at "o")) (ae (di (PW.pt (m9 (cR (cz (aD (cB (K:=K) rfl) (by rfl) T.ba PyProof.Rows.boot_isinstance (aa (pv 3) (aa (fJ (v:= .ty "list") (by rfl) T.ix PyProof.Rows.boot_list rfl) af))))) (i3 (a7 uY (aD (bo (K:=K) rfl) (by rfl) T.jv PySem.boot_len (aa (pv 3) af)) (aD (bo (K:=K) rfl) (by rfl) T.jv PySem.boot_len (aa (aV (aq (K:=K) rfl) (pv 1) ag (fun _ _=>rfl)) af)) (a8 _))))) (ah (aE kn)) aU)
   (ah (di (a7 (zq (K:=K) rfl hu0) (dC (osc:=ad cQ) (ON:=["_law_rows","_law_tables","_law_many","_law_one"]) (N:=["_law_row","_law_tables"]) (n:=1) (fx:=[1]) rfl rfl rfl (by decide +kernel) (aZ (K:=K) rfl (pv 3)) (aW (by decide)) (fun _ _ _ _ _=>⟨(ak (i:=0) (show List.Nodup (["_law_row","_law_tables"]:List Str) from by decide +kernel) rfl (by walk_at "o")),(uJ (cR (cz (aj gS (hr.mono (by decide)) (by rfl) T.jB T.jz T.fH .nil az (aa (pv 0) (aa (am fz ag (aV (aq (K:=K) rfl) (pv 1) ag (fun _ _=>rfl))) af)))))),(pv 0)⟩)) (ek af) (a8 _)) (ah (aE kn)) aU))))
   (ah (aE kn))))),aA (σ':=[some _,some _,some _,none]) rfl ?_⟩
  walk_at "l2"
  rw [if_neg (by rw [List.length_map];simp)]
  walk_at "l2"
  refine gP (xs:=ds.map V.ref) (fun i σ H'=>∃ v,σ=[some (.ref Dr),some (.ref t),some (nat ds.length),v]∧Same H H') ⟨none,rfl,Same.refl _⟩ (fun i σ H' _ ⟨_,_,s'⟩=>SqL.of (s'.get hDr)) ?_ ?_
  ·rintro i y σ H' hy ⟨v,rfl,s6⟩
   obtain ⟨d,hd',rfl⟩:=aK hy
   obtain ⟨ed,ld,bd⟩:=hd i d hd'
   have ed6:=s6.get ed
   have htt6:=s6.get htt
   have htn6:=s6.get htn
   walk_at "l2"
   rw [if_neg (by rw [List.length_map,ld,dQ];simp)]
   walk_at "l2"
   intro D1 hD1
   refine bw (xs:=(f i).map nat) (fun j ys H2=>Cs (fun j ys=>ys=[]) H' D1 j ys H2) (Cs.zero hD1 rfl) (fun j ys H2 _ c=>SqL.of (c.same.get ed6)) (fun j v ys H2 hv c=>?_) (fun ys H2 c=>?_)
   ·obtain ⟨r,hr',rfl⟩:=aK hv
    have hj:=(List.getElem?_eq_some_iff.mp hr').1
    have htt7:=c.same.get htt6
    have hlt:=bd r (List.mem_of_getElem? hr')
    walk_at "l2"
    rw [shl1]
    refine ⟨r,2 ^ m,rfl,?_⟩
    rw [decide_eq_true hlt]
    refine ⟨true,rfl,?_⟩
    rw [if_neg (by decide)]
    exact Cs.skip c.same c.at' c.len c.pv
   ·have e2:=c.at'
    rw [c.pv] at e2
    have s2:=c.same
    clear c
    walk_at "l2"
    intro Z H3 f3 s3 e3
    refine IV (ns:=[]) (SqL.of (s3.get e2)) (SqL.of e3) ?_
    walk_at "l2"
    exact s6.trans (s2.trans s3)
  ·rintro σ H' ⟨v,rfl,s6⟩
   walk_at "l2"
   exact q H' s6
theorem vb (T:Tx K mg a):FnOk P w K mg base CX0 2 a.bV a.jH ["_law_looks_here","_law_tables","_law_many"] Eu:=by
 have gS:=@lR P w K mg base a T
 refine T.g0.ok lG (fun vs H Q E h=>?_) (fun cdv A outer s H vs Q E hr h=>?_)
 ·obtain ⟨Dl,t,n,o,m,nx,os,es,f,rfl,_⟩:=h;rfl
 ·obtain ⟨Dl,t,n,o,m,nx,os,es,f,rfl,tt,hDl,he,q⟩:=h
  have htt:=tt.t
  have hto:=tt.tab.o
  refine ⟨_,((ae (di (PW.pt (m9 (cR (cz (aD (cB (K:=K) rfl) (by rfl) T.ba PyProof.Rows.boot_isinstance (aa (pv 0) (aa (fJ (v:= .ty "list") (by rfl) T.ix PyProof.Rows.boot_list rfl) af))))) (i3 (a7 uY (aD (bo (K:=K) rfl) (by rfl) T.jv PySem.boot_len (aa (pv 0) af)) (pv 2) (a8 _))))) (ah (aE kn)) aU)
   (ae (eh PassesOwn.never rfl (aZ (K:=K) rfl (pv 0)) (ak (i:=3) lG.nd rfl (by walk_at "o")) (ae (di (PW.pt (m9 (cR (cz (aD (cB (K:=K) rfl) (by rfl) T.ba PyProof.Rows.boot_isinstance (aa (pv 3) (aa (fJ (v:= .ty "tuple") (by rfl) T.qG PyProof.Rows.boot_tuple rfl) af))))) (i3 (a7 uY (aD (bo (K:=K) rfl) (by rfl) T.jv PySem.boot_len (aa (pv 3) af)) ag (a8 _))))) (ah (aE kn)) aU)
   (ah (di (PW.pt (m9 (cR (cz (aj gS (hr.mono (by decide)) (by rfl) T.jB T.jz T.fH .nil az (aa (aV (aq (K:=K) rfl) (pv 3) ag (fun _ _=>rfl)) (aa ag af))))) (i3 (cR (cz (aj gS (hr.mono (by decide)) (by rfl) T.jB T.jz T.fH .nil az (aa (aV (aq (K:=K) rfl) (pv 3) ag (fun _ _=>rfl)) (aa (aD (bo (K:=K) rfl) (by rfl) T.jv PySem.boot_len (aa (aV (aq (K:=K) rfl) (pv 1) ag (fun _ _=>rfl)) af)) af)))))))) (ah (aE kn)) aU))))
   (ah (aE kn))))),aA (σ':=[some _,some _,some _,none]) rfl ?_⟩
  walk_at "l2"
  rw [if_neg (by rw [List.length_map];simp)]
  walk_at "l2"
  refine gP (xs:=es.map V.ref) (fun i σ H'=>∃ v,σ=[some (.ref Dl),some (.ref t),some (nat es.length),v]∧Same H H') ⟨none,rfl,Same.refl _⟩ (fun i σ H' _ ⟨_,_,s'⟩=>SqL.of (s'.get hDl)) ?_ ?_
  ·rintro i y σ H' hy ⟨v,rfl,s6⟩
   obtain ⟨d,hd',rfl⟩:=aK hy
   obtain ⟨ed,b1,b2⟩:=he i d hd'
   have ed6:=s6.get ed
   have htt6:=s6.get htt
   have hto6:=s6.get hto
   walk_at "l2"
   refine ⟨(f i).1,121,rfl,?_⟩
   rw [decide_eq_true b1]
   refine ⟨true,rfl,?_⟩
   rw [if_neg (by decide)]
   walk_at "l2"
   refine ⟨(f i).2,(refs os).length,rfl,?_⟩
   rw [dQ,decide_eq_true b2]
   refine ⟨true,rfl,?_⟩
   rw [if_neg (by decide)]
   walk_at "l2"
   exact s6
  ·rintro σ H' ⟨v,rfl,s6⟩
   walk_at "l2"
   exact q H' s6
theorem u8 (T:Tx K mg a):FnOk P w K mg base CX0 4 a.bT a.jF ["_law_tables","_law_told"] (Es a.ai):=by
 have yK:=@vc P w K mg base a T
 have yJ:=@vb P w K mg base a T
 have AQ:=@xb P w K mg base a T
 have wA:=@sw P w K mg base a T
 have DT:=@zy P w K mg base a T
 have bb:=@c3 P w K mg base a T
 refine T.gY.ok dN (fun vs H Q E h=>?_) (fun cdv A outer s H vs Q E hr h=>?_)
 ·obtain ⟨t,n,o,u,x,Dr,Dl,m,nx,os,nx2,os2,ds,es,rfl,_⟩:=h;rfl
 ·obtain ⟨t,n,o,u,x,Dr,Dl,m,nx,os,nx2,os2,ds,es,rfl,tt,l60,hu,ma,ln2,lr,q⟩:=h
  obtain ⟨dx,tn,to,ho,_,_⟩:=ma.ho
  have hn2:nx2.length=ds.length:=by rw [ln2,lr.dl,M.many_eq]
  have hn3:nx2.length=es.length:=by rw [ln2,lr.el]
  have lo:=tt.tab.lo
  have m6:=tt.tab.m6
  have many60:(M.lkp (prs nx) (prs os) m).length≤60:=by have:=M.many_le (ps:=prs nx) (os:=prs os) (m:=m);rw [aG] at this;omega
  have hk:∀ k∈M.lkp (prs nx) (prs os) m,k < nx.length * os.length:=fun k hk=>by
   have:=M.lkp_lt k hk
   unfold M.msk at this
   rw [M.lkm_len,aG,List.length_map,aG] at this
   exact this
  have hl:∀ k∈M.ldp (prs nx) (prs os) m,k < nx.length * m:=fun k hk=>by
   have:=M.ldp_lt k hk
   rw [M.rch_len,aG] at this
   exact this
  have gl:∀ (l:List Nat) (j k:Nat),l[j]? =some k→l.getD j 0=k:=fun l j k h=>by rw [List.getD_eq_getElem?_getD,h];rfl
  have hDr:=lr.r
  refine ⟨_,((ae (di (PW.pt (m9 (cR (cz (aD (cB (K:=K) rfl) (by rfl) T.ba PyProof.Rows.boot_isinstance (aa (pv 1) (aa (fJ (v:= .ty "tuple") (by rfl) T.qG PyProof.Rows.boot_tuple rfl) af))))) (i3 (a7 uY (aD (bo (K:=K) rfl) (by rfl) T.jv PySem.boot_len (aa (pv 1) af)) ag (a8 _))))) (ah (aE kn)) aU)
   (ae (EO (pv 1) (ku rfl (aL (ak (i:=2) dN.nd rfl (by walk_at "o")) (aL (ak (i:=3) dN.nd rfl (by walk_at "o")) (aL (ak (i:=4) dN.nd rfl (by walk_at "o")) dS)))))
   (ae (ar (i:=5) dN.nd rfl (by walk_at "o") (fg (pv 2) T.au T.cA bb (hr.mono (by decide)) T.bv .nil az))
   (ae (di (PW.pt (m9 (cR (cz (aj yK (hr.mono (by decide)) (by rfl) T.xS T.xK T.jS .nil az (aa (pv 3) (aa (pv 0) (aa (pv 5) af)))))) (i3 (cR (cz (aj yJ (hr.mono (by decide)) (by rfl) T.xR T.xJ T.jR .nil az (aa (pv 4) (aa (pv 0) (aa (pv 5) af))))))))) (ah (aE kn)) aU)
   (ah (aE (aj AQ (hr.mono (by decide)) (by rfl) T.Aa T.z7 T.lw .nil az (aa (dC (osc:=ad cP) (ON:=["_law_tables","_law_told","_law_other","_law_rows","_law_looks_here","_law_many"]) (N:=["_law_one","_law_tables","_law_looks_here"]) (n:=1) (fx:=[0,4]) rfl rfl rfl (by decide +kernel) (aZ (K:=K) rfl (pv 3)) (aW (by decide)) (fun _ _ _ _ _=>⟨(ak (i:=0) (show List.Nodup (["_law_one","_law_tables","_law_looks_here"]:List Str) from by decide +kernel) rfl (by walk_at "o")),bL,(aj wA (hr.mono (by decide)) (by rfl) T.vK T.vI T.iV .nil az (aa (pv 1) (aa (aj DT (hr.mono (by decide)) (by rfl) T.CP T.CL T.nY .nil az (aa (pv 1) (aa (pv 0) af))) (aa (pv 2) af))))⟩)) af))))))))),aA (σ':=[some _,some _,none,none,none,none]) rfl ?_⟩
  walk_at "l2"
  refine cK ho rfl ?_
  walk_at "l2"
  refine ⟨x,m,nx2,os2,rfl,ma,?_⟩
  walk_at "l2"
  refine ⟨Dr,t,n,o,m,nx,os,ds,fun j=>M.upk m (2 ^ (M.ldp (prs nx) (prs os) m).getD j 0) nx.length,by rw [hn2],tt,lr.r,fun j d h=>?_,fun H1 s1=>?_⟩
  ·have hj:=(List.getElem?_eq_some_iff.mp h).1
   have h2:=List.getElem?_eq_getElem (l:=M.ldp (prs nx) (prs os) m) (i:=j) (by rw [← lr.dl];exact hj)
   refine ⟨?_,M.upk_len _ _ _,M.upk_lt _ _ _⟩
   dsimp only;rw [gl _ _ _ h2];exact lr.da j d _ h h2
  ·refine ⟨true,rfl,?_⟩
   rw [if_neg (by decide)]
   walk_at "l2"
   refine ⟨Dl,t,n,o,m,nx,os,es,fun j=>((M.lkp (prs nx) (prs os) m).getD j 0 / os.length,(M.lkp (prs nx) (prs os) m).getD j 0 % os.length),by rw [hn3],tt.same s1,s1.get lr.l,fun j d h=>?_,fun H2 s2=>?_⟩
   ·have hj:=(List.getElem?_eq_some_iff.mp h).1
    have h2:=List.getElem?_eq_getElem (l:=M.lkp (prs nx) (prs os) m) (i:=j) (by rw [← lr.el];exact hj)
    have hb:=hk _ (List.mem_of_getElem? h2)
    have hop:0 < os.length:=Nat.pos_of_ne_zero fun z=>by rw [z,Nat.mul_zero] at hb;omega
    dsimp only
    rw [gl _ _ _ h2]
    refine ⟨s1.get (lr.ea j d _ h h2),?_,Nat.mod_lt _ hop⟩
    have:=Nat.div_lt_of_lt_mul (by rw [Nat.mul_comm] at hb;exact hb)
    omega
   ·refine ⟨true,rfl,?_⟩
    rw [if_neg (by decide)]
    have s02:=s1.trans s2
    have hDr2:=s02.get hDr
    walk_at "l2"
    intro D3 hD3
    refine bw (xs:=ds.map V.ref) (fun j ys H'=>Cs (fun j ys=>ys=(((M.lst_ (prs nx) (prs os) m).map (M.ow · (M.lkL (prs nx) (prs os) m))).take j).map nat) H2 D3 j ys H') (Cs.zero hD3 rfl) (fun j ys H' _ c=>SqL.of (c.same.get hDr2)) (fun j v ys H3 hv c=>?_) (fun ys H3 c=>?_)
    ·obtain ⟨d,hd',rfl⟩:=aK hv
     have hj:=(List.getElem?_eq_some_iff.mp hd').1
     have hj2:j < (M.ldp (prs nx) (prs os) m).length:=by rw [← lr.dl];exact hj
     have h2:=List.getElem?_eq_getElem hj2
     have hb:=hl _ (List.mem_of_getElem? h2)
     have s03:=s02.trans c.same
     walk_at "l2"
     refine ⟨t,n,o,d,m,nx,os,_,rfl,tt.same s03,s03.get (lr.da j d _ hd' h2),M.upk_lt _ _ _,fun H4 s4=>?_⟩
     have hled:=M.led_to (ps:=prs nx) (m:=m) (i:=(M.ldp (prs nx) (prs os) m)[j]) (by rw [M.rch_len,aG];exact hb)
     rw [aG] at hled
     rw [hled]
     walk_at "l2"
     have hlt:(M.rch (prs nx) m nx.length).getD (M.ldp (prs nx) (prs os) m)[j] 0 < 2 ^ nx.length:=by
      have:=M.rch_lt (prs nx) m nx.length _ (M.getD_mem (X:=M.rch (prs nx) m nx.length) (i:=(M.ldp (prs nx) (prs os) m)[j]) (by rw [M.rch_len];exact hb))
      rwa [aG] at this
     have s04:=s03.trans s4
     refine ⟨t,n,o,Dl,m,_,nx,os,es,M.lkp (prs nx) (prs os) m,rfl,tt.same s04,hlt,l60,s04.get lr.l,lr.el,many60,fun j e k h1 h2=>s04.get (lr.ea j e k h1 h2),hk,fun H5 s5=>?_⟩
     refine Cs.put hD3 (c.same.trans (s4.trans s5)) (s5.get (s4.get c.at')) c.len (by omega) ?_
     rw [c.pv,take_succ (show ((M.lst_ (prs nx) (prs os) m).map (M.ow · (M.lkL (prs nx) (prs os) m)))[j]? =some (M.ow ((M.rch (prs nx) m nx.length).getD (M.ldp (prs nx) (prs os) m)[j] 0) (M.lkL (prs nx) (prs os) m)) by
      unfold M.lst_
      rw [List.getElem?_map,List.getElem?_map,h2,aG];rfl),List.map_append];rfl
    ·have e3:=c.at'
     rw [c.pv,List.length_map,lr.dl,← M.lst_len,← List.length_map (as:=M.lst_ (prs nx) (prs os) m) (f:=(M.ow · (M.lkL (prs nx) (prs os) m))),List.take_length] at e3
     walk_at "l2"
     refine ⟨D3,_,rfl,e3,M.rows_inj,by rw [List.length_map,M.lst_len,← M.many_eq];omega,fun H4 s4=>?_⟩
     walk_at "l2"
     exact q H4 (s02.trans (c.same.trans s4))
end
local macro_rules | `(tactic| walk_at "l2step") =>`(tactic| first | ((with_reducible refine' Gk ?e ?a ?_);(case e=>walk_at "l2hp");(case a=>walk_at "l2side")) | ((with_reducible refine' M9 ?a ?b ?_);(case a=>walk_at "l2side");(case b=>walk_at "l2side");(with_reducible intro _ _)))
section
variable {P:Program} {w:World} {K:PySem.W.Frag} {mg:Str→Option Value} {base:Heap} {a:Ad}
local macro_rules | `(tactic| walk_at "l2step") =>`(tactic| first | ((with_reducible refine' lv ?e ?_);(case e=>walk_at "l2kind")) | ((with_reducible refine' rS ?e ?_);(case e=>walk_at "l2kind")) | (with_reducible refine j0 ?_) | (with_reducible refine m8 ?_))
theorem MG (T:Tx K mg a):FnOk P w K mg base CX0 10 a.xX a.K2 ["_law_script"] (A1 K):=by
 have tK:=@ql P w K mg base a T
 have d7:=@gq P w K mg base a T
 have ig:=@qm P w K mg base a T
 have bb:=@c3 P w K mg base a T
 have fc:=@gJ P w K mg base a T
 have GG:=@Ht P w K mg base a T
 have yI:=@u8 P w K mg base a T
 have mM:=@sv P w K mg base a T
 refine T.IH.ok kt (fun vs H Q E h=>?_) (fun cdv A outer s H vs Q E hr h=>?_)
 ·obtain ⟨p,ns,rfl,_⟩:=h;rfl
 ·obtain ⟨p0,ns,rfl,hS,hlen,q⟩:=h
  have hu0:=FF hr
  have hu1:=Kn hr
  refine ⟨_,((ae (ar (i:=1) kt.nd rfl (by walk_at "o") (aj tK (hr.mono (by decide)) (by rfl) T.sY T.sW T.ie .nil az (aa (pv 0) (aa ag (aa ag af)))))
   (ae (ar (i:=2) kt.nd rfl (by walk_at "o") (uV T.yG d7 (hr.mono (by decide)) (by rfl) T.xT T.cL .nil az (aa (aV (aq (K:=K) rfl) (pv 1) ag (fun _ _=>rfl)) (aa (aV (aq (K:=K) rfl) (pv 1) ag (fun _ _=>rfl)) (aa (aV (aq (K:=K) rfl) (pv 1) ag (fun _ _=>rfl)) af)))))
   (ae (ar (i:=3) kt.nd rfl (by walk_at "o") (aj GG (hr.mono (by decide)) (by rfl) T.FL T.Fy T.wg .nil az (aa (pv 2) af)))
   (ae (di (cR (cz (aj yI (hr.mono (by decide)) (by rfl) T.xQ T.xI T.jQ .nil az (aa (pv 1) (aa (pv 3) af))))) (ah (aE kn)) aU)
   (ae (ar (i:=4) kt.nd rfl (by walk_at "o") (fg (aV (aq (K:=K) rfl) (pv 3) ag (fun _ _=>rfl)) T.au T.hV ig (hr.mono (by decide)) T.dr .nil az))
   (ae (di (PW.pt (m9 (a7 uY (bt (K:=K) rfl (aV (aq (K:=K) rfl) (pv 3) ag (fun _ _=>rfl)) rfl) (aV (aq (K:=K) rfl) (pv 1) ag (fun _ _=>rfl)) (a8 _)) (i3 (a7 uY (fg (aV (aq (K:=K) rfl) (pv 3) ag (fun _ _=>rfl)) T.au T.iy fc (hr.mono (by decide)) T.dc .nil az) (aD (bo (K:=K) rfl) (by rfl) T.jv PySem.boot_len (aa (aV (aq (K:=K) rfl) (pv 1) ag (fun _ _=>rfl)) af)) (a8 _))))) (ah (aE kn)) aU)
   (ae (eh PassesOwn.never rfl (dR (by rfl) T.iO (aa (aV (aq (K:=K) rfl) (pv 1) ag (fun _ _=>rfl)) af)) (ak (i:=5) kt.nd rfl (by walk_at "o")) (ae (ar (i:=6) kt.nd rfl (by walk_at "o") (am cq (am cq (aD (bo (K:=K) rfl) (by rfl) T.jv PySem.boot_len (aa (aV (aq (K:=K) rfl) (pv 1) ag (fun _ _=>rfl)) af)) (fg (aV (aq (K:=K) rfl) (pv 3) ag (fun _ _=>rfl)) T.au T.cA bb (hr.mono (by decide)) T.bv .nil az)) ag))
   (ah (di (a7 (zq (K:=K) rfl hu0) (aj mM (hr.mono (by decide)) (by rfl) T.mi T.me T.fS .nil az (aa (pv 1) (aa (pv 5) (aa (pv 6) af)))) (aj mM (hr.mono (by decide)) (by rfl) T.mi T.me T.fS .nil az (aa (pv 4) (aa (pv 5) (aa (pv 6) af)))) (a8 _)) (ah (aE kn)) aU))))
   (ae (ar (i:=7) kt.nd rfl (by walk_at "o") (ek (aa (dC (osc:=ad zb) (ON:=["_law_script","_law_tables","_law_machine_here","_law_told","_law_due","_law_which","_law_turns","_law_held","_law_one","_law_again"]) (N:=["_law_one"]) (n:=1) (fx:=[]) rfl rfl rfl (by decide +kernel) (aZ (K:=K) rfl (aV (aq (K:=K) rfl) (pv 3) ag (fun _ _=>rfl))) (aW (by decide)) (fun _ _ _ _ _=>⟨(ak (i:=0) (show List.Nodup (["_law_one"]:List Str) from by decide +kernel) rfl (by walk_at "o")),bL,(dn (gc (K:=K) rfl) (by rfl) T.ix PyProof.Rows.boot_list (aa (pv 0) af))⟩)) (aa (dn (gc (K:=K) rfl) (by rfl) T.ix PyProof.Rows.boot_list (aa (aV (aq (K:=K) rfl) (pv 3) ag (fun _ _=>rfl)) af)) af))))
   (ae (eh PassesOwn.never rfl (aZ (K:=K) rfl (aV (aq (K:=K) rfl) (pv 3) ag (fun _ _=>rfl))) (ak (i:=8) kt.nd rfl (by walk_at "o")) (ah (dB (lM (K:=K) rfl PySem.F.plainAttrs_list PySem.F.slot_list_append PySem.F.type_list_append dW (pv 8) (aa ag af)))))
   (ae (dB (g7 (K:=K) rfl PySem.F.plainAttrs_list PySem.F.slot_list_clear PySem.F.type_list_clear Be (aV (aq (K:=K) rfl) (pv 3) ag (fun _ _=>rfl))))
   (ae (dB (g7 (K:=K) rfl PySem.F.plainAttrs_list PySem.F.slot_list_clear PySem.F.type_list_clear Be (aV (aq (K:=K) rfl) (pv 3) ag (fun _ _=>rfl))))
   (ae (ar (i:=9) kt.nd rfl (by walk_at "o") (aj GG (hr.mono (by decide)) (by rfl) T.FL T.Fy T.wg .nil az (aa (pv 2) af)))
   (ah (aE (oa (g6 (zr (K:=K) rfl hu1) (ek (aa (aV (aq (K:=K) rfl) (pv 9) ag (fun _ _=>rfl)) (aa (aV (aq (K:=K) rfl) (pv 9) ag (fun _ _=>rfl)) af))) (pv 7) (a8 _)) (oa (g6 (zr (K:=K) rfl hu1) (fg (aV (aq (K:=K) rfl) (pv 9) ag (fun _ _=>rfl)) T.au T.hV ig (hr.mono (by decide)) T.dr .nil az) (pv 4) (a8 _)) (wV (g6 (zr (K:=K) rfl hu1) (fg (pv 2) T.au T.hV ig (hr.mono (by decide)) T.dr .nil az) (pv 1) (a8 _)))))))))))))))))))),aA (σ':=[some _,none,none,none,none,none,none,none,none,none]) rfl ?_⟩
  walk_at "l2"
  refine ⟨p0,ns,1,6,rfl,hS,by decide,by decide,fun t n o H1 m nx os s1 fn fo tt l16=>?_⟩
  have htt:=tt.t
  walk_at "l2"
  intro x dx H2 f2 s2 e2
  refine ⟨x,dx,n,o,m,nx,os,rfl,e2,tt.tab.same s2,fun H3 k3 ma=>⟨rfl,?_⟩⟩
  have s13:Same H1 H3:=fun b ob e=>k3 _ _ (al e f2) (s2.get e)
  have tt3:=tt.same s13
  have g:MaG m nx os:=⟨tt.tab.m6,tt.tab.ln,tt.tab.lo,tt.tab.bn⟩
  clear k3 e2 s2 f2 tt htt hS
  have lo:=g.lo
  have m6:=g.m6
  walk_at "l2"
  refine ⟨x,m,nx,os,rfl,ma,g,by omega,fun u x2 Dr Dl ds es H4 nx2 os2 s4 eu ma2 g2 ls lr fr fl nrl fds=>?_⟩
  have tt4:=tt3.same s4
  have ma4:=ma.same s4
  have ln2:nx2.length=(M.lkp (prs nx) (prs os) m).length:=by have:=ls.ln;rwa [aG] at this
  have lo2:os2.length=os.length:=by have:=ls.lo;rwa [aG,aG] at this
  have l162:nx2.length≤16:=by have:=M.many_le (ps:=prs nx) (os:=prs os) (m:=m);rw [aG] at this;omega
  walk_at "l2"
  refine ⟨t,n,o,u,x2,Dr,Dl,m,nx,os,nx2,os2,ds,es,rfl,tt4,by omega,eu,ma2,ln2,lr,fun H5 s5=>?_⟩
  refine ⟨true,rfl,?_⟩
  rw [if_neg (by decide)]
  have eu5:=s5.get eu
  have ma5:=ma2.same s5
  have tt5:=tt4.same s5
  obtain ⟨dx5,tn5,to5,ho5,_,_⟩:=ma5.ho
  walk_at "l2"
  refine cK ho5 rfl ?_
  walk_at "l2"
  refine ⟨x2,m,nx2,os2,rfl,ma5,g2,fun td D1 D2 H6 fd1 fd2 nd s6 e6 ed1 ed2=>?_⟩
  have eu6:=s6.get eu5
  have ma6:=ma5.same s6
  have tt6:=tt5.same s6
  have ho6:=s6.get ho5
  have htt6:=tt6.t
  walk_at "l2"
  refine bq ho6 T.au T.bu rfl ?_
  walk_at "l2"
  rw [if_neg (by simp)]
  walk_at "l2"
  refine cK ho6 rfl ?_
  walk_at "l2"
  refine ⟨x2,m,nx2,os2,rfl,ma6,?_⟩
  have htn6:=tt6.tab.n
  have hto6:=tt6.tab.o
  walk_at "l2"
  rw [if_neg (by rw [dQ,lo2];simp)]
  have tdT:TabT H6 td D1 D2 m nx2 os2:=⟨e6,g2.m6,ed1,ed2,ma6.hn,ma6.hs,g2.ln,g2.lo,g2.bn⟩
  have hfit:M.Fit (prs nx) (prs os) m:=⟨by rw [aG];omega,fun q hq=>by
   rw [show prs nx++prs os=prs (nx++os) from (List.map_append ..).symm] at hq
   obtain ⟨r,hr,rfl⟩:=List.mem_map.mp hq
   rw [aG];exact (g.bn r hr).1⟩
  walk_at "l2"
  refine iA (fun i σ H'=>∃ v5 v6,σ=[some (.ref p0),some (.ref t),some (.ref x),some (.ref u),some (.ref td),v5,v6,none,none,none]∧Same H6 H') ⟨none,none,rfl,Same.refl _⟩ ?_ ?_
  ·rintro i σ H' hi ⟨v5,v6,rfl,s'⟩
   have him:i < m:=by omega
   have tt':=tt6.same s'
   have htt':=tt'.t
   have htn':=tt'.tab.n
   have eu':=s'.get eu6
   have ma':=ma6.same s'
   walk_at "l2"
   refine cK (s'.get ho6) rfl ?_
   walk_at "l2"
   refine ⟨x2,m,nx2,os2,rfl,ma',?_⟩
   have eT:((refs nx).length:Int) + (nx2.length:Int) + 2=((nx.length + nx2.length + 2:Nat):Int):=by rw [dQ];push_cast;rfl
   have ei:(0:Int) + (i:Int)=(i:Int):=Int.zero_add _
   walk_at "l2"
   rw [eT,ei]
   refine ⟨t,n,o,m,nx,os,i,nx.length + nx2.length + 2,rfl,tt',by omega,by omega,fun DA H7 fA s7 eA=>?_⟩
   walk_at "l2"
   refine ⟨td,D1,D2,m,nx2,os2,i,nx.length + nx2.length + 2,rfl,(tdT.same s').same s7,by omega,by omega,fun DB H8 fB s8 eB=>?_⟩
   rw [ls.alike hfit (M.pulse_lt him _)] at eB
   refine IV (SqL.of (s8.get eA)) (SqL.of eB) ?_
   walk_at "l2"
   exact ⟨_,_,rfl,s'.trans (s7.trans s8)⟩
  ·rintro σ H7 ⟨v5,v6,rfl,s7⟩
   have s47:=(s5.trans s6).trans s7
   have eu7:=s7.get eu6
   have lr7:=lr.same s47
   have hr7:=lr7.r
   have hl7:=lr7.l
   walk_at "l2"
   intro DC hDC
   refine bw (xs:=ds.map V.ref) (fun j ys H'=>Co (fun j=> .lst ((M.upk m (2 ^ (M.ldp (prs nx) (prs os) m).getD j 0) nx.length).map nat)) H7 DC j ys H') (Av hDC) (fun j ys H' _ ⟨_,_,_,_,_,s',_⟩=>SqL.of (s'.get hr7)) (fun j v ys HC hv c=>?_) (fun ys HC c=>?_)
   ·obtain ⟨d,hd,rfl⟩:=aK hv
    have c':=c
    obtain ⟨qs,eqs,lq,pa,pf,sC,eDC⟩:=c'
    have hj:=(List.getElem?_eq_some_iff.mp hd).1
    have hj2:j < (M.ldp (prs nx) (prs os) m).length:=by rw [← lr.dl];exact hj
    have hdl:=lr.dl
    have hml:=M.many_eq (ps:=prs nx) (os:=prs os) (m:=m)
    have ed:=sC.get (lr7.da j d _ hd (M.getD_at' (d:=0) hj2))
    walk_at "l2"
    intro Dn H9 f9 s9 e9
    exact F9 hDC c s9 f9 e9 (by omega)
   ·obtain ⟨cs,rfl,lcs,acs,fcs,sC,eC⟩:=c
    have hlC:=sC.get hl7
    have euC:=sC.get eu7
    walk_at "l2"
    intro De H8 f8 s8 e8
    walk_at "l2"
    intro Dh H9 f9 s9 e9
    have s79:=sC.trans (s8.trans s9)
    have s49:=s47.trans s79
    have s39:=s4.trans s49
    have lr9:=lr.same s49
    have eu9:=s49.get eu
    obtain ⟨R,eR⟩:∃ R:Addr→Prop,R=fun b=>b∈ds∨b=Dr∨b=Dl:=⟨_,rfl⟩
    have hR4:∀ b,R b→∃ ys,H4 b=some (.lst ys):=fun b hb=>by
     rw [eR] at hb
     rcases hb with h | h | h
     ·obtain ⟨j,hj,ej⟩:=List.mem_iff_getElem.mp h
      have hj2:j < (M.ldp (prs nx) (prs os) m).length:=by rw [← lr.dl];exact hj
      exact ⟨_,lr.da j b _ (by rw [List.getElem?_eq_getElem hj,ej]) (M.getD_at' (d:=0) hj2)⟩
     ·rw [h];exact ⟨_,lr.r⟩
     ·rw [h];exact ⟨_,lr.l⟩
    have hR9:∀ b,R b→∃ ys,H9 b=some (.lst ys):=fun b hb=>by obtain ⟨ys,h⟩:=hR4 b hb;exact ⟨ys,s49.get h⟩
    have hR3:∀ b,R b→H3 b=none:=fun b hb=>by
     rw [eR] at hb
     rcases hb with h | h | h
     ·exact (fds b h).1
     ·rw [h];exact fr
     ·rw [h];exact fl
    have nR:∀ b,H4 b=none→¬ R b:=fun b e hb=>by obtain ⟨ys,h⟩:=hR4 b hb;rw [e] at h;cases h
    obtain ⟨Hv,eHv⟩:∃ Hv,Hv=less H9 R:=⟨_,rfl⟩
    have sv9:Same Hv H9:=by rw [eHv];exact Fk
    have s3v:Same H3 Hv:=by rw [eHv];exact ED s39 hR3
    have tupv:∀ {b:Addr} {xs:List V},H9 b=some (.tup xs)→Hv b=some (.tup xs):=fun {b xs} e=>by rw [eHv];exact HQ hR9 e
    have lstv:∀ {b:Addr} {o:HO},H4 b=none→H9 b=some o→Hv b=some o:=fun {b o} e1 e2=>by rw [eHv,pL (nR b e1)];exact e2
    have vR:∀ b,R b→Hv b=none:=fun b hb=>by rw [eHv];exact Fl hb
    have s69:=s7.trans s79
    have ma9:=ma6.same s69
    have tdv:TabT Hv td D1 D2 m nx2 os2:=⟨tupv (s69.get e6),g2.m6,lstv (s5.free fd1) (s69.get ed1),lstv (s5.free fd2) (s69.get ed2),fun q hq=>tupv (ma9.hn q hq),fun q hq=>tupv (ma9.hs q hq),g2.ln,g2.lo,g2.bn⟩
    have mav:=ma.same s3v
    have ttv:=tt3.same s3v
    have lrv:Lrl Hv DC De cs es m nx os:=⟨lstv (s47.free hDC) (s9.get (s8.get eC)),lstv (s47.free (sC.free f8)) (s9.get e8),by rw [lcs,List.length_map,lr.dl],lr.el,fun j d k h1 h2=>by
      have:=acs j d h1
      dsimp only at this
      rw [List.getD_eq_getElem?_getD,h2] at this
      exact lstv (s47.free (fcs d (List.mem_of_getElem? h1)).1) (s9.get (s8.get this)),fun j d k h1 h2=>tupv (lr9.ea j d k h1 h2)⟩
    have ehv:Hv Dh=some (.lst [.ref DC,.ref De]):=lstv (s47.free (sC.free (s8.free f9))) e9
    have reph:=lrv.rep (K:=K) ehv
    have dsR:∀ d∈ds,R d:=fun d hd=>by rw [eR];exact .inl hd
    have drR:R Dr:=by rw [eR];exact .inr (.inl rfl)
    have dlR:R Dl:=by rw [eR];exact .inr (.inr rfl)
    have euv:=tupv eu9
    have nr:∀ d∈ds,d≠Dr∧d≠Dl:=fun d hd=>(fds d hd).2
    have hds9:∀ d∈ds,∃ ys,H9 d=some (.lst ys)∧ys.length≤100:=fun d hd=>by
     obtain ⟨j,hj,ej⟩:=List.mem_iff_getElem.mp hd
     have hj2:j < (M.ldp (prs nx) (prs os) m).length:=by rw [← lr.dl];exact hj
     exact ⟨_,lr9.da j d _ (by rw [List.getElem?_eq_getElem hj,ej]) (M.getD_at' (d:=0) hj2),by rw [List.length_map,M.upk_len];omega⟩
    have hdsl:ds.length≤16:=by rw [lr.dl,← M.many_eq];omega
    have hr9:=lr9.r
    have hl9:=lr9.l
    clear lr7 hr7 hl7 lr9 acs fcs eC e8 e9 hlC euC eu7 eu5 eu6
    walk_at "l2"
    refine gP (xs:=ds.map V.ref) (fun i σ H'=>∃ v8,σ=[some (.ref p0),some (.ref t),some (.ref x),some (.ref u),some (.ref td),v5,v6,some (.ref Dh),v8,none]∧Same Hv H'∧H' Dr=some (.lst (ds.map V.ref))∧H' Dl=some (.lst (es.map V.ref))∧∀ d∈ds,∃ ys,H' d=some (.lst ys)∧ys.length≤100 + i) ⟨none,rfl,sv9,hr9,hl9,hds9⟩ (fun i σ H' _ ⟨_,_,_,e,_⟩=>SqL.of e) ?_ ?_
    ·rintro i y σ H' hy ⟨v8,rfl,s',er',el',hd'⟩
     obtain ⟨d,hd,rfl⟩:=aK hy
     have hi:=(List.getElem?_eq_some_iff.mp hd).1
     have hdm:=List.mem_of_getElem? hd
     obtain ⟨ys,ed,ly⟩:=hd' d hdm
     walk_at "l2"
     refine gH ed (dk (by omega)) fun HA uA=>?_
     walk_at "l2"
     refine ⟨uA.same (vR d (dsR d hdm)) s',uA.oth _ _ (nr d hdm).1.symm er',uA.oth _ _ (nr d hdm).2.symm el',fun d2 hd2=>?_⟩
     by_cases hz:d2=d
     ·rw [hz];exact ⟨_,uA.at',by rw [List.length_append];simp only [List.length_cons,List.length_nil];omega⟩
     ·obtain ⟨ys2,e2',l2'⟩:=hd' d2 hd2
      exact ⟨ys2,uA.oth _ _ hz e2',by omega⟩
    ·rintro σ H' ⟨v8,rfl,s',er',el',hd'⟩
     have eu':=s'.get euv
     walk_at "l2"
     refine EF er' fun HA uA=>?_
     have sA:=uA.same (vR Dr drR) s'
     have euA:=sA.get euv
     have elA:=uA.oth _ _ nrl.symm el'
     walk_at "l2"
     refine EF elA fun HB uB=>?_
     have sB:=uB.same (vR Dl dlR) sA
     walk_at "l2"
     refine ⟨x,m,nx,os,rfl,mav.same sB,g,by omega,fun u3 x3 Dr3 Dl3 ds3 es3 HC nx3 os3 sC3 eu3 ma3 g3 ls3 lr3 fr3 fl3 nrl3 fds3=>?_⟩
     have svC:=sB.trans sC3
     obtain ⟨h1,h2⟩:=ls.uniq ls3
     walk_at "l2"
     intro DN HD fD sD eD
     have svD:=svC.trans sD
     walk_at "l2"
     refine Ki ((lr3.same sD).rep eD) (reph.same svD) (KZ _ _ _ _ _) ?_
     rw [pO]
     refine ⟨true,rfl,?_⟩
     rw [if_pos rfl]
     have eu3D:=sD.get eu3
     have ma3D:=ma3.same sD
     obtain ⟨_,_,_,ho3,_,_⟩:=ma3D.ho
     walk_at "l2"
     refine cK ho3 rfl ?_
     walk_at "l2"
     refine ⟨x3,m,nx3,os3,rfl,ma3D,g3,fun tE E1 E2 HE _ _ _ sE eE eE1 eE2=>?_⟩
     have svE:=svD.trans sE
     have tdE:=tdv.same svE
     walk_at "l2"
     refine Ki (uI eE eE1 eE2 (ma3D.hn.same sE) (ma3D.hs.same sE)) (uI tdE.t tdE.tab.n tdE.tab.o tdE.tab.pn tdE.tab.po) (FT _ _ _) ?_
     rw [GV h1.symm h2.symm,pO]
     refine ⟨true,rfl,?_⟩
     rw [if_pos rfl]
     have maE:=mav.same svE
     obtain ⟨_,_,_,hoE,_,_⟩:=maE.ho
     walk_at "l2"
     refine cK hoE rfl ?_
     walk_at "l2"
     refine ⟨x,m,nx,os,rfl,maE,g,fun tF F1 F2 HF _ _ _ sF eF eF1 eF2=>?_⟩
     have ttF:=(ttv.same svE).same sF
     walk_at "l2"
     refine Ki (uI eF eF1 eF2 (maE.hn.same sF) (maE.hs.same sF)) (uI ttF.t ttF.tab.n ttF.tab.o ttF.tab.pn ttF.tab.po) (FT _ _ _) ?_
     rw [pO]
     exact q _
end
open PySem.W in
theorem all_mk {l:OpenLaw} {w:World} {K:Frag} {h:Heap} {mg:Str→Option Value} {fa:Addr} (X:K.In h) (G:h.Ns mainGlobals mg) (hfa:mg "law"=some (.ref fa))
  {zB AH:Option Addr} {y1:Array (Option Value)} {zH zX Ai zg rM Aq:Value} {ci:Addr}
  {Cj DG:Option Addr} {BS:Array (Option Value)} {Cr CI C2 B7 uk C8:Value} {dq:Addr}
  {KD Lc:Option Addr} {J2:Array (Option Value)} {KG KL K0 Kv Ga K3:Value} {mm:Addr}
  {Ck DH:Option Addr} {BT:Array (Option Value)} {Ct CJ C3 B8 ul C9:Value} {d3:Addr}
  {Ch DD:Option Addr} {BQ:Array (Option Value)} {Cn CG C0 B5 ui C6:Value} {dZ:Addr}
  {zz AF:Option Addr} {yY:Array (Option Value)} {zF zV Ag ze rK Ao:Value} {c6:Addr}
  {Ci DF:Option Addr} {BR:Array (Option Value)} {Cq CH C1 B6 uj C7:Value} {d0:Addr}
  {sx tz:Option Addr} {sh:Array (Option Value)} {sH sS sZ so kF ti:Value} {bC:Addr}
  {E7 Gs:Option Addr} {Ez:Array (Option Value)} {E9 Ft FZ ES yf F7:Value} {fQ:Addr}
  {vd wk:Option Addr} {uw:Array (Option Value)} {vk vA vP uM mB vY:Value} {bP:Addr}
  {kT lD:Option Addr} {kK:Array (Option Value)} {kU k6 lc kP gz lu:Value} {aB:Addr}
  {nq n6:Option Addr} {mW:Array (Option Value)} {nv nI nL nh iD nT:Value} {aI:Addr}
  {lT mL:Option Addr} {lF:Array (Option Value)} {lU l8 mt lL gQ my:Value} {aF:Addr}
  {qt r0:Option Addr} {p3:Array (Option Value)} {qz qY rm qb jL rG:Value} {aQ:Addr}
  {jd jk:Option Addr} {ja:Array (Option Value)} {je jh ji jc eG jj:Value} {av:Addr}
  {qv r6:Option Addr} {p4:Array (Option Value)} {qC qZ rp qc jM rH:Value} {aR:Addr}
  {qw r8:Option Addr} {p5:Array (Option Value)} {qD q0 rq qd jN rJ:Value} {aT:Addr}
  {nk n0:Option Addr} {mV:Array (Option Value)} {nu nH nK ng iC nS:Value} {aH:Addr}
  {oU pD:Option Addr} {oI:Array (Option Value)} {oX pe pj oN i8 py:Value} {aM:Addr}
  {xj yy:Option Addr} {wM:Array (Option Value)} {xo xE x8 wT oF yc:Value} {bJ:Addr}
  {oV pE:Option Addr} {oJ:Array (Option Value)} {oY ph pq oO i9 pz:Value} {aN:Addr}
  {KF Ld:Option Addr} {J3:Array (Option Value)} {KH KM K1 Kw Gb K4:Value} {mq:Addr}
  {Cf Dy:Option Addr} {BO:Array (Option Value)} {Cl CD CY B3 ug C4:Value} {dX:Addr}
  {Hw ID:Option Addr} {G8:Array (Option Value)} {Hy HW Iu Hm Bp Iw:Value} {iP:Addr}
  {Cg Dz:Option Addr} {BP:Array (Option Value)} {Cm CF CZ B4 uh C5:Value} {dY:Addr}
  {ve wl:Option Addr} {ux:Array (Option Value)} {vl vB vQ uN mC vZ:Value} {bQ:Addr}
  {zA AG:Option Addr} {yZ:Array (Option Value)} {zG zW Ah zf rL Ap:Value} {c7:Addr}
  {oS pC:Option Addr} {oH:Array (Option Value)} {oW pd pi oM i7 pu:Value} {a9:Addr}
  {Hx IE:Option Addr} {G9:Array (Option Value)} {Hz HX Iv Hn Bq Ix:Value} {iQ:Addr}
  {xi yx:Option Addr} {wL:Array (Option Value)} {xn xD x6 wS oE yb:Value} {cx:Addr}
  {zD AJ:Option Addr} {y3:Array (Option Value)} {zJ zZ Ak zi rO At:Value} {c9:Addr}
  {vh wo:Option Addr} {uC:Array (Option Value)} {vo vE vU uQ mF v7:Value} {bU:Addr}
  {qp rY:Option Addr} {pX:Array (Option Value)} {qx qW rk p9 jJ rE:Value} {bh:Addr}
  {qr rZ:Option Addr} {pZ:Array (Option Value)} {qy qX rl qa jK rF:Value} {bi:Addr}
  {zC AI:Option Addr} {y2:Array (Option Value)} {zI zY Aj zh rN Ar:Value} {c8:Addr}
  {xg yv:Option Addr} {wJ:Array (Option Value)} {xk xB xZ wQ oB x9:Value} {cv:Addr}
  {xh yw:Option Addr} {wK:Array (Option Value)} {xl xC x5 wR oC ya:Value} {cw:Addr}
  {sy tD:Option Addr} {si:Array (Option Value)} {sI sT tf sr kG tj:Value} {bD:Addr}
  {zE AK:Option Addr} {y4:Array (Option Value)} {zK z6 Al zj rP Au:Value} {db:Addr}
  {sG tG:Option Addr} {sj:Array (Option Value)} {sJ sU th ss kH tm:Value} {bE:Addr}
  {vf wm:Option Addr} {uy:Array (Option Value)} {vm vC vS uO mD v0:Value} {bR:Addr}
  {vj wr:Option Addr} {uE:Array (Option Value)} {vq vG vW uS mH wa:Value} {bW:Addr}
  {vi wp:Option Addr} {uD:Array (Option Value)} {vp vF vV uR mG v9:Value} {bV:Addr}
  {vg wn:Option Addr} {uz:Array (Option Value)} {vn vD vT uP mE v4:Value} {bT:Addr}
  {MI Nf:Option Addr} {LP:Array (Option Value)} {MJ MP M7 Mu Jw M8:Value} {xX:Addr}
  {ai:Addr} (GA:nsIn K mainGlobals "Machine"=some (some (.ref ai)))
  {aC:Addr} (Lh:nsIn K mainGlobals "Steps"=some (some (.ref aC)))
  (DK:nsIn K mainGlobals "is_whole"=some (some (.ref ci)))
  (Cz:K.lookup ci=some ⟨zH,zB,.func (fnOf "is_whole" "is_whole" (ax fX) (aw fX) (ad fX) .none zX Ai zg AH rM Aq),y1⟩)
  (Dp:codeIn K rM "is_whole"=true)
  (tX:keepIn K (.ref ci)=true)
  (Gy:nsIn K mainGlobals "is_mask"=some (some (.ref dq)))
  (Fr:K.lookup dq=some ⟨Cr,Cj,.func (fnOf "is_mask" "is_mask" (ax iq) (aw iq) (ad iq) .none CI C2 B7 DG uk C8),BS⟩)
  (Gj:codeIn K uk "is_mask"=true)
  (w8:keepIn K (.ref dq)=true)
  (Ni:nsIn K mainGlobals "even"=some (some (.ref mm)))
  (MN:K.lookup mm=some ⟨KG,KD,.func (fnOf "even" "even" (ax tO) (aw tO) (ad tO) .none KL K0 Kv Lc Ga K3),J2⟩)
  (Na:codeIn K Ga "even"=true)
  (Jd:keepIn K (.ref mm)=true)
  (Gz:nsIn K mainGlobals "bits_of"=some (some (.ref d3)))
  (Fs:K.lookup d3=some ⟨Ct,Ck,.func (fnOf "bits_of" "bits_of" (ax gh) (aw gh) (ad gh) .none CJ C3 B8 DH ul C9),BT⟩)
  (Gm:codeIn K ul "bits_of"=true)
  (w9:keepIn K (.ref d3)=true)
  (Gw:nsIn K mainGlobals "mask_of"=some (some (.ref dZ)))
  (Fp:K.lookup dZ=some ⟨Cn,Ch,.func (fnOf "mask_of" "mask_of" (ax io) (aw io) (ad io) .none CG C0 B5 DD ui C6),BQ⟩)
  (Gh:codeIn K ui "mask_of"=true)
  (w4:keepIn K (.ref dZ)=true)
  (DI:nsIn K mainGlobals "unpacked"=some (some (.ref c6)))
  (Cw:K.lookup c6=some ⟨zF,zz,.func (fnOf "unpacked" "unpacked" (ax eJ) (aw eJ) (ad eJ) .none zV Ag ze AF rK Ao),yY⟩)
  (Di:codeIn K rK "unpacked"=true)
  (tV:keepIn K (.ref c6)=true)
  (Gx:nsIn K mainGlobals "is_pair"=some (some (.ref d0)))
  (Fq:K.lookup d0=some ⟨Cq,Ci,.func (fnOf "is_pair" "is_pair" (ax ip) (aw ip) (ad ip) .none CH C1 B6 DF uj C7),BR⟩)
  (Gi:codeIn K uj "is_pair"=true)
  (w6:keepIn K (.ref d0)=true)
  (wt:nsIn K mainGlobals "check_table"=some (some (.ref bC)))
  (vx:K.lookup bC=some ⟨sH,sx,.func (fnOf "check_table" "check_table" (ax cr) (aw cr) (ad cr) .none sS sZ so tz kF ti),sh⟩)
  (wc:codeIn K kF "check_table"=true)
  (lN:keepIn K (.ref bC)=true)
  (IF:nsIn K mainGlobals "is_odd"=some (some (.ref fQ)))
  (HU:K.lookup fQ=some ⟨E9,E7,.func (fnOf "is_odd" "is_odd" (ax jZ) (aw jZ) (ad jZ) .none Ft FZ ES Gs yf F7),Ez⟩)
  (IB:codeIn K yf "is_odd"=true)
  (Ba:keepIn K (.ref fQ)=true)
  (yz:nsIn K mainGlobals "odd_places"=some (some (.ref bP)))
  (xu:K.lookup bP=some ⟨vk,vd,.func (fnOf "odd_places" "odd_places" (ax cO) (aw cO) (ad cO) .none vA vP uM wk mB vY),uw⟩)
  (yi:codeIn K mB "odd_places"=true)
  (og:keepIn K (.ref bP)=true)
  (AT:findIn K (.ref ai) "__init__"=some (some (.ref aB)))
  (l6:K.lookup aB=some ⟨kU,kT,.func (fnOf "__init__" "Machine.__init__" (ax bp) (aw bp) (ad bp) .none k6 lc kP lD gz lu),kK⟩)
  (mI:codeIn K gz "Machine.__init__"=true)
  (gI:keepIn K (.ref aB)=true)
  (DW:findIn K (.ref ai) "stores"=some (some (.ref aI)))
  (pc:K.lookup aI=some ⟨nv,nq,.func (fnOf "stores" "Machine.stores" (ax bN) (aw bN) (ad bN) .none nI nL nh n6 iD nT),mW⟩)
  (pB:codeIn K iD "Machine.stores"=true)
  (fK:keepIn K (.ref aI)=true)
  (BD:findIn K (.ref ai) "outputs"=some (some (.ref aF)))
  (nG:K.lookup aF=some ⟨lU,lT,.func (fnOf "outputs" "Machine.outputs" (ax bF) (aw bF) (ad bF) .none l8 mt lL mL gQ my),lF⟩)
  (nW:codeIn K gQ "Machine.outputs"=true)
  (eU:keepIn K (.ref aF)=true)
  (GJ:findIn K (.ref ai) "told"=some (some (.ref aQ)))
  (sP:K.lookup aQ=some ⟨qz,qt,.func (fnOf "told" "Machine.told" (ax cE) (aw cE) (ad cE) .none qY rm qb r0 jL rG),p3⟩)
  (tu:codeIn K jL "Machine.told"=true)
  (g8:keepIn K (.ref aQ)=true)
  (wE:findIn K (.ref ai) "check_state"=some (some (.ref av)))
  (jx:K.lookup av=some ⟨je,jd,.func (fnOf "check_state" "Machine.check_state" (ax aX) (aw aX) (ad aX) .none jh ji jc jk eG jj),ja⟩)
  (jO:codeIn K eG "Machine.check_state"=true)
  (cS:keepIn K (.ref av)=true)
  (GK:findIn K (.ref ai) "step"=some (some (.ref aR)))
  (sQ:K.lookup aR=some ⟨qC,qv,.func (fnOf "step" "Machine.step" (ax cF) (aw cF) (ad cF) .none qZ rp qc r6 jM rH),p4⟩)
  (tw:codeIn K jM "Machine.step"=true)
  (g9:keepIn K (.ref aR)=true)
  (GL:findIn K (.ref ai) "back"=some (some (.ref aT)))
  (sR:K.lookup aT=some ⟨qD,qw,.func (fnOf "back" "Machine.back" (ax cG) (aw cG) (ad cG) .none q0 rq qd r8 jN rJ),p5⟩)
  (tx:codeIn K jN "Machine.back"=true)
  (hU:keepIn K (.ref aT)=true)
  (DV:findIn K (.ref aC) "__init__"=some (some (.ref aH)))
  (o9:K.lookup aH=some ⟨nu,nk,.func (fnOf "__init__" "Steps.__init__" (ax bM) (aw bM) (ad bM) .none nH nK ng n0 iC nS),mV⟩)
  (pA:codeIn K iC "Steps.__init__"=true)
  (i4:keepIn K (.ref aH)=true)
  (Ed:findIn K (.ref aC) "lowered"=some (some (.ref aM)))
  (qU:K.lookup aM=some ⟨oX,oU,.func (fnOf "lowered" "Steps.lowered" (ax cc) (aw cc) (ad cc) .none pe pj oN pD i8 py),oI⟩)
  (rT:codeIn K i8 "Steps.lowered"=true)
  (gj:keepIn K (.ref aM)=true)
  (JM:findIn K (.ref aC) "lay"=some (some (.ref bJ)))
  (zU:K.lookup bJ=some ⟨xo,xj,.func (fnOf "lay" "Steps.lay" (ax eQ) (aw eQ) (ad eQ) .none xE x8 wT yy oF yc),wM⟩)
  (AB:codeIn K oF "Steps.lay"=true)
  (kQ:keepIn K (.ref bJ)=true)
  (Ee:findIn K (.ref aC) "barring"=some (some (.ref aN)))
  (qV:K.lookup aN=some ⟨oY,oV,.func (fnOf "barring" "Steps.barring" (ax cf) (aw cf) (ad cf) .none ph pq oO pE i9 pz),oJ⟩)
  (rU:codeIn K i9 "Steps.barring"=true)
  (gm:keepIn K (.ref aN)=true)
  (Nj:nsIn K mainGlobals "base"=some (some (.ref mq)))
  (MO:K.lookup mq=some ⟨KH,KF,.func (fnOf "base" "base" (ax tP) (aw tP) (ad tP) .none KM K1 Kw Ld Gb K4),J3⟩)
  (Nb:codeIn K Gb "base"=true)
  (Je:keepIn K (.ref mq)=true)
  (Gu:nsIn K mainGlobals "sum_for"=some (some (.ref dX)))
  (Fn:K.lookup dX=some ⟨Cl,Cf,.func (fnOf "sum_for" "sum_for" (ax ik) (aw ik) (ad ik) .none CD CY B3 Dy ug C4),BO⟩)
  (Gf:codeIn K ug "sum_for"=true)
  (wX:keepIn K (.ref dX)=true)
  (Lf:nsIn K mainGlobals "reach"=some (some (.ref iP)))
  (KJ:K.lookup iP=some ⟨Hy,Hw,.func (fnOf "reach" "reach" (ax jn) (aw jn) (ad jn) .none HW Iu Hm ID Bp Iw),G8⟩)
  (K5:codeIn K Bp "reach"=true)
  (EY:keepIn K (.ref iP)=true)
  (Gv:nsIn K mainGlobals "rows_at"=some (some (.ref dY)))
  (Fo:K.lookup dY=some ⟨Cm,Cg,.func (fnOf "rows_at" "rows_at" (ax il) (aw il) (ad il) .none CF CZ B4 Dz uh C5),BP⟩)
  (Gg:codeIn K uh "rows_at"=true)
  (wZ:keepIn K (.ref dY)=true)
  (yA:nsIn K mainGlobals "look_masks"=some (some (.ref bQ)))
  (xv:K.lookup bQ=some ⟨vl,ve,.func (fnOf "look_masks" "look_masks" (ax cn) (aw cn) (ad cn) .none vB vQ uN wl mC vZ),ux⟩)
  (yj:codeIn K mC "look_masks"=true)
  (oh:keepIn K (.ref bQ)=true)
  (DJ:nsIn K mainGlobals "odd_with"=some (some (.ref c7)))
  (Cy:K.lookup c7=some ⟨zG,zA,.func (fnOf "odd_with" "odd_with" (ax eK) (aw eK) (ad eK) .none zW Ah zf AG rL Ap),yZ⟩)
  (Dj:codeIn K rL "odd_with"=true)
  (tW:keepIn K (.ref c7)=true)
  (r9:nsIn K mainGlobals "told_by_looks"=some (some (.ref a9)))
  (qT:K.lookup a9=some ⟨oW,oS,.func (fnOf "told_by_looks" "told_by_looks" (ax cb) (aw cb) (ad cb) .none pd pi oM pC i7 pu),oH⟩)
  (rR:codeIn K i7 "told_by_looks"=true)
  (jq:keepIn K (.ref a9)=true)
  (Lg:nsIn K mainGlobals "least"=some (some (.ref iQ)))
  (KK:K.lookup iQ=some ⟨Hz,Hx,.func (fnOf "least" "least" (ax dP) (aw dP) (ad dP) .none HX Iv Hn IE Bq Ix),G9⟩)
  (K6:codeIn K Bq "least"=true)
  (EZ:keepIn K (.ref iQ)=true)
  (AN:nsIn K mainGlobals "_law_cell"=some (some (.ref cx)))
  (zT:K.lookup cx=some ⟨xn,xi,.func (fnOf "_law_cell" "_law_cell" (ax eN) (aw eN) (ad eN) .none xD x6 wS yx oE yb),wL⟩)
  (AA:codeIn K oE "_law_cell"=true)
  (qh:keepIn K (.ref cx)=true)
  (DM:nsIn K mainGlobals "_law_mix"=some (some (.ref c9)))
  (CB:K.lookup c9=some ⟨zJ,zD,.func (fnOf "_law_mix" "_law_mix" (ax fZ) (aw fZ) (ad fZ) .none zZ Ak zi AJ rO At),y3⟩)
  (Dw:codeIn K rO "_law_mix"=true)
  (tZ:keepIn K (.ref c9)=true)
  (yD:nsIn K mainGlobals "_law_masks"=some (some (.ref bU)))
  (xy:K.lookup bU=some ⟨vo,vh,.func (fnOf "_law_masks" "_law_masks" (ax dH) (aw dH) (ad dH) .none vE vU uQ wo mF v7),uC⟩)
  (ym:codeIn K mF "_law_masks"=true)
  (om:keepIn K (.ref bU)=true)
  (tH:nsIn K mainGlobals "_law_thinned"=some (some (.ref bh)))
  (sN:K.lookup bh=some ⟨qx,qp,.func (fnOf "_law_thinned" "_law_thinned" (ax cD) (aw cD) (ad cD) .none qW rk p9 rY jJ rE),pX⟩)
  (tp:codeIn K jJ "_law_thinned"=true)
  (kz:keepIn K (.ref bh)=true)
  (tI:nsIn K mainGlobals "_law_machine"=some (some (.ref bi)))
  (sO:K.lookup bi=some ⟨qy,qr,.func (fnOf "_law_machine" "_law_machine" (ax bg) (aw bg) (ad bg) .none qX rl qa rZ jK rF),pZ⟩)
  (tq:codeIn K jK "_law_machine"=true)
  (kA:keepIn K (.ref bi)=true)
  (DL:nsIn K mainGlobals "_law_odd"=some (some (.ref c8)))
  (CA:K.lookup c8=some ⟨zI,zC,.func (fnOf "_law_odd" "_law_odd" (ax fY) (aw fY) (ad fY) .none zY Aj zh AI rN Ar),y2⟩)
  (Du:codeIn K rN "_law_odd"=true)
  (tY:keepIn K (.ref c8)=true)
  (AL:nsIn K mainGlobals "_law_turn"=some (some (.ref cv)))
  (zR:K.lookup cv=some ⟨xk,xg,.func (fnOf "_law_turn" "_law_turn" (ax eM) (aw eM) (ad eM) .none xB xZ wQ yv oB x9),wJ⟩)
  (Ay:codeIn K oB "_law_turn"=true)
  (qf:keepIn K (.ref cv)=true)
  (AM:nsIn K mainGlobals "_law_free"=some (some (.ref cw)))
  (zS:K.lookup cw=some ⟨xl,xh,.func (fnOf "_law_free" "_law_free" (ax dA) (aw dA) (ad dA) .none xC x5 wR yw oC ya),wK⟩)
  (Az:codeIn K oC "_law_free"=true)
  (qg:keepIn K (.ref cw)=true)
  (wu:nsIn K mainGlobals "_law_single"=some (some (.ref bD)))
  (vy:K.lookup bD=some ⟨sI,sy,.func (fnOf "_law_single" "_law_single" (ax c2) (aw c2) (ad c2) .none sT tf sr tD kG tj),si⟩)
  (we:codeIn K kG "_law_single"=true)
  (lP:keepIn K (.ref bD)=true)
  (DO:nsIn K mainGlobals "_law_led"=some (some (.ref db)))
  (CC:K.lookup db=some ⟨zK,zE,.func (fnOf "_law_led" "_law_led" (ax gb) (aw gb) (ad gb) .none z6 Al zj AK rP Au),y4⟩)
  (Dx:codeIn K rP "_law_led"=true)
  (t3:keepIn K (.ref db)=true)
  (wv:nsIn K mainGlobals "_law_looked"=some (some (.ref bE)))
  (vz:K.lookup bE=some ⟨sJ,sG,.func (fnOf "_law_looked" "_law_looked" (ax bO) (aw bO) (ad bO) .none sU th ss tG kH tm),sj⟩)
  (wf:codeIn K kH "_law_looked"=true)
  (lQ:keepIn K (.ref bE)=true)
  (yB:nsIn K mainGlobals "_law_whole"=some (some (.ref bR)))
  (xw:K.lookup bR=some ⟨vm,vf,.func (fnOf "_law_whole" "_law_whole" (ax dG) (aw dG) (ad dG) .none vC vS uO wm mD v0),uy⟩)
  (yk:codeIn K mD "_law_whole"=true)
  (oi:keepIn K (.ref bR)=true)
  (yF:nsIn K mainGlobals "_law_lists"=some (some (.ref bW)))
  (xA:K.lookup bW=some ⟨vq,vj,.func (fnOf "_law_lists" "_law_lists" (ax cQ) (aw cQ) (ad cQ) .none vG vW uS wr mH wa),uE⟩)
  (yo:codeIn K mH "_law_lists"=true)
  (ot:keepIn K (.ref bW)=true)
  (yE:nsIn K mainGlobals "_law_looks"=some (some (.ref bV)))
  (xz:K.lookup bV=some ⟨vp,vi,.func (fnOf "_law_looks" "_law_looks" (ax dI) (aw dI) (ad dI) .none vF vV uR wp mG v9),uD⟩)
  (yn:codeIn K mG "_law_looks"=true)
  (oq:keepIn K (.ref bV)=true)
  (yC:nsIn K mainGlobals "_law_paper"=some (some (.ref bT)))
  (xx:K.lookup bT=some ⟨vn,vg,.func (fnOf "_law_paper" "_law_paper" (ax cP) (aw cP) (ad cP) .none vD vT uP wn mE v4),uz⟩)
  (yl:codeIn K mE "_law_paper"=true)
  (oj:keepIn K (.ref bT)=true)
  (Nh:nsIn K mainGlobals "law"=some (some (.ref xX)))
  (N4:K.lookup xX=some ⟨MJ,MI,.func (fnOf "law" "law" (ax zb) (aw zb) (ad zb) .none MP M7 Mu Nf Jw M8),LP⟩)
  (N6:codeIn K Jw "law"=true)
  (MD:keepIn K (.ref xX)=true)
  (tT:plainGet K ai Str.empty=true)
  (tS:hasDictIn K ai=true)
  (tR:plainOver K ai=true)
  (tQ:findIn K (.ref ai) "__setattr__"=some (some (.builtin "object.__setattr__")))
  (B1:findIn K (.ref ai) "__class__"=some (some (.builtin "object.__class__")))
  (B0:mroIn K ai (.type "object")=some true)
  (CW:makesIn K ai=true)
  (CV:findIn K (.ref ai) "__init__"=some (some (.ref aB)))
  (CU:isFn K (.ref aB)=true)
  (CT:keepIn K (.ref ai)=true)
  (nE:findIn K (.ref ai) "stores"=some (some (.ref aI)))
  (nC:isFn K (.ref aI)=true)
  (l0:findIn K (.ref ai) "outputs"=some (some (.ref aF)))
  (lW:isFn K (.ref aF)=true)
  (qL:findIn K (.ref ai) "told"=some (some (.ref aQ)))
  (qI:isFn K (.ref aQ)=true)
  (jg:findIn K (.ref ai) "check_state"=some (some (.ref av)))
  (jf:isFn K (.ref av)=true)
  (qM:findIn K (.ref ai) "step"=some (some (.ref aR)))
  (qJ:isFn K (.ref aR)=true)
  (qN:findIn K (.ref ai) "back"=some (some (.ref aT)))
  (qK:isFn K (.ref aT)=true)
  (o0:findIn K (.ref ai) "by_top"=some none)
  (ju:findIn K (.ref ai) "free_places"=some none)
  (oZ:findIn K (.ref ai) "inputs"=some none)
  (qF:findIn K (.ref ai) "nexts"=some none)
  (ko:findIn K (.ref ai) "null_masks"=some none)
  (sM:findIn K (.ref ai) "outs"=some none)
  (A8:plainGet K aC Str.empty=true)
  (A7:hasDictIn K aC=true)
  (A6:plainOver K aC=true)
  (A5:findIn K (.ref aC) "__setattr__"=some (some (.builtin "object.__setattr__")))
  (Hk:findIn K (.ref aC) "__class__"=some (some (.builtin "object.__class__")))
  (Hj:mroIn K aC (.type "object")=some true)
  (Ip:makesIn K aC=true)
  (Io:findIn K (.ref aC) "__init__"=some (some (.ref aH)))
  (Im:isFn K (.ref aH)=true)
  (Il:keepIn K (.ref aC)=true)
  (o7:findIn K (.ref aC) "lowered"=some (some (.ref aM)))
  (o5:isFn K (.ref aM)=true)
  (xt:findIn K (.ref aC) "lay"=some (some (.ref bJ)))
  (xr:isFn K (.ref bJ)=true)
  (o8:findIn K (.ref aC) "barring"=some (some (.ref aN)))
  (o6:isFn K (.ref aN)=true)
  (sL:findIn K (.ref aC) "by_top"=some none)
  (kW:findIn K (.ref aC) "free_places"=some none)
  (sK:findIn K (.ref aC) "inputs"=some none)
  (vt:findIn K (.ref aC) "nexts"=some none)
  (lV:findIn K (.ref aC) "null_masks"=some none)
  (xp:findIn K (.ref aC) "outs"=some none)
  (w1:specialIn K (.builtin "object.__class__") "__get__"=some (some (.builtin "getset_descriptor.__get__")))
  (w2:takesIn K (.builtin "object.__class__")=some true)
  {bz:Addr} (GB:nsIn K mainGlobals "BadMask"=some (some (.ref bz)))
  {bG:Addr} (DP:nsIn K mainGlobals "BadTable"=some (some (.ref bG)))
  (ij:excIn K bz [.type "ValueError",.type "Exception",.type "BaseException",.type "object"] "ValueError.__new__"=true)
  (BC:isClsIn K bz=true)
  (BB:findIn K (.ref bz) "__getattribute__"=some (some (.builtin "BaseException.__getattribute__")))
  (BA:findIn K (.ref bz) "__getattr__"=some none)
  (Bz:findIn K (.ref bz) "__class__"=some (some (.builtin "object.__class__")))
  (By:mroIn K bz (.type "object")=some true)
  (Bx:mroIn K bz (.type "BaseException")=some true)
  (dF:excIn K bG [.type "ValueError",.type "Exception",.type "BaseException",.type "object"] "ValueError.__new__"=true)
  (yS:isClsIn K bG=true)
  (yR:findIn K (.ref bG) "__getattribute__"=some (some (.builtin "BaseException.__getattribute__")))
  (yQ:findIn K (.ref bG) "__getattr__"=some none)
  (yP:findIn K (.ref bG) "__class__"=some (some (.builtin "object.__class__")))
  (yO:mroIn K bG (.type "object")=some true)
  (yN:mroIn K bG (.type "BaseException")=some true)
  {iK:Tok} (wx:nsIn K mainGlobals "MOST_INPUTS"=some (some (.int 6 iK)))
  {kJ:Tok} (AO:nsIn K mainGlobals "MOST_OUTS"=some (some (.int 6 kJ)))
  {iJ:Tok} (ww:nsIn K mainGlobals "MOST_STORES"=some (some (.int 120 iJ)))
  (Nz:nsIn K mainGlobals "all"=some none)
  (Lq:nsIn K mainGlobals "bool"=some none)
  (GR:nsIn K mainGlobals "divmod"=some none)
  (yM:nsIn K mainGlobals "enumerate"=some none)
  (Ny:nsIn K mainGlobals "int"=some none)
  (wD:nsIn K mainGlobals "isinstance"=some none)
  (Nx:nsIn K mainGlobals "len"=some none)
  (Lp:nsIn K mainGlobals "list"=some none)
  (Nw:nsIn K mainGlobals "max"=some none)
  (JH:nsIn K mainGlobals "range"=some none)
  (GQ:nsIn K mainGlobals "sorted"=some none)
  (Nv:nsIn K mainGlobals "sum"=some none)
  (JG:nsIn K mainGlobals "tuple"=some none)
  (Nu:nsIn K mainGlobals "zip"=some none):
  ∃ fd:FuncData,(∀ (s:Shared) (v:Value),BindsTo s fd ⟨[v],[]⟩ [("_law_script",v)])∧∀ base:Heap,K.In base→base.Ns mainGlobals mg→FnOk l.prog w K mg base CX0 10 fa fd ["_law_script"] (A1 K):=by
 have e:=hfa.symm.trans (mg_of X G Nh)
 cases e
 have ki:=aP (st:=fX) Cz Dp tX
 have kc:=ki.binds (ps:=["thing"]) fun _ _ _ _ _ _ us hl=>match us,hl with | [_],_=>rfl
 have mS:=aP (st:=iq) Fr Gj w8
 have iF:=mS.binds (ps:=["thing","width"]) fun _ _ _ _ _ _ us hl=>match us,hl with | [_,_],_=>rfl
 have Bv:=aP (st:=tO) MN Na Jd
 have um:=Bv.binds (ps:=["number"]) fun _ _ _ _ _ _ us hl=>match us,hl with | [_],_=>rfl
 have mT:=aP (st:=gh) Fs Gm w9
 have mK:=mT.binds (ps:=["mask"]) fun _ _ _ _ _ _ us hl=>match us,hl with | [_],_=>rfl
 have mQ:=aP (st:=io) Fp Gh w4
 have iE:=mQ.binds (ps:=["places"]) fun _ _ _ _ _ _ us hl=>match us,hl with | [_],_=>rfl
 have ke:=aP (st:=eJ) Cw Di tV
 have nX:=ke.binds (ps:=["whole","width","count"]) fun _ _ _ _ _ _ us hl=>match us,hl with | [_,_,_],_=>rfl
 have mR:=aP (st:=ip) Fq Gi w6
 have rX:=mR.binds (ps:=["thing","stores","inputs"]) fun _ _ _ _ _ _ us hl=>match us,hl with | [_,_,_],_=>rfl
 have fT:=aP (st:=cr) vx wc lN
 have iU:=fT.binds (ps:=["inputs","nexts","outs"]) fun _ _ _ _ _ _ us hl=>match us,hl with | [_,_,_],_=>rfl
 have pQ:=aP (st:=jZ) HU IB Ba
 have wj:=pQ.binds (ps:=["pair","state","row"]) fun _ _ _ _ _ _ us hl=>match us,hl with | [_,_,_],_=>rfl
 have gU:=aP (st:=cO) xu yi og
 have gR:=gU.binds (ps:=["pairs","state","row"]) fun _ _ _ _ _ _ us hl=>match us,hl with | [_,_,_],_=>rfl
 have cM:=aP (st:=bp) l6 mI gI
 have cL:=cM.binds (ps:=["self","inputs","nexts","outs"]) fun _ _ _ _ _ _ us hl=>match us,hl with | [_,_,_,_],_=>rfl
 have dz:=aP (st:=bN) pc pB fK
 have bv:=dz.binds (ps:=["self"]) fun _ _ _ _ _ _ us hl=>match us,hl with | [_],_=>rfl
 have de:=aP (st:=bF) nG nW eU
 have dc:=de.binds (ps:=["self"]) fun _ _ _ _ _ _ us hl=>match us,hl with | [_],_=>rfl
 have fq:=aP (st:=cE) sP tu g8
 have dr:=fq.binds (ps:=["self"]) fun _ _ _ _ _ _ us hl=>match us,hl with | [_],_=>rfl
 have b7:=aP (st:=aX) jx jO cS
 have b0:=b7.binds (ps:=["self","state"]) fun _ _ _ _ _ _ us hl=>match us,hl with | [_,_],_=>rfl
 have fu:=aP (st:=cF) sQ tw g9
 have fi:=fu.binds (ps:=["self","state","row"]) fun _ _ _ _ _ _ us hl=>match us,hl with | [_,_,_],_=>rfl
 have fv:=aP (st:=cG) sR tx hU
 have fj:=fv.binds (ps:=["self","mask"]) fun _ _ _ _ _ _ us hl=>match us,hl with | [_,_],_=>rfl
 have dy:=aP (st:=bM) o9 pA i4
 have dw:=dy.binds (ps:=["self","rows"]) fun _ _ _ _ _ _ us hl=>match us,hl with | [_,_],_=>rfl
 have d9:=aP (st:=cc) qU rT gj
 have d6:=d9.binds (ps:=["self","mask"]) fun _ _ _ _ _ _ us hl=>match us,hl with | [_,_],_=>rfl
 have i0:=aP (st:=eQ) zU AB kQ
 have lC:=i0.binds (ps:=["self","place","row"]) fun _ _ _ _ _ _ us hl=>match us,hl with | [_,_,_],_=>rfl
 have eg:=aP (st:=cf) qV rU gm
 have gD:=eg.binds (ps:=["self","bit"]) fun _ _ _ _ _ _ us hl=>match us,hl with | [_,_],_=>rfl
 have Bw:=aP (st:=tP) MO Nb Je
 have Bt:=Bw.binds (ps:=["rows"]) fun _ _ _ _ _ _ us hl=>match us,hl with | [_],_=>rfl
 have mO:=aP (st:=ik) Fn Gf wX
 have rV:=mO.binds (ps:=["rows","wish"]) fun _ _ _ _ _ _ us hl=>match us,hl with | [_,_],_=>rfl
 have wB:=aP (st:=jn) KJ K5 EY
 have AE:=wB.binds (ps:=["machine","turns"]) fun _ _ _ _ _ _ us hl=>match us,hl with | [_,_],_=>rfl
 have mP:=aP (st:=il) Fo Gg wZ
 have rW:=mP.binds (ps:=["machine","places","turns"]) fun _ _ _ _ _ _ us hl=>match us,hl with | [_,_,_],_=>rfl
 have gW:=aP (st:=cn) xv yj oh
 have jP:=gW.binds (ps:=["machine"]) fun _ _ _ _ _ _ us hl=>match us,hl with | [_],_=>rfl
 have kg:=aP (st:=eK) Cy Dj tW
 have gd:=kg.binds (ps:=["mask","others"]) fun _ _ _ _ _ _ us hl=>match us,hl with | [_,_],_=>rfl
 have d8:=aP (st:=cb) qT rR jq
 have d5:=d8.binds (ps:=["pair","states","seen"]) fun _ _ _ _ _ _ us hl=>match us,hl with | [_,_,_],_=>rfl
 have wC:=aP (st:=dP) KK K6 EZ
 have wg:=wC.binds (ps:=["machine"]) fun _ _ _ _ _ _ us hl=>match us,hl with | [_],_=>rfl
 have iZ:=aP (st:=eN) zT AA qh
 have b9:=iZ.binds (ps:=["_law_script","_law_k"]) fun _ _ _ _ _ _ us hl=>match us,hl with | [_,_],_=>rfl
 have kl:=aP (st:=fZ) CB Dw tZ
 have cj:=kl.binds (ps:=["_law_cell_here","_law_k"]) fun _ _ _ _ _ _ us hl=>match us,hl with | [_,_],_=>rfl
 have gZ:=aP (st:=dH) xy ym om
 have dL:=gZ.binds (ps:=["_law_cell_here","_law_start","_law_many","_law_width","_law_digits"]) fun _ _ _ _ _ _ us hl=>match us,hl with | [_,_,_,_,_],_=>rfl
 have fk:=aP (st:=cD) sN tp kz
 have ib:=fk.binds (ps:=["_law_masks_here","_law_cell_here","_law_start","_law_way"]) fun _ _ _ _ _ _ us hl=>match us,hl with | [_,_,_,_],_=>rfl
 have fm:=aP (st:=bg) sO tq kA
 have ie:=fm.binds (ps:=["_law_script","_law_start","_law_most"]) fun _ _ _ _ _ _ us hl=>match us,hl with | [_,_,_],_=>rfl
 have kj:=aP (st:=fY) CA Du tY
 have ge:=kj.binds (ps:=["_law_number"]) fun _ _ _ _ _ _ us hl=>match us,hl with | [_],_=>rfl
 have iX:=aP (st:=eM) zR Ay qf
 have gC:=iX.binds (ps:=["_law_tables","_law_state","_law_row"]) fun _ _ _ _ _ _ us hl=>match us,hl with | [_,_,_],_=>rfl
 have iY:=aP (st:=dA) zS Az qg
 have lw:=iY.binds (ps:=["_law_rows"]) fun _ _ _ _ _ _ us hl=>match us,hl with | [_],_=>rfl
 have fU:=aP (st:=c2) vy we lP
 have fS:=fU.binds (ps:=["_law_tables","_law_which","_law_turns"]) fun _ _ _ _ _ _ us hl=>match us,hl with | [_,_,_],_=>rfl
 have km:=aP (st:=gb) CC Dx t3
 have nY:=km.binds (ps:=["_law_tables","_law_rows"]) fun _ _ _ _ _ _ us hl=>match us,hl with | [_,_],_=>rfl
 have fV:=aP (st:=bO) vz wf lQ
 have iV:=fV.binds (ps:=["_law_tables","_law_state","_law_looks_here"]) fun _ _ _ _ _ _ us hl=>match us,hl with | [_,_,_],_=>rfl
 have gX:=aP (st:=dG) xw yk oi
 have fH:=gX.binds (ps:=["_law_thing","_law_most"]) fun _ _ _ _ _ _ us hl=>match us,hl with | [_,_],_=>rfl
 have g5:=aP (st:=cQ) xA yo ot
 have jS:=g5.binds (ps:=["_law_rows","_law_tables","_law_many"]) fun _ _ _ _ _ _ us hl=>match us,hl with | [_,_,_],_=>rfl
 have g0:=aP (st:=dI) xz yn oq
 have jR:=g0.binds (ps:=["_law_looks_here","_law_tables","_law_many"]) fun _ _ _ _ _ _ us hl=>match us,hl with | [_,_,_],_=>rfl
 have gY:=aP (st:=cP) xx yl oj
 have jQ:=gY.binds (ps:=["_law_tables","_law_told"]) fun _ _ _ _ _ _ us hl=>match us,hl with | [_,_],_=>rfl
 have IH:=aP (st:=zb) N4 N6 MD
 have Nd:=IH.binds (ps:=["_law_script"]) fun _ _ _ _ _ _ us hl=>match us,hl with | [_],_=>rfl
 have T:Tx K mg ⟨ci,_,dq,_,mm,_,d3,_,dZ,_,c6,_,d0,_,bC,_,fQ,_,bP,_,aB,_,aI,_,aF,_,aQ,_,av,_,aR,_,aT,_,aH,_,aM,_,bJ,_,aN,_,mq,_,dX,_,iP,_,dY,_,bQ,_,c7,_,a9,_,iQ,_,cx,_,c9,_,bU,_,bh,_,bi,_,c8,_,cv,_,cw,_,bD,_,db,_,bE,_,bR,_,bW,_,bV,_,bT,_,fa,_,ai,aC,bz,bG,_,_,_⟩:=⟨ki,tX,kc,mg_of X G DK,mS,w8,iF,mg_of X G Gy,Bv,Jd,um,mg_of X G Ni,mT,w9,mK,mg_of X G Gz,mQ,w4,iE,mg_of X G Gw,ke,tV,nX,mg_of X G DI,mR,w6,rX,mg_of X G Gx,fT,lN,iU,mg_of X G wt,pQ,Ba,wj,mg_of X G IF,gU,og,gR,mg_of X G yz,cM,gI,cL,dz,fK,bv,de,eU,dc,fq,g8,dr,b7,cS,b0,fu,g9,fi,fv,hU,fj,dy,i4,dw,d9,gj,d6,i0,kQ,lC,eg,gm,gD,Bw,Je,Bt,mg_of X G Nj,mO,wX,rV,mg_of X G Gu,wB,EY,AE,mg_of X G Lf,mP,wZ,rW,mg_of X G Gv,gW,oh,jP,mg_of X G yA,kg,tW,gd,mg_of X G DJ,d8,jq,d5,mg_of X G r9,wC,EZ,wg,mg_of X G Lg,iZ,qh,b9,mg_of X G AN,kl,tZ,cj,mg_of X G DM,gZ,om,dL,mg_of X G yD,fk,kz,ib,mg_of X G tH,fm,kA,ie,mg_of X G tI,kj,tY,ge,mg_of X G DL,iX,qf,gC,mg_of X G AL,iY,qg,lw,mg_of X G AM,fU,lP,fS,mg_of X G wu,km,t3,nY,mg_of X G DO,fV,lQ,iV,mg_of X G wv,gX,oi,fH,mg_of X G yB,g5,ot,jS,mg_of X G yF,g0,oq,jR,mg_of X G yE,gY,oj,jQ,mg_of X G yC,IH,MD,Nd,mg_of X G Nh,mg_of X G GA,⟨tT,tS,tR,tQ⟩,⟨⟨tT,tS,tR,tQ⟩,B1,w1,w2,B0⟩,⟨CW,CV,CU,CT⟩,⟨nE,nC,fK⟩,⟨l0,lW,eU⟩,⟨qL,qI,g8⟩,⟨jg,jf,cS⟩,⟨qM,qJ,g9⟩,⟨qN,qK,hU⟩,o0,ju,oZ,qF,ko,sM,mg_of X G Lh,⟨A8,A7,A6,A5⟩,⟨⟨A8,A7,A6,A5⟩,Hk,w1,w2,Hj⟩,⟨Ip,Io,Im,Il⟩,⟨o7,o5,gj⟩,⟨xt,xr,kQ⟩,⟨o8,o6,gm⟩,sL,kW,sK,vt,lV,xp,mg_of X G GB,ij,⟨BC,BB,BA,Bz,w1,w2,By,Bx⟩,mg_of X G DP,dF,⟨yS,yR,yQ,yP,w1,w2,yO,yN⟩,mg_of X G wx,mg_of X G AO,mg_of X G ww,mg_none_of X G Nz,mg_none_of X G Lq,mg_none_of X G GR,mg_none_of X G yM,mg_none_of X G Ny,mg_none_of X G wD,mg_none_of X G Nx,mg_none_of X G Lp,mg_none_of X G Nw,mg_none_of X G JH,mg_none_of X G GQ,mg_none_of X G Nv,mg_none_of X G JG,mg_none_of X G Nu⟩
 exact ⟨_,fun s v=> .of_eq rfl,fun base _ _=>MG T⟩
open PySem.W in
theorem walk {l:OpenLaw} {q:Program} {loose:List Str} {XP:(Str→Option Value)→Heap→Prop} {YP:World→Heap→Prop} {d:DefRec} {K:Params→Frag} (hn:l.most=some 63) (hdf:d.params.defaults=[])
  (hY:∀ (w:World) (h:Heap),YP w h→(K w.params).In h)
  (F:∀ (w:World) (mg:Str→Option Value) (fa:Addr) (h:Heap),(K w.params).In h→h.Ns mainGlobals mg→mg d.name=some (.ref fa)→
   ∃ fd:FuncData,(∀ (s:Shared) (u:Value),BindsTo s fd ⟨[u],[]⟩ [("_law_script",u)])∧∀ base:Heap,(K w.params).In base→base.Ns mainGlobals mg→FnOk l.prog w (K w.params) mg base CX0 10 fa fd ["_law_script"] (A1 (K w.params))):
  WalkO q loose XP YP l.row.toRowW d [] (fun f vs=>PySem.call f vs):=
 L2.walk_of (n:=63) (k:=10) (x:="_law_script") (CX:=fun _=>CX0) (sp:=fun w=>A1 (K w.params)) hn (by decide) hdf ⟨rfl,by decide,by decide⟩ hY F (fun _ _ a ns hl _ hS=>⟨a,ns,rfl,hS,hl,fun _=>rfl⟩) fun _ _ _ _ _ z=>z
end My
def PySem.W.Fast.tw1262508175747362991:Unit:=()
def PySem.W.Fast.tw5628412993329610679:Unit:=()
def PySem.W.Fast.tw15258410103503345145:Unit:=()
def PySem.W.Fast.tw12678012366385969844:Unit:=()
def PySem.W.Fast.tw17170623174019344510:Unit:=()
def PySem.W.Fast.tw8087419670535250922:Unit:=()
def PySem.W.Fast.tw17957207242336473292:Unit:=()
def PySem.W.Fast.tw8576108444351989995:Unit:=()
def PySem.W.Fast.tw15220719126115032768:Unit:=()
def PySem.W.Fast.tw14316654011321078778:Unit:=()
def PySem.W.Fast.tw17868091216512627342:Unit:=()
def PySem.W.Fast.tw1930626243972772157:Unit:=()
def PySem.W.Fast.tw11347645488924889705:Unit:=()
def PySem.W.Fast.tw1529783493063479071:Unit:=()
def PySem.W.Fast.tw4565378843184041359:Unit:=()
def PySem.W.Fast.tw12113007655075956224:Unit:=()
def PySem.W.Fast.tw13176944630259625250:Unit:=()
def PySem.W.Fast.tw1260665109558196659:Unit:=()
def PySem.W.Fast.tw16070722532134995173:Unit:=()
def PySem.W.Fast.tw9947886869210141109:Unit:=()
def PySem.W.Fast.tw5297312464986618894:Unit:=()
def PySem.W.Fast.tw10648694897153377063:Unit:=()
def PySem.W.Fast.tw6672688811599942304:Unit:=()
def PySem.W.Fast.tw16829483816308187921:Unit:=()
def PySem.W.Fast.tw6736393291493064153:Unit:=()
def PySem.W.Fast.tw4772313554057381588:Unit:=()
def PySem.W.Fast.tw1356173679911067555:Unit:=()
def PySem.W.Fast.tw4222755370660736217:Unit:=()
def PySem.W.Fast.tw7303821778348764860:Unit:=()
def PySem.W.Fast.tw17733037135747144778:Unit:=()
def PySem.W.Fast.tw10624331313843474100:Unit:=()
def PySem.W.Fast.tw4239211596018117305:Unit:=()
def PySem.W.Fast.tw652161681749613548:Unit:=()
def PySem.W.Fast.tw14778868047912408742:Unit:=()
def PySem.W.Fast.tw14948610718706113446:Unit:=()
def PySem.W.Fast.tw2730486887741432301:Unit:=()
def PySem.W.Fast.tw3471184734109690960:Unit:=()
def PySem.W.Fast.tw15682698490441984949:Unit:=()
open PySem PySem.W PyProof.Rows
set_option maxRecDepth 100000 in
set_option maxHeartbeats 0 in
theorem PySem.Challenge.cw_sumwires_k61_least_machines_and_why_holds : PySem.Challenge.rw_sumwires_k61_least_machines_and_why.Holds := by
 w_on;o_law;k_head;(case hw=>w_witness2)
 k_fill
 refine My.walk (l:=PySem.Challenge.rw_sumwires_k61_least_machines_and_why) rfl rfl (fun w h Y=>PySem.W.kIn_of Y) ?F
 case F=>
  intro w mg fa h KX G hmg
  refine' My.all_mk KX G hmg _ _ _ _ _ _ _ _ _ _ _ _ _ _ _ _ _ _ _ _ _ _ _ _ _ _ _ _ _ _ _ _ _ _ _ _ _ _ _ _ _ _ _ _ _ _ _ _ _ _ _ _ _ _ _ _ _ _ _ _ _ _ _ _ _ _ _ _ _ _ _ _ _ _ _ _ _ _ _ _ _ _ _ _ _ _ _ _ _ _ _ _ _ _ _ _ _ _ _ _ _ _ _ _ _ _ _ _ _ _ _ _ _ _ _ _ _ _ _ _ _ _ _ _ _ _ _ _ _ _ _ _ _ _ _ _ _ _ _ _ _ _ _ _ _ _ _ _ _ _ _ _ _ _ _ _ _ _ _ _ _ _ _ _ _ _ _ _ _ _ _ _ _ _ _ _ _ _ _ _ _ _ _ _ _ _ _ _ _ _ _ _ _ _ _ _ _ _ _ _ _ _ _ _ _ _ _ _ _ _ _ _ _ _ _ _ _ _ _ _ _ _ _ _ _ _ _ _ _ _ _ _ _ _ _ _ ?ij _ _ _ _ _ _ ?dF _ _ _ _ _ _ _ _ _ _ _ _ _ _ _ _ _ _ _ _ _ _ _
  any_goals ((with_reducible show _=_);k_is)
  (case ij=>k_exc)
  (case dF=>k_exc)
