import PyProof.Rows.All
import Wide.All
import OpenK.AllK
import Wide.FinOn
import Lean
import PyProof.EqAt
import PyProof.EqKinds
import PyProof.TupleCall
import PyProof.NeKinds
import KE.KIsAll
import PyProof.RulesAs
import PyProof.StationsW
import PyProof.ExcClass2
import OpenK.KOwn
import PyProof.NsDelKeeps
import PyProof.ExcAttrAll.ValueError
import KE.KDictList
import KE.KSorted
import PyProof.SumAny
import PyProof.WalkInts
import PyProof.EnumMake
import KE.KItemsList
import KE.KRevIter
import PyProof.ExcInit
import PyProof.InstStoreFacts
import PyProof.IsRules
import KE.KDictOf
import PyProof.AttrMissHeap
import PyProof.MinMaxWalk
import PyProof.DictIter
import PyProof.ExcClass
import PyProof.StrLawsChain
import PyProof.StrLawsTight
import PySem.Challenge.RW_sumwires_k15_written_and_read
set_option Elab.async false
set_option linter.all false
set_option maxRecDepth 100000
namespace L2
open PySem PySem.Spec PyProof.Rows
noncomputable abbrev Key:=Sum Int Str
noncomputable def y3:Key→Value→Bool
 | .inl k,v=>Value.isInt k v
 | .inr x,v=>Value.isStrOf x v
noncomputable def keyH (w:World):Key→Int
 | .inl k=>hashInt k
 | .inr x=>hashStr w x
theorem bV:∀ {k:Key} {v:Value},y3 k v=true→(∃ i t,k=Sum.inl i∧v=Value.int i t)∨(∃ x t,k=Sum.inr x∧v=Value.str x t)
 | .inl i,v,h=>by
   obtain ⟨t,e⟩:=Value.isInt_shape (k:=i) (v:=v) h
   exact .inl ⟨i,t,rfl,e⟩
 | .inr x,v,h=>by
   obtain ⟨t,e⟩:=Value.isStrOf_shape (x:=x) (v:=v) h
   exact .inr ⟨x,t,rfl,e⟩
theorem A5 (i:Int) (t:Tok):y3 (.inl i) (.int i t)=true:=by simp [y3,Value.isInt]
theorem AZ (x:Str) (t:Tok):y3 (.inr x) (.str x t)=true:=by simp [y3,Value.isStrOf]
theorem GE (a b:Int):decide ((Sum.inl a:Key)=Sum.inl b)=(a == b):=by
 by_cases e:a=b
 ·subst e;simp
 ·have h:¬ (Sum.inl a:Key)=Sum.inl b:=fun q=>e (Sum.inl.inj q)
  rw [decide_eq_false h]
  exact (beq_eq_false_iff_ne.mpr e).symm
theorem GB (a b:Str):decide ((Sum.inr a:Key)=Sum.inr b)=decide (a=b):=by
 by_cases e:a=b
 ·subst e;simp
 ·have h:¬ (Sum.inr a:Key)=Sum.inr b:=fun q=>e (Sum.inr.inj q)
  rw [decide_eq_false h,decide_eq_false e]
theorem GD (a:Int) (b:Str):decide ((Sum.inl a:Key)=Sum.inr b)=false:=decide_eq_false (fun q=>nomatch q)
theorem GC (a:Str) (b:Int):decide ((Sum.inr a:Key)=Sum.inl b)=false:=decide_eq_false (fun q=>nomatch q)
noncomputable def cD (prog:Program) (w:World):PySem.KeyKind prog w Key where
 is:=y3
 hash:=keyH w
 inj:=fun v a b ha hb=>by
  rcases bV ha with ⟨i,t,rfl,rfl⟩ | ⟨x,t,rfl,rfl⟩
  ·rcases bV hb with ⟨j,u,rfl,e⟩ | ⟨y,u,rfl,e⟩
   ·injection e with e1 _;rw [e1]
   ·exact nomatch e
  ·rcases bV hb with ⟨j,u,rfl,e⟩ | ⟨y,u,rfl,e⟩
   ·exact nomatch e
   ·injection e with e1 _;rw [e1]
 byValue:=fun k v h=>by
  rcases bV h with ⟨i,t,rfl,rfl⟩ | ⟨x,t,rfl,rfl⟩<;>rfl
 pyHash:=fun hv h=>by
  rcases bV hv with ⟨i,t,rfl,rfl⟩ | ⟨x,t,rfl,rfl⟩
  ·exact wpAny_pyHash_int h
  ·exact wpAny_pyHash_str h
 eqBool:=fun hu hv h=>by
  rcases bV hu with ⟨i,t,rfl,rfl⟩ | ⟨x,t,rfl,rfl⟩
  ·rcases bV hv with ⟨j,u,rfl,rfl⟩ | ⟨y,u,rfl,rfl⟩
   ·rw [GE] at h;exact wpAny_eqBool_int h
   ·rw [GD] at h;exact SeqAt.EqAt.int_str i t y u _ _ _ _ h
  ·rcases bV hv with ⟨j,u,rfl,rfl⟩ | ⟨y,u,rfl,rfl⟩
   ·rw [GC] at h;exact SeqAt.EqAt.str_int x t j u _ _ _ _ h
   ·rw [GB] at h;exact wpAny_eqBool_str h
 «strs»:=fun k x t v h=>by
  rcases bV h with ⟨i,u,rfl,e⟩ | ⟨y,u,rfl,e⟩
  ·exact nomatch e
  ·injection e with e1 _
   subst e1
   cases v<;>rfl
theorem vY (prog:Program) (w:World) (i:Int) (t:Tok):(cD prog w).is (.inl i) (.int i t)=true:=A5 i t
theorem vX (prog:Program) (w:World) (x:Str) (t:Tok):(cD prog w).is (.inr x) (.str x t)=true:=AZ x t
inductive V where
 | non | bl (b:Bool) | int (i:Int) | str (x:Str) | byt (b:Array UInt8) | flt (b:UInt64) | ref (a:Addr) | ty (n:String)
 deriving DecidableEq
noncomputable def RelV:V→Value→Prop
 | .non,u=>u=Value.none
 | .bl b,u=>u=Value.bool b
 | .int i,u=>∃ t,u=Value.int i t
 | .str x,u=>∃ t,u=Value.str x t
 | .byt b,u=>∃ t,u=Value.bytes b t
 | .flt b,u=>∃ t,u=Value.float b t
 | .ref a,u=>u=Value.ref a
 | .ty n,u=>u=Value.type n
noncomputable abbrev Vals:List V→List Value→Prop:=Paired RelV
theorem Vals.length {xs:List V} {us:List Value} (r:Vals xs us):xs.length=us.length:=Paired.length r
theorem Vals.get:∀ {xs:List V} {us:List Value} {i:Nat} {x:V},Vals xs us→xs[i]? =some x→∃ u,us[i]? =some u∧RelV x u
 | _,_,_,_,.nil,e=>by simp at e
 | _,_,0,_,.cons r _,e=>by simp at e;subst e;exact ⟨_,rfl,r⟩
 | _,_,i + 1,x,.cons _ t,e=>by
   obtain ⟨u,h1,h2⟩:=Vals.get (i:=i) (x:=x) t (by simpa using e)
   exact ⟨u,by simpa using h1,h2⟩
theorem Vals.append:∀ {xs ys:List V} {us ws:List Value},Vals xs us→Vals ys ws→Vals (xs++ys) (us++ws)
 | _,_,_,_,.nil,s=>s
 | _,_,_,_,.cons r t,s=> .cons r (Vals.append t s)
theorem Vals.take:∀ {xs:List V} {us:List Value} (n:Nat),Vals xs us→Vals (xs.take n) (us.take n)
 | _,_,0,_=> .nil
 | _,_,_ + 1,.nil=> .nil
 | _,_,n + 1,.cons r t=> .cons r (Vals.take n t)
theorem Vals.drop:∀ {xs:List V} {us:List Value} (n:Nat),Vals xs us→Vals (xs.drop n) (us.drop n)
 | _,_,0,r=>r
 | _,_,_ + 1,.nil=> .nil
 | _,_,n + 1,.cons _ t=>Vals.drop n t
noncomputable def RelO:Option V→Option Value→Prop
 | some v,some u=>RelV v u
 | none,none=>True
 | _,_=>False
noncomputable def KV {κ:Type}:List (κ×V)→List (κ×Value)→Prop:=Paired fun (p:κ×V) (q:κ×Value)=>p.1=q.1∧RelV p.2 q.2
noncomputable def kV:Key→V
 | .inl i=> .int i
 | .inr x=> .str x
inductive HO where
 | lst (xs:List V)
 | tup (xs:List V)
 | dK (kvs:List (Key×V)) | dT (kvs:List (List Key×V))
 | set (S:Int→Bool) (n:Nat)
 | ins (C dx:Addr) (fs:List (Str×V))
 | own (x:Addr)
 | xd (fs:List (Str×V))
 | met (f x:Addr)
 | rng (lo hi:Int)
 | frz (o:Obj) (u:HO)
 | tbl (ps:Array Value)
 | ext (φ:Heap→Prop)
noncomputable abbrev Hp:=Addr→Option HO
noncomputable def upd (H:Hp) (a:Addr) (o:HO):Hp:=fun b=>if b=a then some o else H b
theorem al {H:Hp} {a:Addr} {o:HO}:upd H a o a=some o:=by unfold upd;rw [if_pos rfl]
theorem aq {H:Hp} {a b:Addr} {o:HO} (h:b≠a):upd H a o b=H b:=by unfold upd;rw [if_neg h]
theorem fz {H:Hp} {a b:Addr} {o u:HO} (h:H a=some o) (h':H b=some u) (d:o≠u):a≠b:=by
 intro e;subst e;rw [h] at h';exact d (Option.some.inj h')
theorem ah {H:Hp} {a b:Addr} {o:HO} (h:H a=some o) (h':H b=none):a≠b:=by
 intro e;subst e;rw [h] at h';cases h'
section
variable (P:Program) (w:World)
noncomputable def dI (H:Hp) (h:Heap) (a:Addr):HO→Prop
 | .lst xs=>xs.length≤sizeLine∧∃ (its:List Value) (n:Nat),Vals xs its∧h.get? a=some {cls:= .type "list",data:= .seq its.toArray n}
 | .tup xs=>xs.length≤sizeLine∧∃ its:List Value,Vals xs its∧IsTup h a its.toArray
 | .dK kvs=>kvs.length≤sizeLine∧(a == sysModules)=false∧∃ vs,KV kvs vs∧h.DictOf (cD P w) a vs
 | .dT kvs=>kvs.length≤sizeLine∧(a == sysModules)=false∧∃ xs:List (List Key×Addr×Value),
   Paired (fun (p:List Key×V) (q:List Key×Addr×Value)=>p.1=q.1∧H q.2.1=some (.tup (p.1.map kV))∧RelV p.2 q.2.2) kvs xs∧
   ∃ o es ep,h.get? a=some o∧o.ExactDict∧o.data= .dict es ep∧es.toList=xs.map (entryOfKey (tupleKind (cD P w)))∧(xs.map (·.1)).Nodup
 | .set S n=>h.SetOf (intKind P w) a S n
 | .ins C dx fs=>H dx=some (.own a)∧fs.length≤1000∧dx≠a∧h.get? a=some (PySem.W.instObj C dx)∧
   ∃ mA,h.Ns1 dx mA∧(∀ f,RelO (fs.lookup f) (mA f))∧PySem.Within mA (fs.map (·.1))
 | .own _=>∃ o,h.get? a=some o
 | .xd fs=>∃ mA,h.Ns1 a mA∧∀ f,RelO (fs.lookup f) (mA f)
 | .rng lo hi=>∃ t u v,h.get? a=some {cls:= .type "range",data:= .fields #[.int lo t,.int hi u,.int 1 v]}
 | .frz o u=>h.get? a=some o∧dI H h a u
 | .tbl ps=>h.get? a=some {cls:= .none,data:= .fields ps}
 | .met f x=>h.get? a=some (PySem.W.methodObj (.ref f) (.ref x))
 | .ext φ=>φ h∧(∃ o,h.get? a=some o)∧∀ h1 h2:Heap,φ h1→(∀ o,h1.get? a=some o→h2.get? a=some o)→φ h2
noncomputable def HOk (H:Hp) (h:Heap):Prop:=∀ a o,H a=some o→dI P w H h a o
end
section
variable {P:Program} {w:World} {H H':Hp} {h h':Heap} {a:Addr} {o:HO}
theorem dI.lt (x:dI P w H h a o):a < h.objs.size:=by
 cases o with
 | lst xs=>obtain ⟨_,_,_,_,e⟩:=x;exact Heap.lt_size e
 | tup xs=>obtain ⟨_,_,_,p⟩:=x;exact p.lt
 | dK kvs=>obtain ⟨_,_,_,_,o,_,_,e,_⟩:=x;exact Heap.lt_size e
 | dT kvs=>obtain ⟨_,_,_,_,o,_,_,e,_⟩:=x;exact Heap.lt_size e
 | set S n=>obtain ⟨o,_,_,_,e,_⟩:=x;exact Heap.lt_size e
 | ins C dx fs=>obtain ⟨_,_,_,e,_⟩:=x;exact Heap.lt_size e
 | own y=>obtain ⟨_,e⟩:=x;exact Heap.lt_size e
 | xd fs=>obtain ⟨_,⟨_,_,_,e,_⟩,_⟩:=x;exact Heap.lt_size e
 | rng lo hi=>obtain ⟨_,_,_,e⟩:=x;exact Heap.lt_size e
 | frz ob u=>obtain ⟨e,_⟩:=x;exact Heap.lt_size e
 | tbl ps=>exact Heap.lt_size (show h.get? a=some _ from x)
 | met f y=>exact Heap.lt_size (show h.get? a=some _ from x)
 | ext φ=>obtain ⟨_,⟨_,e⟩,_⟩:=x;exact Heap.lt_size e
theorem Paired.mapP {α β:Type} {F G:α→β→Prop}:∀ {l₁:List α} {l₂:List β},Paired F l₁ l₂→(∀ a b,F a b→G a b)→Paired G l₁ l₂
 | _,_,.nil,_=> .nil
 | _,_,.cons r t,f=> .cons (f _ _ r) (Paired.mapP t f)
theorem dI.stay (x:dI P w H h a o) (k:∀ b u,(b=a∨H b=some (.own a))→h.get? b=some u→h'.get? b=some u)
  (ho:∀ b,H b=some (.own a)→H' b=some (.own a)) (ht:∀ b xs,H b=some (.tup xs)→H' b=some (.tup xs)):dI P w H' h' a o:=by
 induction o with
 | lst xs=>obtain ⟨z,its,n,r,e⟩:=x;exact ⟨z,its,n,r,k _ _ (.inl rfl) e⟩
 | tup xs=>obtain ⟨z,its,r,ob,e,c⟩:=x;exact ⟨z,its,r,ob,k _ _ (.inl rfl) e,c⟩
 | dK kvs=>obtain ⟨z,y,vs,r,ob,es,ep,e,c⟩:=x;exact ⟨z,y,vs,r,ob,es,ep,k _ _ (.inl rfl) e,c⟩
 | dT kvs=>
   obtain ⟨z,y,xs,r,ob,es,ep,e,c⟩:=x
   exact ⟨z,y,xs,Paired.mapP r fun p q z=>⟨z.1,ht _ _ z.2.1,z.2.2⟩,ob,es,ep,k _ _ (.inl rfl) e,c⟩
 | set S n=>obtain ⟨ob,es,ep,t,e,c⟩:=x;exact ⟨ob,es,ep,t,k _ _ (.inl rfl) e,c⟩
 | ins C dx fs=>
   obtain ⟨d,z,ne,e,mA,⟨od,es,ep,e2,c⟩,r⟩:=x
   exact ⟨ho _ d,z,ne,k _ _ (.inl rfl) e,mA,⟨od,es,ep,k _ _ (.inr d) e2,c⟩,r⟩
 | own y=>obtain ⟨ob,e⟩:=x;exact ⟨ob,k _ _ (.inl rfl) e⟩
 | xd fs=>obtain ⟨mA,⟨od,es,ep,e,c⟩,r⟩:=x;exact ⟨mA,⟨od,es,ep,k _ _ (.inl rfl) e,c⟩,r⟩
 | rng lo hi=>obtain ⟨t,u,v,e⟩:=x;exact ⟨t,u,v,k _ _ (.inl rfl) e⟩
 | frz ob u ih=>obtain ⟨e,q⟩:=x;exact ⟨k _ _ (.inl rfl) e,ih q⟩
 | tbl ps=>
   have e:h.get? a=some {cls:= .none,data:= .fields ps}:=x
   show h'.get? a=some {cls:= .none,data:= .fields ps}
   exact k a _ (.inl rfl) e
 | met f y=>
   have e:h.get? a=some (PySem.W.methodObj (.ref f) (.ref y)):=x
   show h'.get? a=some (PySem.W.methodObj (.ref f) (.ref y))
   exact k a _ (.inl rfl) e
 | ext φ=>obtain ⟨p,⟨o,e⟩,st⟩:=x;exact ⟨st _ _ p fun o q=>k _ _ (.inl rfl) q,⟨o,k _ _ (.inl rfl) e⟩,st⟩
theorem HOk.lt (x:HOk P w H h) (e:H a=some o):a < h.objs.size:=(x a o e).lt
theorem HOk.fresh (x:HOk P w H h) (e:h.objs.size≤a):H a=none:=by
 cases q:H a with
 | none=>rfl
 | some u=>exact absurd (Nat.lt_of_lt_of_le (x.lt q) e) (Nat.lt_irrefl _)
theorem HOk.kept (x:HOk P w H h) (k:∀ b u,h.get? b=some u→h'.get? b=some u):HOk P w H h':=fun a o e=>
 (x a o e).stay (fun b u _ q=>k b u q) (fun _ q=>q) fun _ _ q=>q
theorem HOk.laid (x:HOk P w H h) (k:∀ b u,h.get? b=some u→h'.get? b=some u) (hp:h.objs.size≤a) (new:dI P w (upd H a o) h' a o):HOk P w (upd H a o) h':=fun b u e=>by
 have hn:=x.fresh hp
 by_cases hb:b=a
 ·subst hb;rw [al] at e;cases e;exact new
 ·rw [aq hb] at e
  exact (x b u e).stay (fun c v _ q=>k c v q) (fun c q=>by rw [aq (ah q hn)];exact q) fun c xs q=>by rw [aq (ah q hn)];exact q
end
noncomputable def Rd (H:Hp) (a:Addr) (u:HO):Prop:=H a=some u∨∃ o,H a=some (.frz o u)
theorem Rd.ok {P:Program} {w:World} {H:Hp} {h:Heap} {a:Addr} {u:HO} (r:Rd H a u) (x:HOk P w H h):dI P w H h a u:=by
 rcases r with r | ⟨o,r⟩
 ·exact x a u r
 ·obtain ⟨_,q⟩:=x a _ r
  exact q
noncomputable def Mut:Option HO→Prop
 | some (.lst _)=>True
 | some (.dK _)=>True
 | some (.dT _)=>True
 | some (.set _ _)=>True
 | some (.ins _ _ _)=>True
 | some (.ext _)=>True
 | _=>False
section
variable {P:Program} {w:World} {H:Hp} {h h':Heap} {x e:Addr} {o':HO}
theorem HOk.write (ok:HOk P w H h) (mu:Mut (H x)) (he:e=x∨H e=some (.own x)) (k:∀ b u,b≠e→h.get? b=some u→h'.get? b=some u) (heo:∃ u,h'.get? e=some u)
  (new:dI P w (upd H x o') h' x o'):HOk P w (upd H x o') h':=fun b u q=>by
 have nown:∀ c y,H c=some (.own y)→c≠x:=fun c y r z=>by subst z;rw [r] at mu;exact mu
 have ntup:∀ c xs,H c=some (.tup xs)→c≠x:=fun c xs r z=>by subst z;rw [r] at mu;exact mu
 by_cases hb:b=x
 ·subst hb;rw [al] at q;cases q;exact new
 ·rw [aq hb] at q
  by_cases hbe:b=e
  ·have q':H b=some (.own x):=by
    rcases he with z | z
    ·exact absurd (hbe.trans z) hb
    ·rw [hbe];exact z
   rw [q] at q';cases q'
   obtain ⟨v,hv⟩:=heo
   exact ⟨v,by rw [hbe];exact hv⟩
  ·refine (ok b u q).stay (fun c v hc r=>k c v ?_ r) (fun c r=>by rw [aq (nown c b r)];exact r) fun c xs r=>by rw [aq (ntup c xs r)];exact r
   rcases hc with rfl | hc
   ·exact hbe
   ·rintro rfl
    rcases he with z | z
    ·exact nown c b hc z
    ·rw [hc] at z;cases z;exact hb rfl
end
structure Un (fs ex:List Addr) (H H':Hp) (h h':Heap):Prop where
 keep:∀ b o,h.get? b=some o→H b=none→b∉fs→b∉ex→h'.get? b=some o
 slot:∀ b o,h.get? b=some o→H b=none→b∈fs→b∉ex→∃ sl,h'.get? b=some {o with slots:=sl}
 free:∀ b o,h.get? b=some o→H b=none→b∉ex→H' b=none
 there:∀ b o,h.get? b=some o→b∉ex→∃ o',h'.get? b=some o'
 tups:∀ b xs,H b=some (.tup xs)→H' b=some (.tup xs)
 frzs:∀ b o u,H b=some (.frz o u)→H' b=some (.frz o u)
 tbls:∀ b ps,H b=some (.tbl ps)→∃ more,H' b=some (.tbl (ps++more))
section
variable {fs fs' ex ex':List Addr} {H H1 H2:Hp} {h h1 h2 h':Heap} {a x e:Addr} {o:HO}
theorem Un.any (u:Un fs ex H H1 h h1) {b:Addr} {ob:Obj} (q:h.get? b=some ob) (n:H b=none) (hx:b∉ex):∃ sl,h1.get? b=some {ob with slots:=sl}:=by
 by_cases hb:b∈fs
 ·exact u.slot b ob q n hb hx
 ·exact ⟨ob.slots,u.keep b ob q n hb hx⟩
theorem Un.kept (k:∀ b u,h.get? b=some u→h'.get? b=some u):Un fs ex H H h h':=
 ⟨fun b ob q _ _ _=>k b ob q,fun b ob q _ _ _=>⟨ob.slots,k b ob q⟩,fun _ _ _ n _=>n,fun b ob q _=>⟨ob,k b ob q⟩,fun _ _ q=>q,fun _ _ _ q=>q,fun _ ps q=>⟨#[],by rw [q];simp⟩⟩
theorem Un.refl:Un fs ex H H h h:=Un.kept fun _ _ q=>q
theorem Un.laid (k:∀ b u,h.get? b=some u→h'.get? b=some u) (hp:h.objs.size≤a) (hn:H a=none):Un fs ex H (upd H a o) h h' where
 keep:=fun b u q _ _ _=>k b u q
 slot:=fun b u q _ _ _=>⟨u.slots,k b u q⟩
 free:=fun b u q n _=>by rw [aq (Nat.ne_of_lt (Nat.lt_of_lt_of_le (Heap.lt_size q) hp))];exact n
 there:=fun b u q _=>⟨u,k b u q⟩
 tups:=fun b xs q=>by rw [aq (ah q hn)];exact q
 frzs:=fun b u xs q=>by rw [aq (ah q hn)];exact q
 tbls:=fun b ps q=>⟨#[],by rw [aq (ah q hn),q];simp⟩
theorem Un.write (mu:Mut (H x)) (he:e=x∨H e=some (.own x)) (k:∀ b u,b≠e→h.get? b=some u→h'.get? b=some u) (heo:∃ u,h'.get? e=some u):Un fs ex H (upd H x o) h h':=by
 have hx:∀ b,H b=none→b≠x:=fun b n z=>by subst z;rw [n] at mu;exact mu
 have hb:∀ b,H b=none→b≠e:=fun b n z=>by
  subst z
  rcases he with r | r
  ·exact hx b n r
  ·rw [n] at r;cases r
 have hm:∀ b u,H b=some u→¬ Mut (some u)→b≠x:=fun b u q nm z=>by subst z;rw [q] at mu;exact nm mu
 refine ⟨fun b u q n _ _=>k b u (hb b n) q,fun b u q n _ _=>⟨u.slots,k b u (hb b n) q⟩,fun b u q n _=>by rw [aq (hx b n)];exact n,fun b u q _=>?_,
  fun b xs q=>by rw [aq (hm b _ q fun z=>z)];exact q,fun b u xs q=>by rw [aq (hm b _ q fun z=>z)];exact q,fun b ps q=>⟨#[],by rw [aq (hm b _ q fun z=>z),q];simp⟩⟩
 by_cases hbe:b=e
 ·subst hbe;exact heo
 ·exact ⟨u,k b u hbe q⟩
end
noncomputable def trk (h:Heap) (H:Hp):List Addr:=(List.range h.objs.size).filter fun a=>(H a).isSome
noncomputable def hidT (h:Heap) (H:Hp):Heap:=PySem.W.hideAll h (trk h H)
theorem Be (h:Heap) (H:Hp):(hidT h H).objs.size=h.objs.size:=PySem.W.hideAll_size _ _
theorem C2 {h:Heap} {H:Hp} {b:Addr} {o:Obj} (e:h.get? b=some o) (n:H b=none):(hidT h H).get? b=some o:=
 PySem.W.hideAll_get _ e fun hm=>by
  have q:(H b).isSome=true:=(List.mem_filter.mp hm).2
  rw [n] at q;simp at q
theorem EG {h:Heap} {H:Hp} {b:Addr} {o:Obj} (e:(hidT h H).get? b=some o):h.get? b=some o∧H b=none:=by
 have e':h.get? b=some o:=PySem.W.of_hideAll (trk h H) e
 refine ⟨e',?_⟩
 cases q:H b with
 | none=>rfl
 | some x=>
   have hm:b∈trk h H:=List.mem_filter.mpr ⟨List.mem_range.mpr (Heap.lt_size e'),by simp [q]⟩
   have z:(hidT h H).get? b=none:=PySem.W.hideAll_none (trk h H) hm
   rw [z] at e;cases e
noncomputable def Fa (g h:Heap) (L:Addr):List (Addr×Obj):=(List.range h.objs.size).filterMap fun a=>if a=L∨(g.get? a).isSome=true then none else (h.get? a).map fun o=>(a,o)
noncomputable def rest (g h:Heap) (L d:Addr):List (Addr×Obj):=(Fa g h L).filter fun p=>decide (p.1≠d)
structure Mod (K:PySem.W.Frag) (mg:Str→Option Value) (base:Heap):Prop where
 kin:K.In base
 glob:base.Ns mainGlobals mg
 blt:∃ mb,base.Ns builtinsNs mb∧∀ x:Str,x≠"__name__"→mb x=bootBuiltins x
 nolimit:base.NoLimit
structure Cx where
 prog:Program
 w:World
 K:PySem.W.Frag
 mg:Str→Option Value
 base:Heap
 A:Around
 N:List Str
 s₀:Shared
 H₀:Hp
 env:Env
 outer:List Env
 stack:List Env
 ex:List Addr
 fn:Str→Bool
 calm:Bool
 pn:List (Addr×Obj)
 xe:Value→Shared→Prop
noncomputable def frs (l:List Env):List Addr:=l.filterMap (·.frame)
noncomputable abbrev Cx.fs (X:Cx):List Addr:=frs X.outer
noncomputable def Vis (sc:Scope) (x:Str):Prop:=sc.names.lookup x=some .local∨sc.names.lookup x=some .cell∨sc.names.lookup x=some .free
noncomputable def Loc (sc:Scope) (x:Str):Prop:=sc.names.lookup x=some .local∨sc.names.lookup x=some .cell
noncomputable def Look (env:Env) (h:Heap) (m:Str→Option Value) (x:Str) (u:Value):Prop:=
 (env.kindOf x=some .local∧m x=some u)∨((env.kindOf x=some .cell∨env.kindOf x=some .free)∧∃ c,env.cells.lookup x=some c∧h.IsCell c (some u))
structure Cx.Ok (X:Cx):Prop where
 mod:Mod X.K X.mg X.base
 kind:X.env.scope.kind= .function
 glob:X.env.globals=mainGlobals
 blt:X.env.builtins=builtinsNs
 above:X.s₀.heap.objs.size≤X.env.locals
 inj:∀ x y c,X.env.cells.lookup x=some c→X.env.cells.lookup y=some c→x=y
 has:∀ x,(X.env.kindOf x=some .cell∨X.env.kindOf x=some .free)→∃ c,X.env.cells.lookup x=some c
 cab:∀ x c,X.fn x=true→X.env.cells.lookup x=some c→X.s₀.heap.objs.size≤c
 hd:X.calm=true→X.A.handled=none
 frames:X.A.frames=some X.stack
 stk:X.stack=X.outer∨(X.stack=X.env::X.outer∧X.env.frame=some X.env.locals)
 exf:∀ b∈X.ex,b≠X.env.locals∧∀ x c,X.env.cells.lookup x=some c→c≠b
 bs:∀ b o,X.base.get? b=some o→X.s₀.heap.get? b=some o∧X.H₀ b=none
 bsz:X.base.objs.size≤X.s₀.heap.objs.size
 noex:∀ b o,X.base.get? b=some o→b∉X.ex
 exfs:∀ b∈X.ex,b∉X.fs
 funs:X.s₀.heap.FunFrames X.base X.outer
 frf:∀ b∈X.fs,X.H₀ b=none
structure Inv (X:Cx) (pins:List (Addr×Obj)) (σ:List (Option V)) (H:Hp) (s:Shared):Prop where
 ok:X.Ok
 os:s.os=X.s₀.os
 bare:AllBare s.gens
 base:Un X.fs X.ex X.H₀ H X.s₀.heap s.heap
 loc:∃ m,s.heap.Ns X.env.locals m∧∀ (i:Nat) (x:Str) (v:V),X.N[i]? =some x→σ[i]? =some (some v)→Vis X.env.scope x→∃ u,RelV v u∧Look X.env s.heap m x u
 cell:∀ x c,X.env.cells.lookup x=some c→∃ v,s.heap.IsCell c v
 free:H X.env.locals=none
 freeC:∀ x c,X.env.cells.lookup x=some c→H c=none
 pin:∀ p∈X.pn++pins,s.heap.get? p.1=some p.2∧H p.1=none∧p.1≠X.env.locals∧p.1∉X.fs∧∀ v,p.2.data≠.cell v
 hok:HOk X.prog X.w H s.heap
 len:σ.length=X.N.length
section
variable {X:Cx} {pins:List (Addr×Obj)} {σ:List (Option V)} {H H':Hp} {s:Shared} {h':Heap}
theorem Cx.Ok.nofr (ok:X.Ok) {b:Addr} {o:Obj} (e:X.base.get? b=some o):b∉X.fs:=fun hb=>by
 have:=(ok.funs.mem hb).1
 rw [e] at this;cases this
theorem Inv.bs (I:Inv X pins σ H s):∀ b o,X.base.get? b=some o→s.heap.get? b=some o∧H b=none:=fun b o e=>
 ⟨I.base.keep b o (I.ok.bs b o e).1 (I.ok.bs b o e).2 (I.ok.nofr e) (I.ok.noex b o e),I.base.free b o (I.ok.bs b o e).1 (I.ok.bs b o e).2 (I.ok.noex b o e)⟩
theorem Inv.bk (I:Inv X pins σ H s):∀ b o,X.base.get? b=some o→s.heap.get? b=some o:=fun b o e=>(I.bs b o e).1
theorem Inv.mod (I:Inv X pins σ H s):Mod X.K X.mg X.base:=I.ok.mod
theorem Inv.kIn (I:Inv X pins σ H s):X.K.In s.heap:=I.ok.mod.kin.keeps I.bk
theorem Inv.lt (I:Inv X pins σ H s):X.env.locals < s.heap.objs.size:=let ⟨_,hn,_⟩:=I.loc;hn.lt
theorem Inv.sz (I:Inv X pins σ H s):X.s₀.heap.objs.size≤s.heap.objs.size:=Nat.le_trans I.ok.above (Nat.le_of_lt I.lt)
theorem Inv.nofs (I:Inv X pins σ H s) {a:Addr} (h:s.heap.objs.size≤a):a∉X.fs:=fun hb=>by
 obtain ⟨_,o,ho,_⟩:=I.ok.funs.mem hb
 exact absurd (Nat.lt_of_lt_of_le (Heap.lt_size ho) (Nat.le_trans I.sz h)) (Nat.lt_irrefl _)
theorem Inv.cne (I:Inv X pins σ H s):∀ x c,X.env.cells.lookup x=some c→c≠X.env.locals:=fun x c e z=>by
 obtain ⟨v,o,ho,hd⟩:=I.cell x c e
 obtain ⟨m,⟨o',es,ep,ho',hd',_⟩,_⟩:=I.loc
 rw [z,ho'] at ho;cases ho;rw [hd'] at hd;cases hd
theorem Inv.funs (I:Inv X pins σ H s):s.heap.FunFrames X.base X.outer:=by
 have all:∀ (l:List Env),(∀ b∈frs l,b∈X.fs)→X.s₀.heap.FunFrames X.base l→s.heap.FunFrames X.base l:=by
  intro l
  induction l with
  | nil=>intro _ _;trivial
  | cons env r ih=>
    intro hs hl
    obtain ⟨hk,⟨L,o,hf,hn,ho,hd⟩,hr⟩:=hl
    have hL:L∈X.fs:=hs L (by unfold frs;rw [List.filterMap_cons,hf];exact List.mem_cons_self)
    obtain ⟨sl,e⟩:=I.base.slot L o ho (I.ok.frf L hL) hL fun z=>I.ok.exfs L z hL
    exact ⟨hk,⟨L,_,hf,hn,e,hd⟩,ih (fun b hb=>hs b (by unfold frs;rw [List.filterMap_cons,hf];exact List.mem_cons_of_mem _ hb)) hr⟩
 exact all X.outer (fun _ hb=>hb) I.ok.funs
theorem Inv.stack (I:Inv X pins σ H s):s.heap.FunFrames X.base X.stack:=by
 rcases I.ok.stk with e | ⟨e,hf⟩
 ·rw [e];exact I.funs
 ·rw [e]
  obtain ⟨m,hn,_⟩:=I.loc
  refine .cons (by rw [I.ok.kind];decide) hf hn ?_ I.funs
  exact Heap.get?_none_of_le (Nat.le_trans I.ok.bsz I.ok.above)
theorem Inv.stkSub (I:Inv X pins σ H s):∀ b∈frs X.stack,b∈X.env.locals::X.fs:=fun b hb=>by
 rcases I.ok.stk with e | ⟨e,hf⟩
 ·rw [e] at hb;exact List.mem_cons_of_mem _ hb
 ·rw [e] at hb
  unfold frs at hb
  rw [List.filterMap_cons,hf] at hb
  exact hb
theorem Inv.stkFree (I:Inv X pins σ H s):∀ b∈frs X.stack,H b=none:=fun b hb=>by
 rcases List.mem_cons.mp (I.stkSub b hb) with e | hb
 ·rw [e];exact I.free
 ·obtain ⟨_,o,ho,_⟩:=I.ok.funs.mem hb
  exact I.base.free b o ho (I.ok.frf b hb) fun z=>I.ok.exfs b z hb
theorem Inv.step {g':Array GenState} {t':Nat} {d':Drawn} {ch:List Addr} (I:Inv X pins σ H s)
  (hch:∀ b∈ch,(b∈X.ex∨X.s₀.heap.objs.size≤b)∧b≠X.env.locals∧(∀ x c,X.env.cells.lookup x=some c→c≠b)∧∀ p∈X.pn++pins,p.1≠b)
  (keep:∀ b o,b≠X.env.locals→b∉X.fs→b∉ch→s.heap.get? b=some o→H b=none→h'.get? b=some o)
  (slot:∀ b o,b≠X.env.locals→b∈X.fs→b∉ch→s.heap.get? b=some o→H b=none→∃ sl,h'.get? b=some {o with slots:=sl}) (free:∀ b o,b∉ch→s.heap.get? b=some o→H b=none→H' b=none)
  (there:∀ b o,b∉ch→s.heap.get? b=some o→∃ o',h'.get? b=some o')
  (tups:∀ b xs,H b=some (.tup xs)→H' b=some (.tup xs)) (frzs:∀ b o u,H b=some (.frz o u)→H' b=some (.frz o u)) (tbls:∀ b ps,H b=some (.tbl ps)→∃ more,H' b=some (.tbl (ps++more)))
  (ns:∀ m,s.heap.Ns X.env.locals m→h'.Ns X.env.locals m) (hok:HOk X.prog X.w H' h') (hg:AllBare g'):
  Inv X pins σ H' {s with heap:=h',gens:=g',drawn:=d',toks:=t'}:=by
 have neL:∀ b o,X.s₀.heap.get? b=some o→b≠X.env.locals:=fun b o e=>Nat.ne_of_lt (Nat.lt_of_lt_of_le (Heap.lt_size e) I.ok.above)
 have neC:∀ b o,X.s₀.heap.get? b=some o→b∉X.ex→b∉ch:=fun b o e hx hb=>by
  rcases (hch b hb).1 with z | z
  ·exact hx z
  ·exact absurd (Nat.lt_of_lt_of_le (Heap.lt_size e) z) (Nat.lt_irrefl _)
 have cellK:∀ x c,X.env.cells.lookup x=some c→∀ v,s.heap.IsCell c v→h'.IsCell c v:=fun x c e v ⟨o,ho,hd⟩=>by
  have nch:c∉ch:=fun z=>(hch c z).2.2.1 x c e rfl
  by_cases hc:c∈X.fs
  ·obtain ⟨sl,q⟩:=slot c o (I.cne x c e) hc nch ho (I.freeC x c e)
   exact ⟨_,q,hd⟩
  ·exact ⟨o,keep c o (I.cne x c e) hc nch ho (I.freeC x c e),hd⟩
 refine ⟨I.ok,I.os,hg,⟨fun b o e n hb hx=>?_,fun b o e n hb hx=>?_,fun b o e n hx=>?_,fun b o e hx=>?_,fun b xs e=>tups b xs (I.base.tups b xs e),fun b o xs e=>frzs b o xs (I.base.frzs b o xs e),fun b ps e=>?_⟩,?_,fun x c e=>?_,?_,fun x c e=>?_,fun p hp=>?_,hok,I.len⟩
 ·exact keep b o (neL b o e) hb (neC b o e hx) (I.base.keep b o e n hb hx) (I.base.free b o e n hx)
 ·obtain ⟨sl,e1⟩:=I.base.slot b o e n hb hx
  obtain ⟨sl',e2⟩:=slot b _ (neL b o e) hb (neC b o e hx) e1 (I.base.free b o e n hx)
  exact ⟨sl',e2⟩
 ·obtain ⟨o',e1⟩:=I.base.there b o e hx
  exact free b o' (neC b o e hx) e1 (I.base.free b o e n hx)
 ·obtain ⟨o',e1⟩:=I.base.there b o e hx
  exact there b o' (neC b o e hx) e1
 ·obtain ⟨m1,e1⟩:=I.base.tbls b ps e
  obtain ⟨m2,e2⟩:=tbls b _ e1
  exact ⟨m1++m2,by rw [e2,Array.append_assoc]⟩
 ·obtain ⟨m,hn,hl⟩:=I.loc
  refine ⟨m,ns m hn,fun i x v e1 e2 e3=>?_⟩
  obtain ⟨u,r,l⟩:=hl i x v e1 e2 e3
  refine ⟨u,r,?_⟩
  rcases l with l | ⟨k,c,e,z⟩
  ·exact .inl l
  ·exact .inr ⟨k,c,e,cellK x c e _ z⟩
 ·obtain ⟨v,z⟩:=I.cell x c e
  exact ⟨v,cellK x c e v z⟩
 ·obtain ⟨m,⟨o,_,_,ho,_⟩,_⟩:=I.loc
  exact free _ o (fun z=>(hch _ z).2.1 rfl) ho I.free
 ·obtain ⟨v,o,ho,hd⟩:=I.cell x c e
  exact free c o (fun z=>(hch c z).2.2.1 x c e rfl) ho (I.freeC x c e)
 ·obtain ⟨e,n,ne,nf,d⟩:=I.pin p hp
  have nch:p.1∉ch:=fun z=>(hch p.1 z).2.2.2 p hp rfl
  exact ⟨keep p.1 p.2 ne nf nch e n,free p.1 p.2 nch e n,ne,nf,d⟩
theorem Inv.un {t':Nat} (I:Inv X pins σ H s) (u:Un X.fs [] H H' s.heap h') (hok:HOk X.prog X.w H' h'):Inv X pins σ H' {s with heap:=h',toks:=t'}:=by
 obtain ⟨m,⟨o,es,ep,ho,r⟩,_⟩:=id I.loc
 obtain ⟨sl,hL⟩:=u.any ho I.free (by simp)
 exact I.step (g':=s.gens) (d':=s.drawn) (ch:=[]) (fun _ z=>nomatch z) (fun b o _ hb _ e n=>u.keep b o e n hb (by simp)) (fun b o _ hb _ e n=>u.slot b o e n hb (by simp)) (fun b o _ e n=>u.free b o e n (by simp)) (fun b o _ e=>u.there b o e (by simp)) u.tups u.frzs u.tbls (fun m' hm=>by
  obtain ⟨o',es',ep',ho',r'⟩:=hm
  rw [ho] at ho';cases ho'
  exact ⟨_,es',ep',hL,r'⟩) hok I.bare
theorem Inv.call {g':Array GenState} {t':Nat} {d':Drawn} {ch:List Addr} (I:Inv X pins σ H s) (u:Un (frs X.stack) ch H H' s.heap h') (hok:HOk X.prog X.w H' h') (hg:AllBare g')
  (hch:∀ b∈ch,(b∈X.ex∨X.s₀.heap.objs.size≤b)∧b≠X.env.locals∧(∀ x c,X.env.cells.lookup x=some c→c≠b)∧∀ p∈X.pn++pins,p.1≠b):
  Inv X pins σ H' {s with heap:=h',gens:=g',drawn:=d',toks:=t'}:=by
 obtain ⟨m,⟨o,es,ep,ho,r⟩,_⟩:=id I.loc
 obtain ⟨sl,hL⟩:=u.any ho I.free fun z=>(hch _ z).2.1 rfl
 exact I.step (ch:=ch) hch (fun b o hL hb hc e n=>u.keep b o e n (fun z=>(List.mem_cons.mp (I.stkSub b z)).elim hL hb) hc) (fun b o _ _ hc e n=>u.any e n hc) (fun b o hc e n=>u.free b o e n hc) (fun b o hc e=>u.there b o e hc) u.tups u.frzs u.tbls (fun m' hm=>by
  obtain ⟨o',es',ep',ho',r'⟩:=hm
  rw [ho] at ho';cases ho'
  exact ⟨_,es',ep',hL,r'⟩) hok hg
theorem Inv.turned {t':Nat} {it:Addr} (I:Inv X pins σ H s) (k:∀ b o,b≠it→s.heap.get? b=some o→h'.get? b=some o) (hn:H it=none) (hL:it≠X.env.locals)
  (h1:it∈X.ex∨X.s₀.heap.objs.size≤it) (h2:∀ x c,X.env.cells.lookup x=some c→c≠it) (h3:∀ p∈X.pn++pins,p.1≠it):Inv X pins σ H {s with heap:=h',toks:=t'}:=by
 have nit:∀ b u,H b=some u→b≠it:=fun b u e z=>by rw [z,hn] at e;cases e
 refine I.step (g':=s.gens) (d':=s.drawn) (ch:=[it]) (fun b hb=>?_) (fun b o _ _ hc e _=>k b o (fun z=>hc (by simp [z])) e) (fun b o _ _ hc e _=>⟨o.slots,k b o (fun z=>hc (by simp [z])) e⟩) (fun _ _ _ _ n=>n)
  (fun b o hc e=>⟨o,k b o (fun z=>hc (by simp [z])) e⟩) (fun _ _ e=>e) (fun _ _ _ e=>e) (fun b ps e=>⟨#[],by rw [e];simp⟩) (fun m hm=>?_) (fun b u e=>?_) I.bare
 ·have e:b=it:=by simpa using hb
  subst e
  exact ⟨h1,hL,h2,h3⟩
 ·obtain ⟨o,es,ep,ho,r⟩:=hm
  exact ⟨o,es,ep,k _ o (Ne.symm hL) ho,r⟩
 ·refine (I.hok b u e).stay (fun c v hc q=>k c v ?_ q) (fun _ q=>q) fun _ _ q=>q
  rcases hc with z | z
  ·rw [z];exact nit b u e
  ·exact nit c _ z
theorem Inv.tok (I:Inv X pins σ H s) (t:Nat):Inv X pins σ H {s with toks:=t}:=I.un (h':=s.heap) (t':=t) Un.refl I.hok
theorem Inv.kept {t':Nat} (I:Inv X pins σ H s) (k:∀ b u,s.heap.get? b=some u→h'.get? b=some u):Inv X pins σ H {s with heap:=h',toks:=t'}:=I.un (Un.kept k) (I.hok.kept k)
theorem Inv.laid {a:Addr} {o:HO} {t':Nat} (I:Inv X pins σ H s) (k:∀ b u,s.heap.get? b=some u→h'.get? b=some u) (hp:s.heap.objs.size≤a) (new:dI X.prog X.w (upd H a o) h' a o):
  Inv X pins σ (upd H a o) {s with heap:=h',toks:=t'}:=I.un (Un.laid k hp (I.hok.fresh hp)) (I.hok.laid k hp new)
theorem Inv.write {x e:Addr} {o:HO} {t':Nat} (I:Inv X pins σ H s) (mu:Mut (H x)) (he:e=x∨H e=some (.own x)) (k:∀ b u,b≠e→s.heap.get? b=some u→h'.get? b=some u) (heo:∃ u,h'.get? e=some u)
  (new:dI X.prog X.w (upd H x o) h' x o):Inv X pins σ (upd H x o) {s with heap:=h',toks:=t'}:=I.un (Un.write mu he k heo) (I.hok.write mu he k heo new)
theorem Inv.weak {σ':List (Option V)} (I:Inv X pins σ H s) (hl:σ'.length=σ.length) (w:∀ (i:Nat) v,σ'[i]? =some (some v)→σ[i]? =some (some v)):Inv X pins σ' H s:=
 ⟨I.ok,I.os,I.bare,I.base,let ⟨m,hn,hl'⟩:=I.loc;⟨m,hn,fun i x v e1 e2 e3=>hl' i x v e1 (w i v e2) e3⟩,I.cell,I.free,I.freeC,I.pin,I.hok,hl.trans I.len⟩
theorem Inv.pins_of {pins':List (Addr×Obj)} (I:Inv X pins σ H s) (h:∀ p∈pins',s.heap.get? p.1=some p.2∧H p.1=none∧p.1≠X.env.locals∧p.1∉X.fs∧∀ v,p.2.data≠.cell v):Inv X pins' σ H s:=
 ⟨I.ok,I.os,I.bare,I.base,I.loc,I.cell,I.free,I.freeC,fun p hp=>(List.mem_append.mp hp).elim (fun z=>I.pin p (List.mem_append_left _ z)) (h p),I.hok,I.len⟩
theorem xz {N:List Str} (hN:N.Nodup) {i j:Nat} {x:Str} (a:N[i]? =some x) (b:N[j]? =some x):i=j:=by
 obtain ⟨h1,e1⟩:=List.getElem?_eq_some_iff.mp a
 obtain ⟨h2,e2⟩:=List.getElem?_eq_some_iff.mp b
 exact (List.getElem_inj hN).mp (e1.trans e2.symm)
theorem mI {M:Model} {A:Around} {E:Value→Shared→Prop} {i:Nat} {x:Str} {v:V} {u:Value} {Q:Unit→Shared→Prop} (I:Inv X pins σ H s) (hN:X.N.Nodup) (hi:X.N[i]? =some x) (hx:Loc X.env.scope x) (r:RelV v u)
  (h:∀ s',Inv X pins (σ.set i (some v)) H s'→(∃ a,Heap.SameBut a s.heap s'.heap∧(a=X.env.locals∨X.env.cells.lookup x=some a))→Q () s') (hf:X.fn x=true∨X.env.scope.names.lookup x=some .local:=by first | exact .inl rfl | exact .inr rfl | assumption):wpAny M A (storeName X.env x u) Q E s:=by
 obtain ⟨m,hn,hl⟩:=id I.loc
 have hcls:(X.env.scope.kind == .class||(X.env.scope.kind == .module&&X.env.locals != X.env.globals))=false:=by rw [I.ok.kind];rfl
 have hiσ:i < σ.length:=by rw [I.len];exact (List.getElem?_eq_some_iff.mp hi).1
 have cne:=I.cne
 have tracked:∀ {a:Addr} {h':Heap},(∃ o,s.heap.get? a=some o∧H a=none)→Heap.SameBut a s.heap h'→HOk X.prog X.w H h':=fun {a h'} ha hs b ob e=>by
  obtain ⟨_,_,hfree⟩:=ha
  refine (I.hok b ob e).stay (fun c w' hc q=>(hs.2 c ?_).trans q) (fun _ q=>q) fun _ _ q=>q
  rintro rfl
  rcases hc with rfl | hc
  ·rw [hfree] at e;cases e
  ·rw [hfree] at hc;cases hc
 rcases hx with hk | hk
 ·refine wpAny_storeName_local hk hn (fun h' hn' hs=>?_) hcls
  obtain ⟨oL,_,_,hoL,_⟩:=id hn
  refine h _ ⟨I.ok,I.os,I.bare,⟨fun b o e n hb hx=>?_,fun b o e n hb hx=>?_,I.base.free,fun b o e hx=>?_,I.base.tups,I.base.frzs,I.base.tbls⟩,⟨_,hn',fun j y v' e1 e2 e3=>?_⟩,fun y c e=>?_,I.free,I.freeC,fun p hp=>?_,tracked ⟨oL,hoL,I.free⟩ hs,by simpa using I.len⟩ ⟨_,hs,.inl rfl⟩
  ·exact (hs.2 b (Nat.ne_of_lt (Nat.lt_of_lt_of_le (Heap.lt_size e) I.ok.above))).trans (I.base.keep b o e n hb hx)
  ·obtain ⟨sl,e1⟩:=I.base.slot b o e n hb hx
   exact ⟨sl,(hs.2 b (Nat.ne_of_lt (Nat.lt_of_lt_of_le (Heap.lt_size e) I.ok.above))).trans e1⟩
  ·obtain ⟨o',e1⟩:=I.base.there b o e hx
   exact ⟨o',(hs.2 b (Nat.ne_of_lt (Nat.lt_of_lt_of_le (Heap.lt_size e) I.ok.above))).trans e1⟩
  ·by_cases hj:j=i
   ·subst hj
    rw [hi] at e1;cases e1
    rw [List.getElem?_set_self hiσ] at e2
    cases e2
    exact ⟨u,r,.inl ⟨hk,by simp⟩⟩
   ·rw [List.getElem?_set_ne (Ne.symm hj)] at e2
    obtain ⟨u',r',q⟩:=hl j y v' e1 e2 e3
    refine ⟨u',r',?_⟩
    rcases q with ⟨k,e⟩ | ⟨k,c,e,z⟩
    ·refine .inl ⟨k,?_⟩
     have:y≠x:=fun e=>hj (xz hN e1 (e ▸ hi))
     simp [this,e]
    ·exact .inr ⟨k,c,e,z.sameBut hs (cne y c e)⟩
  ·obtain ⟨w',z⟩:=I.cell y c e
   exact ⟨w',z.sameBut hs (cne y c e)⟩
  ·obtain ⟨e,n,ne,nf,d⟩:=I.pin p hp
   exact ⟨(hs.2 p.1 ne).trans e,n,ne,nf,d⟩
 ·have hfn:X.fn x=true:=by
   rcases hf with z | z
   ·exact z
   ·rw [z] at hk;cases hk
  obtain ⟨c,hc⟩:=I.ok.has x (.inl hk)
  obtain ⟨w',z⟩:=I.cell x c hc
  refine wpAny_storeName_cell I.ok.kind hk hc z (fun h' hc' hs=>?_)
  obtain ⟨oc,hoc,hocd⟩:=id z
  refine h {s with heap:=h'} ⟨I.ok,I.os,I.bare,⟨fun b o e n hb hx=>?_,fun b o e n hb hx=>?_,I.base.free,fun b o e hx=>?_,I.base.tups,I.base.frzs,I.base.tbls⟩,⟨m,hn.sameBut hs (Ne.symm (cne x c hc)),fun j y v' e1 e2 e3=>?_⟩,fun y c' e=>?_,I.free,I.freeC,fun p hp=>?_,tracked ⟨oc,hoc,I.freeC x c hc⟩ hs,by simpa using I.len⟩ ⟨c,hs,.inr hc⟩
  ·exact (hs.2 b (Nat.ne_of_lt (Nat.lt_of_lt_of_le (Heap.lt_size e) (I.ok.cab x c hfn hc)))).trans (I.base.keep b o e n hb hx)
  ·obtain ⟨sl,e1⟩:=I.base.slot b o e n hb hx
   exact ⟨sl,(hs.2 b (Nat.ne_of_lt (Nat.lt_of_lt_of_le (Heap.lt_size e) (I.ok.cab x c hfn hc)))).trans e1⟩
  ·obtain ⟨o',e1⟩:=I.base.there b o e hx
   exact ⟨o',(hs.2 b (Nat.ne_of_lt (Nat.lt_of_lt_of_le (Heap.lt_size e) (I.ok.cab x c hfn hc)))).trans e1⟩
  ·by_cases hj:j=i
   ·subst hj
    rw [hi] at e1;cases e1
    rw [List.getElem?_set_self hiσ] at e2
    cases e2
    exact ⟨u,r,.inr ⟨.inl hk,c,hc,hc'⟩⟩
   ·rw [List.getElem?_set_ne (Ne.symm hj)] at e2
    obtain ⟨u',r',q⟩:=hl j y v' e1 e2 e3
    refine ⟨u',r',?_⟩
    rcases q with q | ⟨k,c',e,z'⟩
    ·exact .inl q
    ·refine .inr ⟨k,c',e,z'.sameBut hs ?_⟩
     rintro rfl
     exact hj (xz hN e1 (I.ok.inj _ _ _ e hc ▸ hi))
  ·by_cases hcc:c'=c
   ·subst hcc;exact ⟨_,hc'⟩
   ·obtain ⟨w2,z2⟩:=I.cell y c' e
    exact ⟨w2,z2.sameBut hs hcc⟩
  ·obtain ⟨e,n,ne,nf,d⟩:=I.pin p hp
   refine ⟨(hs.2 p.1 ?_).trans e,n,ne,nf,d⟩
   intro q
   rw [q,hoc] at e
   have q':oc=p.2:=Option.some.inj e
   exact d w' (by rw [← q'];exact hocd)
theorem xu {M:Model} {A:Around} {E:Value→Shared→Prop} {i:Nat} {x:Str} {v:V} {u:Value} {Q:Unit→Shared→Prop} (I:Inv X pins σ H s) (hN:X.N.Nodup) (hi:X.N[i]? =some x) (hx:Loc X.env.scope x) (r:RelV v u)
  (h:∀ s',Inv X pins (σ.set i (some v)) H s'→Q () s') (hf:X.fn x=true∨X.env.scope.names.lookup x=some .local:=by first | exact .inl rfl | exact .inr rfl | assumption):wpAny M A (storeName X.env x u) Q E s:=
 mI I hN hi hx r (fun s' I' _=>h s' I') hf
end
noncomputable abbrev XK:=Value→Option Addr→Hp→Prop
noncomputable abbrev St:=List (Option V)
noncomputable abbrev VK:=V→Hp→Prop
noncomputable abbrev TE:=St→Hp→VK→Prop
noncomputable abbrev TT:=St→Hp→(Bool→Hp→Prop)→Prop
noncomputable abbrev TA:=St→Hp→(List V→Hp→Prop)→Prop
structure Ends where
 nx:St→Hp→Prop
 rt:VK
 bk:St→Hp→Prop:=fun _ _=>False
 ct:St→Hp→Prop:=fun _ _=>False
noncomputable abbrev TS:=Ends→St→Hp→Prop
noncomputable def EP (X:Cx) (pins:List (Addr×Obj)) (σ:St) (Q:VK) (u:Value) (s':Shared):Prop:=∃ v H',Inv X pins σ H' s'∧RelV v u∧Q v H'
noncomputable def TP (X:Cx) (pins:List (Addr×Obj)) (σ:St) (Q:Bool→Hp→Prop) (b:Bool) (s':Shared):Prop:=∃ H',Inv X pins σ H' s'∧Q b H'
noncomputable def AP (X:Cx) (pins:List (Addr×Obj)) (σ:St) (Q:List V→Hp→Prop) (us:List Value) (s':Shared):Prop:=∃ vs H',Inv X pins σ H' s'∧Vals vs us∧Q vs H'
noncomputable def SP (X:Cx) (pins:List (Addr×Obj)) (D:Ends) (f:Flow) (s':Shared):Prop:=
 match f with
 | .next=>∃ σ' H',Inv X pins σ' H' s'∧D.nx σ' H'
 | .brk=>∃ σ' H',Inv X pins σ' H' s'∧D.bk σ' H'
 | .cont=>∃ σ' H',Inv X pins σ' H' s'∧D.ct σ' H'
 | .ret u=>∃ v σ' H',Inv X pins σ' H' s'∧RelV v u∧D.rt v H'
noncomputable def PE (X:Cx) (e:Expr) (t:TE):Prop:=
 ∀ (pins:List (Addr×Obj)) (s:Shared) (σ:St) (H:Hp) (Q:VK),Inv X pins σ H s→t σ H Q→wpAny (model X.prog X.w) X.A (eval e X.env) (EP X pins σ Q) X.xe s
noncomputable def PT (X:Cx) (e:Expr) (t:TT):Prop:=
 ∀ (pins:List (Addr×Obj)) (s:Shared) (σ:St) (H:Hp) (Q:Bool→Hp→Prop),Inv X pins σ H s→t σ H Q→wpAny (model X.prog X.w) X.A (isTrue e X.env (eval e X.env)) (TP X pins σ Q) X.xe s
noncomputable def PW (X:Cx) (e:Expr) (t:TT):Prop:=
 ∀ (whole:Sem Value) (pins:List (Addr×Obj)) (s:Shared) (σ:St) (H:Hp) (Q:Bool→Hp→Prop),Inv X pins σ H s→t σ H Q→wpAny (model X.prog X.w) X.A (isTrue e X.env whole) (TP X pins σ Q) X.xe s
theorem PW.pt {X:Cx} {e:Expr} {t:TT} (h:PW X e t):PT X e t:=h _
noncomputable def PA (X:Cx) (es:List Expr) (t:TA):Prop:=
 ∀ (pos:Pos) (pins:List (Addr×Obj)) (s:Shared) (σ:St) (H:Hp) (Q:List V→Hp→Prop),Inv X pins σ H s→t σ H Q→wpAny (model X.prog X.w) X.A (spliced (backTo pos (starEach es X.env))) (AP X pins σ Q) X.xe s
noncomputable def PS (X:Cx) (st:Stmt) (t:TS):Prop:=
 ∀ (pins:List (Addr×Obj)) (s:Shared) (σ:St) (H:Hp) (D:Ends),Inv X pins σ H s→t D σ H→wpAny (model X.prog X.w) X.A (exec st X.env) (SP X pins D) X.xe s
noncomputable def PSs (X:Cx) (st:List Stmt) (t:TS):Prop:=
 ∀ (pins:List (Addr×Obj)) (s:Shared) (σ:St) (H:Hp) (D:Ends),Inv X pins σ H s→t D σ H→wpAny (model X.prog X.w) X.A (execs st X.env) (SP X pins D) X.xe s
theorem thn {α:Type} {t:Sem α} {Q Q':α→Shared→Prop} {M:Model} {A:Around} {E:Value→Shared→Prop} {s:Shared} (h:wpAny M A t Q E s) (hQ:∀ a s,Q a s→Q' a s):wpAny M A t Q' E s:=wpAny_mono h hQ fun _ _ x=>x
section
variable {X:Cx}
noncomputable def tVar (i:Nat):TE:=fun σ H Q=>∃ v,σ[i]? =some (some v)∧Q v H
noncomputable def tC (v:V):TE:=fun _ H Q=>Q v H
theorem Gj {i:Nat} {x:Str} {pos:Pos} (hN:X.N[i]? =some x) (hv:Vis X.env.scope x) (hd:(x == ("__debug__":Str))=false:=by decide) (hcd:(x == ("__classdict__":Str))=false:=by decide):PE X (.Name x pos) (tVar i):=by
 intro pins s σ H Q I h
 obtain ⟨v,e,h⟩:=h
 obtain ⟨m,hn,hl⟩:=I.loc
 obtain ⟨u,r,l⟩:=hl i x v hN e hv
 have fin:EP X pins σ Q u s:=⟨v,H,I,r,h⟩
 rcases l with ⟨hk,hm⟩ | ⟨hk,c,hc,hcell⟩
 ·exact wpAny_Name (wpAny_loadName_local I.ok.kind hk hn hm fin) hd
 ·rcases hk with hk | hk
  ·exact wpAny_Name (wpAny_loadName_cell I.ok.kind hk hc hcell fin) hd
  ·exact wpAny_Name (wpAny_loadName_free I.ok.kind hk hc hcell fin hcd) hd
theorem ai {i j pos}:PE X (.Constant (.int i) j pos) (tC (.int i)):=fun _ _ _ H _ I h=>wpAny_Constant_int ⟨.int i,H,I.tok _,⟨_,rfl⟩,h⟩
theorem yw {b j pos}:PE X (.Constant (.bool b) j pos) (tC (.bl b)):=fun _ _ _ H _ I h=>Constant_bool ⟨.bl b,H,I,rfl,h⟩
theorem aV {x j pos}:PE X (.Constant (.str x) j pos) (tC (.str x)):=fun _ _ _ H _ I h=>Calls.Constant_str ⟨.str x,H,I.tok _,⟨_,rfl⟩,h⟩
noncomputable def Gl (X:Cx) (x:Str):Prop:=X.env.kindOf x=some .globalImplicit
theorem ri {E:Value→Shared→Prop} {pins:List (Addr×Obj)} {s:Shared} {σ:St} {H:Hp} {x:Str} {u:Value} {pos:Pos} {Q:Value→Shared→Prop} (I:Inv X pins σ H s) (hg:Gl X x) (hm:X.mg x=some u) (h:Q u s)
  (hd:(x == ("__debug__":Str))=false:=by decide):wpAny (model X.prog X.w) X.A (eval (.Name x pos) X.env) Q E s:=
 Calls.Name_function_global I.ok.kind hg (Calls.loadGlobal_global (by rw [I.ok.glob];exact I.mod.glob.keeps I.bk) hm h) hd
theorem k8 {E:Value→Shared→Prop} {pins:List (Addr×Obj)} {s:Shared} {σ:St} {H:Hp} {x:Str} {u:Value} {pos:Pos} {Q:Value→Shared→Prop} (I:Inv X pins σ H s) (hg:Gl X x) (hm:X.mg x=none) (hv:bootBuiltins x=some u) (h:Q u s)
  (hn:x≠"__name__":=by decide) (hd:(x == ("__debug__":Str))=false:=by decide):wpAny (model X.prog X.w) X.A (eval (.Name x pos) X.env) Q E s:=by
 obtain ⟨mb,h1,h2⟩:=I.mod.blt
 exact Calls.Name_function_global I.ok.kind hg (Calls.loadGlobal_builtin (by rw [I.ok.glob];exact I.mod.glob.keeps I.bk) hm (by rw [I.ok.blt];exact h1.keeps I.bk) ((h2 x hn).trans hv) h) hd
theorem gI {x:Str} {v:V} {u:Value} {pos:Pos} (hg:Gl X x) (hm:X.mg x=some u) (r:RelV v u) (hd:(x == ("__debug__":Str))=false:=by decide):PE X (.Name x pos) (tC v):=
 fun _ _ _ H _ I h=>ri I hg hm ⟨v,H,I,r,h⟩ hd
theorem AF {x:Str} {v:V} {u:Value} {pos:Pos} (hg:Gl X x) (hm:X.mg x=none) (hv:bootBuiltins x=some u) (r:RelV v u) (hn:x≠"__name__":=by decide) (hd:(x == ("__debug__":Str))=false:=by decide):PE X (.Name x pos) (tC v):=
 fun _ _ _ H _ I h=>k8 I hg hm hv ⟨v,H,I,r,h⟩ hn hd
variable {a b:Expr} {ta tb:TE} {pos:Pos}
noncomputable def PC (X:Cx) (op:CmpOp) (a b:Expr) (t:TE):Prop:=
 ∀ (pins:List (Addr×Obj)) (s:Shared) (σ:St) (H:Hp) (Q:VK),Inv X pins σ H s→t σ H Q→
  wpAny (model X.prog X.w) X.A (eval a X.env) (fun v s₁=>wpAny (model X.prog X.w) X.A (eval b X.env) (fun u s₂=>wpAny (model X.prog X.w) X.A (compareOp op v u) (EP X pins σ Q) X.xe s₂) X.xe s₁) X.xe s
noncomputable def tB (t:TE):TT:=fun σ H Q=>t σ H fun x H1=>∃ c,x= .bl c∧Q c H1
theorem Gm {op:CmpOp} {t:TE} (h:PC X op a b t) (h1:behindInMarks op b=false:=by first | exact nobehind _ (by decide) (by decide) | rfl):PE X (.Compare a [op] [b] pos) t:=fun pins s σ H Q I hw=>wpAny_Compare1 (h pins s σ H Q I hw) h1
theorem DE {op:CmpOp} {t:TE} (h:PC X op a b t) (h1:behindInMarks op b=false:=by first | exact nobehind _ (by decide) (by decide) | rfl):PT X (.Compare a [op] [b] pos) (tB t):=by
 intro pins s σ H Q I hw
 refine wpAny_isTrue_Compare1 (thn (h pins s σ H _ I hw) fun v s1 h1=>thn h1 fun u s2 h2=>thn h2 fun c s3 ⟨x,H1,I1,r1,q1⟩=>?_) h1
 obtain ⟨d,rfl,q⟩:=q1
 cases r1
 exact wpAny_truthy_bool ⟨H1,I1,q⟩
theorem jp {e:Expr} {t:TE} (h:PE X e t) (he:∀ whole,isTrue e X.env whole=(do let v ← whole;standAt e.pos;holding [v] (truthy v)):=by intro _;rfl):PT X e (tB t):=by
 intro pins s σ H Q I hw
 refine isTrue_plain (thn (h pins s σ H _ I hw) fun v s1 ⟨x,H1,I1,r1,q1⟩=>?_) (he _)
 obtain ⟨d,rfl,q⟩:=q1
 cases r1
 exact wpAny_truthy_bool ⟨H1,I1,q⟩
variable {tA tB':TT} {rest:List Expr}
noncomputable def tAnd (t u:TT):TT:=fun σ H Q=>t σ H fun c H1=>if c=true then u σ H1 Q else Q false H1
noncomputable def tOr (t u:TT):TT:=fun σ H Q=>t σ H fun c H1=>if c=true then Q true H1 else u σ H1 Q
noncomputable def tNot (t:TT):TT:=fun σ H Q=>t σ H fun c H1=>Q (!c) H1
theorem AD (ha:PT X a tA):PW X (.BoolOp .And [a] pos) tA:=by
 intro wh pins s σ H Q I h
 refine isTrue_and (thn (ha pins s σ H Q I h) fun c s1 e=>?_)
 cases c with
 | true=>exact isTrue_and_nil e
 | false=>exact e
theorem sP (ha:PT X a tA):PW X (.BoolOp .Or [a] pos) tA:=by
 intro wh pins s σ H Q I h
 refine isTrue_or (thn (ha pins s σ H Q I h) fun c s1 e=>?_)
 cases c with
 | false=>exact isTrue_or_nil e
 | true=>exact e
theorem DD (ha:PT X a tA) (hb:PW X (.BoolOp .And (b::rest) pos) tB'):PW X (.BoolOp .And (a::b::rest) pos) (tAnd tA tB'):=by
 intro wh pins s σ H Q I h
 refine isTrue_and (thn (ha pins s σ H _ I h) fun c s1 ⟨H1,I1,q1⟩=>?_)
 cases c with
 | true=>exact hb wh pins s1 σ H1 Q I1 q1
 | false=>exact ⟨H1,I1,q1⟩
theorem vg (ha:PT X a tA) (hb:PW X (.BoolOp .Or (b::rest) pos) tB'):PW X (.BoolOp .Or (a::b::rest) pos) (tOr tA tB'):=by
 intro wh pins s σ H Q I h
 refine isTrue_or (thn (ha pins s σ H _ I h) fun c s1 ⟨H1,I1,q1⟩=>?_)
 cases c with
 | true=>exact ⟨H1,I1,q1⟩
 | false=>exact hb wh pins s1 σ H1 Q I1 q1
theorem pZ (ha:PT X a tA):PT X (.UnaryOp .Not a pos) (tNot tA):=by
 intro pins s σ H Q I h
 exact isTrue_not (ha pins s σ H (fun c H1=>Q (!c) H1) I h)
noncomputable def FD (ta tb:TE):TE:=fun σ H Q=>ta σ H fun x H1=>∃ c,x= .bl c∧if c=true then tb σ H1 Q else Q (.bl false) H1
theorem xy {op} {t:TE} (h:PE X a t):PE X (.BoolOp op [a] pos) t:=fun pins s σ H Q I hw=>BoolOp_one (h pins s σ H Q I hw)
theorem p4 (ha:PE X a ta) (hb:PE X (.BoolOp .And (b::rest) pos) tb):PE X (.BoolOp .And (a::b::rest) pos) (FD ta tb):=by
 intro pins s σ H Q I h
 refine BoolOp_and (thn (ha pins s σ H _ I h) fun v s1 ⟨x,H1,I1,r1,q1⟩=>?_)
 obtain ⟨c,rfl,q1⟩:=q1
 cases r1
 refine wpAny_truthy_bool ?_
 cases c with
 | true=>exact hb pins s1 σ H1 Q I1 q1
 | false=>exact ⟨.bl false,H1,I1,rfl,q1⟩
noncomputable def tIf (t:TT) (ta tb:TE):TE:=fun σ H Q=>t σ H fun c H1=>if c=true then ta σ H1 Q else tb σ H1 Q
theorem CC {c:Expr} (hc:PT X c tA) (ha:PE X a ta) (hb:PE X b tb):PE X (.IfExp c a b pos) (tIf tA ta tb):=by
 intro pins s σ H Q I h
 refine wpAny_IfExp (thn (hc pins s σ H _ I h) fun d s1 ⟨H1,I1,q1⟩=>?_)
 cases d with
 | true=>exact ha pins s1 σ H1 Q I1 q1
 | false=>exact hb pins s1 σ H1 Q I1 q1
end
noncomputable def SqL (K:PySem.W.Frag) (H:Hp) (a:Addr) (xs:List V):Prop:=
 Rd H a (.lst xs)∨
  ∃ (o:Obj) (its:Array Value) (n:Nat),K.lookup a=some o∧o.cls= .type "list"∧o.dict=none∧o.data= .seq its n∧its.size≤sizeLine∧Vals xs its.toList
noncomputable def SqT (K:PySem.W.Frag) (H:Hp) (a:Addr) (xs:List V):Prop:=
 Rd H a (.tup xs)∨
  ∃ (o:Obj) (its:Array Value) (n:Nat),K.lookup a=some o∧o.cls= .type "tuple"∧o.data= .seq its n∧its.size≤sizeLine∧Vals xs its.toList
noncomputable def absV:Value→Option V
 | .none=>some .non
 | .bool b=>some (.bl b)
 | .int i _=>some (.int i)
 | .str x _=>some (.str x)
 | .bytes b _=>some (.byt b)
 | .float b _=>some (.flt b)
 | .ref a=>some (.ref a)
 | .type n=>some (.ty n)
 | _=>none
theorem RelV.abs {x:V} {u:Value} (r:RelV x u):absV u=some x:=by
 cases x with
 | non=>cases r;rfl
 | bl _=>cases r;rfl
 | int _=>obtain ⟨t,rfl⟩:=r;rfl
 | str _=>obtain ⟨t,rfl⟩:=r;rfl
 | byt _=>obtain ⟨t,rfl⟩:=r;rfl
 | flt _=>obtain ⟨t,rfl⟩:=r;rfl
 | ref _=>cases r;rfl
 | ty _=>cases r;rfl
theorem RelV.inj {x y:V} {u:Value} (r:RelV x u) (q:RelV y u):x=y:=Option.some.inj (r.abs.symm.trans q.abs)
theorem Vals.inj:∀ {xs ys:List V} {us:List Value},Vals xs us→Vals ys us→xs=ys
 | _,_,_,.nil,.nil=>rfl
 | _,_,_,.cons r t,.cons r' t'=>by rw [r.inj r',Vals.inj t t']
section
variable {X:Cx} {pins:List (Addr×Obj)} {σ:St} {H:Hp} {s:Shared} {a:Addr} {xs ys:List V}
theorem SqL.of {K:PySem.W.Frag} (h:H a=some (.lst xs)):SqL K H a xs:= .inl (.inl h)
theorem SqT.of {K:PySem.W.Frag} (h:H a=some (.tup xs)):SqT K H a xs:= .inl (.inl h)
theorem Inv.list (I:Inv X pins σ H s) (h:SqL X.K H a xs):∃ its:List Value,Vals xs its∧PlainL s.heap a its.toArray∧xs.length≤sizeLine:=by
 rcases h with h | ⟨o,its,n,hk,hc,hd,hs,hz,r⟩
 ·obtain ⟨z,its,n,r,e⟩:=h.ok I.hok
  exact ⟨its,r,⟨_,n,e,rfl,rfl,rfl⟩,z⟩
 ·refine ⟨its.toList,r,⟨o,n,I.kIn a o hk,hc,hd,by simpa using hs⟩,?_⟩
  have e:=r.length
  simp only [Array.length_toList] at e
  omega
theorem Inv.tuple (I:Inv X pins σ H s) (h:SqT X.K H a xs):∃ its:List Value,Vals xs its∧IsTup s.heap a its.toArray∧xs.length≤sizeLine:=by
 rcases h with h | ⟨o,its,n,hk,hc,hs,hz,r⟩
 ·obtain ⟨z,its,r,p⟩:=h.ok I.hok
  exact ⟨its,r,p,z⟩
 ·refine ⟨its.toList,r,⟨o,I.kIn a o hk,hc,n,by simpa using hs⟩,?_⟩
  have e:=r.length
  simp only [Array.length_toList] at e
  omega
theorem Inv.list_inj (I:Inv X pins σ H s) (h:SqL X.K H a xs) (h':SqL X.K H a ys):xs=ys:=by
 obtain ⟨its,r,⟨o,n,e,_,_,d⟩,_⟩:=I.list h
 obtain ⟨its',r',⟨o',n',e',_,_,d'⟩,_⟩:=I.list h'
 rw [e] at e';cases e'
 rw [d] at d'
 injection d' with d1 _
 have:its=its':=by simpa using congrArg Array.toList d1
 subst this
 exact r.inj r'
theorem Inv.tuple_inj (I:Inv X pins σ H s) (h:SqT X.K H a xs) (h':SqT X.K H a ys):xs=ys:=by
 obtain ⟨its,r,⟨o,e,_,n,d⟩,_⟩:=I.tuple h
 obtain ⟨its',r',⟨o',e',_,n',d'⟩,_⟩:=I.tuple h'
 rw [e] at e';cases e'
 rw [d] at d'
 injection d' with d1 _
 have:its=its':=by simpa using congrArg Array.toList d1
 subst this
 exact r.inj r'
end
noncomputable abbrev Cx.wish (X:Cx) (E:Value→Shared→Prop):Cx:={X with xe:=E}
noncomputable abbrev Cx.nox (X:Cx):Cx:=X.wish fun _ _=>False
theorem Cx.Ok.wish {X:Cx} (ok:X.Ok) (E:Value→Shared→Prop):(X.wish E).Ok:=
 ⟨ok.mod,ok.kind,ok.glob,ok.blt,ok.above,ok.inj,ok.has,ok.cab,ok.hd,ok.frames,ok.stk,ok.exf,ok.bs,ok.bsz,ok.noex,ok.exfs,ok.funs,ok.frf⟩
theorem Cx.Ok.unwish {X:Cx} {E:Value→Shared→Prop} (ok:(X.wish E).Ok):X.Ok:=
 ⟨ok.mod,ok.kind,ok.glob,ok.blt,ok.above,ok.inj,ok.has,ok.cab,ok.hd,ok.frames,ok.stk,ok.exf,ok.bs,ok.bsz,ok.noex,ok.exfs,ok.funs,ok.frf⟩
section
variable {X:Cx} {pins:List (Addr×Obj)} {σ:St} {H:Hp} {s:Shared} {E:Value→Shared→Prop}
theorem Inv.wish (I:Inv X pins σ H s) (E:Value→Shared→Prop):Inv (X.wish E) pins σ H s:=⟨I.ok.wish E,I.os,I.bare,I.base,I.loc,I.cell,I.free,I.freeC,I.pin,I.hok,I.len⟩
theorem Inv.unwish (I:Inv (X.wish E) pins σ H s):Inv X pins σ H s:=⟨I.ok.unwish,I.os,I.bare,I.base,I.loc,I.cell,I.free,I.freeC,I.pin,I.hok,I.len⟩
theorem SP.unwish {D:Ends} {f:Flow} {s':Shared} (h:SP (X.wish E) pins D f s'):SP X pins D f s':=by
 cases f with
 | next=>obtain ⟨σ',H',I,q⟩:=h;exact ⟨σ',H',I.unwish,q⟩
 | brk=>obtain ⟨σ',H',I,q⟩:=h;exact ⟨σ',H',I.unwish,q⟩
 | cont=>obtain ⟨σ',H',I,q⟩:=h;exact ⟨σ',H',I.unwish,q⟩
 | ret u=>obtain ⟨v,σ',H',I,r,q⟩:=h;exact ⟨v,σ',H',I.unwish,r,q⟩
theorem PSs.nox {st:List Stmt} {t:TS} (h:PSs X.nox st t):PSs X st t:=fun pins s σ H D I hw=>
 wpAny_mono (h pins s σ H D (I.wish _) hw) (fun _ _ q=>q.unwish) fun _ _ z=>False.elim z
end
section
variable {X:Cx} {st:Stmt} {rest:List Stmt} {t u:TS} {e:Expr} {te:TE} {pos:Pos}
noncomputable def Fy:TS:=fun D σ H=>D.nx σ H
noncomputable def tSeq (t u:TS):TS:=fun D σ H=>t {D with nx:=u D} σ H
theorem bB:PSs X [] Fy:=fun _ _ σ H _ I h=>wpAny_execs_nil ⟨σ,H,I,h⟩
theorem af (h1:PS X st t) (h2:PSs X rest u):PSs X (st::rest) (tSeq t u):=by
 intro pins s σ H D I h
 refine wpAny_execs_cons (thn (h1 pins s σ H {D with nx:=u D} I h) fun f s1 q=>?_)
 cases f with
 | next=>
   obtain ⟨σ',H',I',q⟩:=q
   exact h2 pins s1 σ' H' D I' q
 | ret v=>exact q
 | brk=>exact q
 | cont=>exact q
theorem ak (h1:PS X st t):PSs X [st] t:=by
 intro pins s σ H D I h
 refine wpAny_execs_cons (thn (h1 pins s σ H D I h) fun f s1 q=>?_)
 cases f with
 | next=>exact wpAny_execs_nil q
 | ret v=>exact q
 | brk=>exact q
 | cont=>exact q
theorem Inv.quiet {pins:List (Addr×Obj)} {σ:St} {H:Hp} {s:Shared} (I:Inv X pins σ H s):interactive X.env=false:=by simp [interactive,I.ok.kind]
noncomputable def FB (te:TE):TS:=fun D σ H=>te σ H fun _ H1=>D.nx σ H1
theorem bN (he:PE X e te) (hs:swapsWith e none pos.line X.env=pure false:=by rfl):PS X (.Expr e pos) (FB te):=by
 intro pins s σ H D I h
 exact wpAny_Expr_any (thn (he pins s σ H _ I h) fun v s1 ⟨x,H1,I1,r1,q1⟩=>⟨σ,H1,I1,q1⟩) I.quiet hs
noncomputable def tRet (te:TE):TS:=fun D σ H=>te σ H D.rt
theorem br (he:PE X e te):PS X (.Return (some e) pos) (tRet te):=by
 intro pins s σ H D I h
 exact wpAny_Return_some (thn (he pins s σ H _ I h) fun v s1 ⟨x,H1,I1,r1,q1⟩=>⟨x,σ,H1,I1,r1,q1⟩)
noncomputable def tIfS (c:TT) (t u:TS):TS:=fun D σ H=>c σ H fun b H1=>if b=true then t D σ H1 else u D σ H1
theorem eF {c:Expr} {a b:List Stmt} {tc:TT} (hc:PT X c tc) (ha:PSs X a t) (hb:PSs X b u):PS X (.If c a b pos) (tIfS tc t u):=by
 intro pins s σ H D I h
 refine wpAny_If (thn (hc pins s σ H _ I h) fun d s1 ⟨H1,I1,q1⟩=>?_)
 cases d with
 | true=>exact ha pins s1 σ H1 D I1 q1
 | false=>exact hb pins s1 σ H1 D I1 q1
end
noncomputable abbrev TG:=V→St→Hp→(St→Hp→Prop)→Prop
noncomputable abbrev TGs:=List V→St→Hp→(St→Hp→Prop)→Prop
noncomputable def PG (X:Cx) (target:Expr) (t:TG):Prop:=
 ∀ (pins:List (Addr×Obj)) (s:Shared) (σ:St) (H:Hp) (v:V) (u:Value) (Q:St→Hp→Prop),Inv X pins σ H s→RelV v u→t v σ H Q→
  wpAny (model X.prog X.w) X.A (assign target X.env u) (fun _ s'=>∃ σ' H',Inv X pins σ' H' s'∧Q σ' H') X.xe s
noncomputable def PGs (X:Cx) (ts:List Expr) (t:TGs):Prop:=
 ∀ (pins:List (Addr×Obj)) (s:Shared) (σ:St) (H:Hp) (vs:List V) (us:List Value) (Q:St→Hp→Prop),Inv X pins σ H s→Vals vs us→t vs σ H Q→
  wpAny (model X.prog X.w) X.A (assignInOrder ((assignEach ts X.env).map (·.2)) us) (fun _ s'=>∃ σ' H',Inv X pins σ' H' s'∧Q σ' H') X.xe s
section
variable {X:Cx} {pos:Pos}
noncomputable def zg (i:Nat):TG:=fun v σ H Q=>Q (σ.set i (some v)) H
theorem ao {i:Nat} {x:Str} (hN:X.N.Nodup) (hi:X.N[i]? =some x) (hx:Loc X.env.scope x) (hf:X.fn x=true∨X.env.scope.names.lookup x=some .local:=by first | exact .inl rfl | exact .inr rfl | assumption):PG X (.Name x pos) (zg i):=by
 intro pins s σ H v u Q I r h
 exact wpAny_assign_Name (xu I hN hi hx r (fun s' I'=>⟨_,H,I',h⟩) hf)
noncomputable def gNil:TGs:=fun vs σ H Q=>vs=[]∧Q σ H
noncomputable def EX (t:TG) (u:TGs):TGs:=fun vs σ H Q=>∃ v r,vs=v::r∧t v σ H fun σ' H'=>u r σ' H' Q
theorem gH:PGs X [] gNil:=by
 intro pins s σ H vs us Q I r h
 obtain ⟨e,h⟩:=h
 subst e
 cases r
 exact assignInOrder_nil ⟨σ,H,I,h⟩
theorem bA {e:Expr} {es:List Expr} {t:TG} {u:TGs} (h1:PG X e t) (h2:PGs X es u)
  (hs:(assignEach (e::es) X.env).map (·.2)=assign e X.env::(assignEach es X.env).map (·.2):=by rfl):PGs X (e::es) (EX t u):=by
 intro pins s σ H vs us Q I r h
 obtain ⟨v,vr,e1,h⟩:=h
 subst e1
 cases r with
 | cons r rr=>
   rw [hs]
   refine assignInOrder_cons (thn (h1 pins s σ H _ _ _ I r h) fun _ s1 ⟨σ1,H1,I1,q1⟩=>?_)
   exact h2 pins s1 σ1 H1 _ _ Q I1 rr q1
noncomputable def gTup (K:PySem.W.Frag) (n:Nat) (t:TGs):TG:=fun v σ H Q=>∃ a xs,v= .ref a∧SqT K H a xs∧xs.length=n∧t xs σ H Q
theorem sU {es:List Expr} {k:Nat} {t:TGs} {n:Nat} (hc:X.calm=true) (h:PGs X es t)
  (hn:(assignEach es X.env).length=n:=by rfl) (hst:(assignEach es X.env).findIdx? (·.1)=none:=by rfl):PG X (.Tuple es k pos) (gTup X.K n t):=by
 intro pins s σ H v u Q I r hw
 obtain ⟨a,xs,e1,hq,hl,hw⟩:=hw
 subst e1
 cases r
 obtain ⟨its,rv,ht,hz⟩:=I.tuple hq
 refine assign_Tuple_tuple (I.ok.hd hc) ht (by simp [hn,← hl,rv.length]) hst fun h' hx=>?_
 have I1:Inv X pins σ H {s with heap:=h'}:=I.kept (t':=s.toks) fun b o e=>hx b o (Nat.ne_of_lt (Heap.lt_size e)) e
 exact h pins _ σ H xs _ Q I1 (by simpa using rv) hw
noncomputable def tAsg (te:TE) (g:TG):TS:=fun D σ H=>te σ H fun x H1=>g x σ H1 D.nx
theorem Gf {tg e:Expr} {te:TE} {g:TG} (he:PE X e te) (hg:PG X tg g) (hs:swapsWithSole [tg] e pos.line X.env=pure false:=by rfl) (hw:swappedStores [tg] e X.env=pure none:=by rfl)
  (h1:(assignEach [tg] X.env).map (·.2)=[assign tg X.env]:=by rfl):PS X (.Assign [tg] e pos) (tAsg te g):=by
 intro pins s σ H D I h
 refine wpAny_Assign_stores (thn (he pins s σ H _ I h) fun v s1 ⟨x,H1,I1,r1,q1⟩=>?_) hs hw
 rw [h1]
 exact thn (hg pins s1 σ H1 x v _ I1 r1 q1) fun _ s2 q=>q
theorem bv {i:Nat} {x:Str} {e:Expr} {te:TE} {pos':Pos} (hN:X.N.Nodup) (hi:X.N[i]? =some x) (hx:Loc X.env.scope x) (he:PE X e te) (hs:swapsWith e (some (.Name x pos')) pos.line X.env=pure false:=by rfl) (hf:X.fn x=true∨X.env.scope.names.lookup x=some .local:=by first | exact .inl rfl | exact .inr rfl | assumption):
  PS X (.Assign [.Name x pos'] e pos) (tAsg te (zg i)):=by
 intro pins s σ H D I h
 refine wpAny_Assign_Name (thn (he pins s σ H _ I h) fun v s1 ⟨y,H1,I1,r1,q1⟩=>?_) hs
 exact xu I1 hN hi hx r1 (fun s2 I2=>⟨_,H1,I2,q1⟩) hf
end
section
variable {X:Cx} {pos:Pos}
noncomputable def Fv (c:TT) (tb:TS):TS:=fun D σ H=>∃ W:Nat→St→Hp→Prop,(∃ m,W m σ H)∧∀ m σ H,W m σ H→
 c σ H fun b H1=>if b=true then ∃ N:St→Hp→Prop,(∀ σ' H',N σ' H'→∃ m',m' < m∧W m' σ' H')∧tb {D with nx:=N,ct:=N,bk:=D.nx} σ H1 else D.nx σ H1
theorem Cz {c:Expr} {body:List Stmt} {tc:TT} {tb:TS} (hp:PassesOwn (model X.prog X.w) X.A X.env X.xe) (hc:PT X c tc) (hb:PSs X body tb):PS X (.While c body [] pos) (Fv tc tb):=by
 intro pins s σ H D I h
 obtain ⟨W,⟨m0,w0⟩,turn⟩:=h
 refine wpAny_While (codeAny_whileLoop (fun n s'=>∃ σ' H',Inv X pins σ' H' s'∧W n σ' H') ?_ m0 ⟨σ,H,I,w0⟩)
 rintro n s1 ⟨σ1,H1,I1,w1⟩
 refine wpAny_passesOwn hp (thn (hc pins s1 σ1 H1 _ I1 (turn n σ1 H1 w1)) fun b s2 ⟨H2,I2,q2⟩=>?_)
 cases b with
 | true=>
   obtain ⟨N,hN,q2⟩:=q2
   rw [if_pos rfl]
   refine wpAny_passesOwn hp (thn (hb pins s2 σ1 H2 _ I2 q2) fun f s3 q3=>?_)
   cases f with
   | next=>
     obtain ⟨σ3,H3,I3,n3⟩:=q3
     obtain ⟨m',hm,w3⟩:=hN σ3 H3 n3
     exact ⟨m',hm,σ3,H3,I3,w3⟩
   | cont=>
     obtain ⟨σ3,H3,I3,n3⟩:=q3
     obtain ⟨m',hm,w3⟩:=hN σ3 H3 n3
     exact ⟨m',hm,σ3,H3,I3,w3⟩
   | brk=>exact q3
   | ret v=>exact q3
 | false=>
   rw [if_neg Bool.false_ne_true]
   exact wpAny_execs_nil ⟨σ1,H2,I2,q2⟩
end
structure It where
 go:Nat→Hp→Prop
 yld:Nat→Hp→V→Hp→Prop
 stop:Nat→Hp→Prop
noncomputable def FpOk (X:Cx) (pins:List (Addr×Obj)) (H:Hp) (b:Addr):Prop:=
 H b=none∧b≠X.env.locals∧b∉X.fs∧(b∈X.ex∨X.s₀.heap.objs.size≤b)∧(∀ x c,X.env.cells.lookup x=some c→c≠b)∧∀ p∈X.pn++pins,p.1≠b
theorem Inv.fpOk {X:Cx} {pins:List (Addr×Obj)} {σ:St} {H H':Hp} {s:Shared} {b:Addr} (I:Inv X pins σ H s) (hb:s.heap.objs.size≤b) (hn:H' b=none):FpOk X pins H' b:=by
 refine ⟨hn,Nat.ne_of_gt (Nat.lt_of_lt_of_le I.lt hb),I.nofs hb,.inr (Nat.le_trans I.sz hb),fun x c e z=>?_,fun p hp z=>?_⟩
 ·obtain ⟨v,q⟩:=I.cell x c e
  exact absurd (Nat.lt_of_lt_of_le q.lt (by rw [z];exact hb)) (Nat.lt_irrefl _)
 ·exact absurd (Nat.lt_of_lt_of_le (Heap.lt_size (I.pin p hp).1) (by rw [z];exact hb)) (Nat.lt_irrefl _)
structure Turn (P:Program) (w:World) (K:PySem.W.Frag) (tg:Expr) (J:It) (fp:List Addr) (it:Addr) (tn:Nat→Heap→Prop):Prop where
 mem:it∈fp
 obj:∀ i h,tn i h→∀ b∈fp,∃ o,h.get? b=some o∧∀ v,o.data≠.cell v
 keep:∀ i h h',tn i h→(∀ b∈fp,∀ o,h.get? b=some o→h'.get? b=some o)→tn i h'
 item:∀ (X:Cx),X.prog=P→X.w=w→X.K=K→X.calm=true→∀ (i:Nat) (pins:List (Addr×Obj)) (s:Shared) (σ:St) (H:Hp) (E:Value→Shared→Prop),Inv X pins σ H s→(∀ b∈fp,FpOk X pins H b)→tn i s.heap→J.go i H→
  wpAny (model P w) X.A (pyNext (.ref it)) (fun r s1=>∃ u,r=some u∧
   wpAny (model P w) X.A (letOwnedTupleGo tg (.ref it) u) (fun _ s2=>∃ x H',Inv X pins σ H' s2∧RelV x u∧J.yld i H x H'∧tn (i + 1) s2.heap∧∀ b∈fp,H' b=none) E s1) E s
 done:∀ (X:Cx),X.prog=P→X.w=w→X.K=K→X.calm=true→∀ (i:Nat) (pins:List (Addr×Obj)) (s:Shared) (σ:St) (H:Hp) (E:Value→Shared→Prop),Inv X pins σ H s→(∀ b∈fp,FpOk X pins H b)→tn i s.heap→J.stop i H→
  wpAny (model P w) X.A (pyNext (.ref it)) (fun r s1=>r=none∧Inv X pins σ H s1) E s
 self:∀ (A:Around) (i:Nat) (s:Shared) (Q:Value→Shared→Prop) (E:Value→Shared→Prop),tn i s.heap→Q (.ref it) s→wpAny (model P w) A (pyIter (.ref it)) Q E s
noncomputable abbrev TI:=St→Hp→(It→Hp→Prop)→Prop
noncomputable def PIE (X:Cx) (pins:List (Addr×Obj)) (σ:St) (tg:Expr) (R:It→Hp→Prop) (itv:Value) (s2:Shared):Prop:=
 ∃ (it:Addr) (fp:List Addr) (tn:Nat→Heap→Prop) (J:It) (H':Hp),itv= .ref it∧Inv X pins σ H' s2∧Turn X.prog X.w X.K tg J fp it tn∧tn 0 s2.heap∧(∀ b∈fp,FpOk X pins H' b)∧R J H'
noncomputable def PI (X:Cx) (tg iter:Expr) (wi:TI):Prop:=
 ∀ (pins:List (Addr×Obj)) (s:Shared) (σ:St) (H:Hp) (R:It→Hp→Prop),Inv X pins σ H s→wi σ H R→
  wpAny (model X.prog X.w) X.A (eval iter X.env) (fun v s1=>wpAny (model X.prog X.w) X.A (pyIter v) (PIE X pins σ tg R) X.xe s1) X.xe s
theorem C3 {M:Model} {A:Around} {E:Value→Shared→Prop} {s:Shared} {tg:Expr} {it:Addr} {u:Value} {o:Obj} {n:String} {vs:Array Value} {Q:Unit→Shared→Prop} (ho:s.heap.get? it=some o) (hc:o.cls= .type n) (hd:o.data= .fields vs)
  (hn:["enumerate","zip","dict_itemiterator","dict_reverseitemiterator","odict_iterator","itertools.zip_longest","itertools.pairwise"].contains n=false) (hQ:Q () s):wpAny M A (letOwnedTupleGo tg (.ref it) u) Q E s:=by
 unfold letOwnedTupleGo
 cases tg<;>first
  | exact wpAny_pure hQ
  | (cases u<;>first
    | exact wpAny_pure hQ
    | (refine wpAny_bind (wpAny_load ho ?_)
       rw [hc,hd]
       show wpAny M A (if (["enumerate","zip","dict_itemiterator","dict_reverseitemiterator","odict_iterator","itertools.zip_longest","itertools.pairwise"].contains n&&vs[0]? == some (rawInt _))=true then _ else _) Q E s
       rw [if_neg (by intro h;rw [hn,Bool.false_and] at h;cases h)]
       exact wpAny_pure hQ))
noncomputable def Itl (K:PySem.W.Frag) (a:Addr):It:=
 ⟨fun i H=>∃ xs x,SqL K H a xs∧xs[i]? =some x,fun i H x H'=>H'=H∧∀ xs,SqL K H a xs→xs[i]? =some x,fun i H=>∃ xs,SqL K H a xs∧xs.length≤i⟩
noncomputable def Itt (K:PySem.W.Frag) (a:Addr):It:=
 ⟨fun i H=>∃ xs x,SqT K H a xs∧xs[i]? =some x,fun i H x H'=>H'=H∧∀ xs,SqT K H a xs→xs[i]? =some x,fun i H=>∃ xs,SqT K H a xs∧xs.length≤i⟩
noncomputable def Itr (lo:Int) (n:Nat):It:=⟨fun i _=>i < n,fun i H x H'=>H'=H∧x= .int (lo + i),fun i _=>n≤i⟩
theorem z9 {P:Program} {w:World} {K:PySem.W.Frag} {tg:Expr} (a it:Addr):Turn P w K tg (Itl K a) [it] it (fun i h=>h.IsListIter it a i) where
 mem:=by simp
 obj:=fun i h st b hb=>by
  have e:b=it:=by simpa using hb
  subst e
  obtain ⟨o,e,c,d⟩:=st
  exact ⟨o,e,fun v z=>by rw [d] at z;cases z⟩
 keep:=fun i h h' st k=>st.at fun o e=>k it (by simp) o e
 item:=by
  intro X hP hw hK hc i pins s σ H E I hf st hg
  subst hP hw hK
  obtain ⟨xs,x,hq,hx⟩:=hg
  obtain ⟨its,rv,p,hz⟩:=I.list hq
  obtain ⟨u,hu,ru⟩:=rv.get hx
  obtain ⟨f0,f1,f2,f3,f4,f5⟩:=hf it (by simp)
  refine wpAny_pyNext_list_item st p.isList (x:=u) (by simpa using hu) fun h' st' sb=>?_
  have I1:Inv X pins σ H {s with heap:=h'}:=I.turned (t':=s.toks) (fun b o hb e=>(sb.2 b hb).trans e) f0 f1 f3 f4 f5
  obtain ⟨o,e,c,d⟩:=id st'
  exact ⟨u,rfl,C3 (s:={s with heap:=h'}) e c d (by decide) ⟨x,H,I1,ru,⟨rfl,fun ys hy=>by rw [I.list_inj hy hq];exact hx⟩,st',fun b hb=>(hf b hb).1⟩⟩
 done:=by
  intro X hP hw hK hc i pins s σ H E I hf st hg
  subst hP hw hK
  obtain ⟨xs,hq,hx⟩:=hg
  obtain ⟨its,rv,p,hz⟩:=I.list hq
  obtain ⟨f0,f1,f2,f3,f4,f5⟩:=hf it (by simp)
  have hl:=rv.length
  exact wpAny_pyNext_list_end (I.ok.hd hc) st p.isList (by simp;omega) fun h' eb=>⟨rfl,I.turned (t':=s.toks) (fun b o hb e=>eb b o hb e) f0 f1 f3 f4 f5⟩
 self:=fun _ _ _ _ _ st h=>wpAny_pyIter_listiter st h
theorem x5 {P:Program} {w:World} {K:PySem.W.Frag} {tg:Expr} (a it:Addr):Turn P w K tg (Itt K a) [it] it (fun i h=>h.IsTupleIter it a i) where
 mem:=by simp
 obj:=fun i h st b hb=>by
  have e:b=it:=by simpa using hb
  subst e
  obtain ⟨o,e,c,d⟩:=st
  exact ⟨o,e,fun v z=>by rw [d] at z;cases z⟩
 keep:=fun i h h' st k=>st.at fun o e=>k it (by simp) o e
 item:=by
  intro X hP hw hK hc i pins s σ H E I hf st hg
  subst hP hw hK
  obtain ⟨xs,x,hq,hx⟩:=hg
  obtain ⟨its,rv,p,hz⟩:=I.tuple hq
  obtain ⟨u,hu,ru⟩:=rv.get hx
  obtain ⟨f0,f1,f2,f3,f4,f5⟩:=hf it (by simp)
  refine wpAny_pyNext_tuple_item st (show s.heap.IsTuple a its.toArray from p) (x:=u) (by simpa using hu) fun h' st' sb=>?_
  have I1:Inv X pins σ H {s with heap:=h'}:=I.turned (t':=s.toks) (fun b o hb e=>(sb.2 b hb).trans e) f0 f1 f3 f4 f5
  obtain ⟨o,e,c,d⟩:=id st'
  exact ⟨u,rfl,C3 (s:={s with heap:=h'}) e c d (by decide) ⟨x,H,I1,ru,⟨rfl,fun ys hy=>by rw [I.tuple_inj hy hq];exact hx⟩,st',fun b hb=>(hf b hb).1⟩⟩
 done:=by
  intro X hP hw hK hc i pins s σ H E I hf st hg
  subst hP hw hK
  obtain ⟨xs,hq,hx⟩:=hg
  obtain ⟨its,rv,p,hz⟩:=I.tuple hq
  obtain ⟨f0,f1,f2,f3,f4,f5⟩:=hf it (by simp)
  have hl:=rv.length
  exact wpAny_pyNext_tuple_end (I.ok.hd hc) st (show s.heap.IsTuple a its.toArray from p) (by simp;omega) fun h' eb=>⟨rfl,I.turned (t':=s.toks) (fun b o hb e=>eb b o hb e) f0 f1 f3 f4 f5⟩
 self:=fun _ _ _ _ _ st h=>wpAny_pyIter_tupleiter st h
theorem x6 {P:Program} {w:World} {K:PySem.W.Frag} {tg:Expr} (it:Addr) (lo:Int) (n:Nat):Turn P w K tg (Itr lo n) [it] it (fun i h=>IsRangeIter h it (lo + (i:Nat) * 1) ((n:Int) - (i:Nat)) 1) where
 mem:=by simp
 obj:=fun i h st b hb=>by
  have e:b=it:=by simpa using hb
  subst e
  exact ⟨_,st,fun v z=>by
   have z':Data.fields _=Data.cell v:=z
   cases z'⟩
 keep:=fun i h h' st k=>k it (by simp) _ st
 item:=by
  intro X hP hw hK hc i pins s σ H E I hf st hg
  subst hP hw hK
  obtain ⟨f0,f1,f2,f3,f4,f5⟩:=hf it (by simp)
  have W:=Walks.range (prog:=X.prog) (w:=X.w) (I.ok.hd hc) it lo 1 n
  refine W.item i s _ _ hg st fun v h' tk hv st' kk=>?_
  obtain ⟨t,rfl⟩:=hv
  have I1:Inv X pins σ H {s with heap:=h',toks:=tk}:=I.turned (fun b o hb e=>kk b o (by simpa using hb) e) f0 f1 f3 f4 f5
  refine ⟨_,rfl,C3 (s:={s with heap:=h',toks:=tk}) (n:="range_iterator") st' rfl rfl (by decide) ⟨.int (lo + i),H,I1,⟨t,?_⟩,⟨rfl,rfl⟩,st',fun b hb=>(hf b hb).1⟩⟩
  rw [Int.mul_one]
 done:=by
  intro X hP hw hK hc i pins s σ H E I hf st hg
  subst hP hw hK
  obtain ⟨f0,f1,f2,f3,f4,f5⟩:=hf it (by simp)
  exact wpAny_pyNext_range_end (I.ok.hd hc) st (by have:n≤i:=hg;omega) fun h' eb=>⟨rfl,I.turned (t':=s.toks) (fun b o hb e=>eb b o hb e) f0 f1 f3 f4 f5⟩
 self:=fun _ _ _ _ _ st h=>wpAny_pyIter_rangeiter st h
section
variable {X:Cx} {tg:Expr}
noncomputable def EV (K:PySem.W.Frag) (tl:TE):TI:=fun σ H R=>tl σ H fun x H1=>∃ a,x= .ref a∧(∃ xs,SqL K H1 a xs)∧R (Itl K a) H1
noncomputable def iTup (K:PySem.W.Frag) (tl:TE):TI:=fun σ H R=>tl σ H fun x H1=>∃ a,x= .ref a∧(∃ xs,SqT K H1 a xs)∧R (Itt K a) H1
theorem EB {l:Expr} {tl:TE} (hl:PE X l tl):PI X tg l (EV X.K tl):=by
 intro pins s σ H R I h
 refine thn (hl pins s σ H _ I h) fun v s1 ⟨x,H1,I1,r1,q1⟩=>?_
 obtain ⟨a,e,⟨xs,hq⟩,q⟩:=q1
 subst e
 cases r1
 obtain ⟨its,rv,p,hz⟩:=I1.list hq
 refine wpAny_pyIter_list p.isList ?_
 refine ⟨s1.heap.objs.size,[s1.heap.objs.size],_,_,H1,rfl,I1.kept (t':=s1.toks) fun b o e=>Heap.get?_push_of_some _ e,z9 a _,⟨_,Heap.get?_push_size _ rfl,rfl,rfl⟩,fun b hb=>?_,q⟩
 have e:b=s1.heap.objs.size:=by simpa using hb
 subst e
 exact I1.fpOk (Nat.le_refl _) (I1.hok.fresh (Nat.le_refl _))
theorem Gh {l:Expr} {tl:TE} (hl:PE X l tl):PI X tg l (iTup X.K tl):=by
 intro pins s σ H R I h
 refine thn (hl pins s σ H _ I h) fun v s1 ⟨x,H1,I1,r1,q1⟩=>?_
 obtain ⟨a,e,⟨xs,hq⟩,q⟩:=q1
 subst e
 cases r1
 obtain ⟨its,rv,p,hz⟩:=I1.tuple hq
 refine wpAny_pyIter_tuple (show s1.heap.IsTuple a its.toArray from p) ?_
 refine ⟨s1.heap.objs.size,[s1.heap.objs.size],_,_,H1,rfl,I1.kept (t':=s1.toks) fun b o e=>Heap.get?_push_of_some _ e,x5 a _,⟨_,Heap.get?_push_size _ rfl,rfl,rfl⟩,fun b hb=>?_,q⟩
 have e:b=s1.heap.objs.size:=by simpa using hb
 subst e
 exact I1.fpOk (Nat.le_refl _) (I1.hok.fresh (Nat.le_refl _))
theorem Cw {pins:List (Addr×Obj)} {σ:St} {H:Hp} {s:Shared} {R:It→Hp→Prop} {E:Value→Shared→Prop} {lo hi:Int} {t u v:Tok} {tk:Nat} (I:Inv X pins σ H s) (h1: -(2 ^ 62)≤lo) (h2:lo < 2 ^ 62) (h3: -(2 ^ 62)≤hi) (h4:hi < 2 ^ 62)
  (q:R (Itr lo (hi - lo).toNat) H):wpAny (model X.prog X.w) X.A (pyIter (.ref s.heap.objs.size)) (PIE X pins σ tg R) E {s with heap:=s.heap.push {cls:= .type "range",data:= .fields #[.int lo t,.int hi u,.int 1 v]},toks:=tk}:=by
 refine wpAny_pyIter_range (IsRange.new ..) (small_one h1 h2 h3 h4) ?_
 have I1:Inv X pins σ H {s with heap:=s.heap.push {cls:= .type "range",data:= .fields #[.int lo t,.int hi u,.int 1 v]},toks:=tk}:=I.kept fun b o e=>Heap.get?_push_of_some _ e
 refine ⟨(s.heap.push {cls:= .type "range",data:= .fields #[.int lo t,.int hi u,.int 1 v]}).objs.size,[(s.heap.push {cls:= .type "range",data:= .fields #[.int lo t,.int hi u,.int 1 v]}).objs.size],_,_,H,rfl,
  I1.kept (t':=tk) fun b o e=>Heap.get?_push_of_some _ e,x6 _ lo (hi - lo).toNat,?_,fun b hb=>?_,q⟩
 ·have e1:lo + ((0:Nat):Int) * 1=lo:=by simp
  have e2:(((hi - lo).toNat:Nat):Int) - ((0:Nat):Int)=Builtin.Range.rangeSize lo hi 1:=by rw [rangeSize_one];split<;>omega
  show IsRangeIter _ _ (lo + ((0:Nat):Int) * 1) ((((hi - lo).toNat:Nat):Int) - ((0:Nat):Int)) 1
  rw [e1,e2]
  exact Heap.get?_push_size _ rfl
 ·have e:b=(s.heap.push {cls:= .type "range",data:= .fields #[.int lo t,.int hi u,.int 1 v]}).objs.size:=by simpa using hb
  subst e
  exact I1.fpOk (Nat.le_refl _) (I1.hok.fresh (Nat.le_refl _))
noncomputable def GH (ta:TA):TI:=fun σ H R=>ta σ H fun vs H1=>∃ j:Int,vs=[.int j]∧-(2 ^ 62)≤j∧j < 2 ^ 62∧R (Itr 0 j.toNat) H1
theorem d6 {a:Expr} {ta:TA} {p pos:Pos} (hg:Gl X "range") (hm:X.mg "range"=none) (ha:PA X [a] ta) (hs:starEach [a] X.env=[(false,eval a X.env)]:=by rfl):PI X tg (.Call (.Name "range" p) [a] [] pos) (GH ta):=by
 intro pins s σ H R I h
 refine Call_ (k8 I hg hm boot_range (PyProof.Rows.callWith_type1 (thn (ha pos pins s σ H _ I h) fun us s1 ⟨vs,H1,I1,r1,q1⟩=>?_) hs rfl))
 obtain ⟨j,e,q1,q2,q⟩:=q1
 subst e
 cases r1 with
 | cons r rr=>
   cases rr
   obtain ⟨t,rfl⟩:=r
   exact call_range_1 (Cw I1 (by omega) (by omega) q1 q2 (by simpa using q))
noncomputable def tFor (wi:TI) (g:TG) (tb:TS):TS:=fun D σ H=>wi σ H fun J H1=>∃ W:Nat→Nat→St→Hp→Prop,(∃ m,W 0 m σ H1)∧∀ i m σ H,W i m σ H→
 (J.stop i H∧D.nx σ H)∨(J.go i H∧∃ N:St→Hp→Prop,(∀ σ' H',N σ' H'→∃ m',m' < m∧W (i + 1) m' σ' H')∧∀ x H',J.yld i H x H'→g x σ H' fun σ2 H2=>tb {D with nx:=N,ct:=N,bk:=D.nx} σ2 H2)
noncomputable def p3 (fp:List Addr) (h:Heap):List (Addr×Obj):=fp.filterMap fun b=>(h.get? b).map fun o=>(b,o)
theorem dW {fp:List Addr} {h:Heap} {b:Addr} {o:Obj} (hb:b∈fp) (e:h.get? b=some o):(b,o)∈p3 fp h:=List.mem_filterMap.mpr ⟨b,hb,by rw [e];rfl⟩
theorem AM {fp:List Addr} {h:Heap} {p:Addr×Obj} (hp:p∈p3 fp h):p.1∈fp∧h.get? p.1=some p.2:=by
 obtain ⟨b,hb,e⟩:=List.mem_filterMap.mp hp
 cases q:h.get? b with
 | none=>rw [q] at e;cases e
 | some o=>
   rw [q] at e
   have e':(b,o)=p:=Option.some.inj e
   subst e'
   exact ⟨hb,q⟩
theorem Inv.pinned {pins:List (Addr×Obj)} {σ:St} {H:Hp} {s:Shared} {fp:List Addr} (I:Inv X pins σ H s) (hf:∀ b∈fp,FpOk X pins H b) (ho:∀ b∈fp,∃ o,s.heap.get? b=some o∧∀ v,o.data≠.cell v):Inv X (pins++p3 fp s.heap) σ H s:=
 I.pins_of fun p hp=>(List.mem_append.mp hp).elim (fun z=>I.pin p (List.mem_append_right _ z)) fun z=>by
  obtain ⟨hb,e⟩:=AM z
  obtain ⟨f0,f1,f2,_⟩:=hf p.1 hb
  obtain ⟨o,e',d⟩:=ho p.1 hb
  rw [e] at e';cases e'
  exact ⟨e,f0,f1,f2,d⟩
theorem Inv.unpinned {pins pl:List (Addr×Obj)} {σ:St} {H:Hp} {s:Shared} (I:Inv X (pins++pl) σ H s):Inv X pins σ H s:=I.pins_of fun p hp=>I.pin p (List.mem_append_right _ (List.mem_append_left _ hp))
theorem gF {iter:Expr} {body:List Stmt} {wi:TI} {g:TG} {tb:TS} {pos:Pos} (hp:PassesOwn (model X.prog X.w) X.A X.env X.xe) (hc:X.calm=true) (hi:PI X tg iter wi) (hg:PG X tg g) (hb:PSs X body tb)
  (hs:∀ x,foldedSetIterable iter X.env x=pure x:=by intro _;rfl):PS X (.For tg iter body [] pos) (tFor wi g tb):=by
 intro pins s σ H D I h
 refine wpAny_For (thn (hi pins s σ H _ I h) fun v s1 h1=>thn h1 fun itv s2 h2=>?_) hs
 obtain ⟨it,fp,tn,J,H2,e,I2,T,st2,f2,W,⟨m0,w0⟩,turn⟩:=h2
 subst e
 have stat:∀ {H':Hp},(∀ b∈fp,H' b=none)→∀ b∈fp,FpOk X pins H' b:=fun hn b hb=>⟨hn b hb,(f2 b hb).2⟩
 refine codeAny_forLoop_any (fun n s'=>∃ i σ' H',Inv X pins σ' H' s'∧tn i s'.heap∧(∀ b∈fp,H' b=none)∧W i n σ' H') ?_ m0 ⟨0,σ,H2,I2,st2,fun b hb=>(f2 b hb).1,w0⟩
 rintro n s3 ⟨i,σ3,H3,I3,st3,fr3,w3⟩
 rcases turn i n σ3 H3 w3 with ⟨stop,qn⟩ | ⟨go,N,hN,step⟩
 ·refine wpAny_passesOwn hp (thn (T.done X rfl rfl rfl hc i pins s3 σ3 H3 X.xe I3 (stat fr3) st3 stop) fun r s4 ⟨hr,I4⟩=>?_)
  subst hr
  exact wpAny_execs_nil ⟨σ3,H3,I4,qn⟩
 ·refine wpAny_passesOwn hp (thn (T.item X rfl rfl rfl hc i pins s3 σ3 H3 X.xe I3 (stat fr3) st3 go) fun r s4 ⟨u,hr,h4⟩=>?_)
  subst hr
  refine wpAny_passesOwn hp (thn h4 fun _ s5 ⟨x,H5,I5,r5,y5,st5,fr5⟩=>?_)
  have I5':=I5.pinned (stat fr5) (T.obj _ _ st5)
  refine wpAny_passesOwn hp (thn (hg _ s5 σ3 H5 x u _ I5' r5 (step x H5 y5)) fun _ s6 ⟨σ6,H6,I6,q6⟩=>?_)
  refine wpAny_passesOwn hp (thn (hb _ s6 σ6 H6 _ I6 q6) fun f s7 q7=>?_)
  have again:∀ {σ7:St} {H7:Hp},Inv X (pins++p3 fp s5.heap) σ7 H7 s7→N σ7 H7→∃ m,m < n∧∃ i σ' H',Inv X pins σ' H' s7∧tn i s7.heap∧(∀ b∈fp,H' b=none)∧W i m σ' H':=fun {σ7 H7} I7 n7=>by
   obtain ⟨m',hm,w7⟩:=hN σ7 H7 n7
   refine ⟨m',hm,i + 1,σ7,H7,I7.unpinned,T.keep _ _ _ st5 fun b hb o e=>(I7.pin (b,o) (List.mem_append_right _ (List.mem_append_right _ (dW hb e)))).1,fun b hb=>?_,w7⟩
   obtain ⟨o,e,d⟩:=T.obj _ _ st5 b hb
   exact (I7.pin (b,o) (List.mem_append_right _ (List.mem_append_right _ (dW hb e)))).2.1
  cases f with
  | next=>obtain ⟨σ7,H7,I7,n7⟩:=q7;exact again I7 n7
  | cont=>obtain ⟨σ7,H7,I7,n7⟩:=q7;exact again I7 n7
  | brk=>obtain ⟨σ7,H7,I7,q7⟩:=q7;exact ⟨σ7,H7,I7.unpinned,q7⟩
  | ret v=>obtain ⟨x7,σ7,H7,I7,r7,q7⟩:=q7;exact ⟨x7,σ7,H7,I7.unpinned,r7,q7⟩
end
theorem xH {K:PySem.W.Frag} {a:Addr} {xs:List V} {g:TG} {tb:TS} {D:Ends} {σ:St} {H:Hp} (Pv:Nat→St→Hp→Prop) (h0:Pv 0 σ H) (hl:∀ i σ H,i≤xs.length→Pv i σ H→SqL K H a xs)
  (hs:∀ i x σ H,xs[i]? =some x→Pv i σ H→g x σ H fun σ2 H2=>tb {D with nx:=Pv (i + 1),ct:=Pv (i + 1),bk:=D.nx} σ2 H2) (hd:∀ σ H,Pv xs.length σ H→D.nx σ H):
  ∃ W:Nat→Nat→St→Hp→Prop,(∃ m,W 0 m σ H)∧∀ i m σ H,W i m σ H→
    ((Itl K a).stop i H∧D.nx σ H)∨((Itl K a).go i H∧∃ N:St→Hp→Prop,(∀ σ' H',N σ' H'→∃ m',m' < m∧W (i + 1) m' σ' H')∧∀ x H',(Itl K a).yld i H x H'→g x σ H' fun σ2 H2=>tb {D with nx:=N,ct:=N,bk:=D.nx} σ2 H2):=by
 refine ⟨fun i m σ H=>m=xs.length - i∧i≤xs.length∧Pv i σ H,⟨xs.length,by simp,Nat.zero_le _,h0⟩,?_⟩
 rintro i m σ H ⟨rfl,hi,p⟩
 have q:=hl i σ H hi p
 by_cases hlt:i < xs.length
 ·refine .inr ⟨⟨xs,xs[i],q,by simp [hlt]⟩,Pv (i + 1),fun σ' H' p'=>⟨xs.length - (i + 1),by omega,rfl,hlt,p'⟩,fun x H' y=>?_⟩
  obtain ⟨e,y⟩:=y
  subst e
  exact hs i x σ _ (y xs q) p
 ·have e:i=xs.length:=by omega
  subst e
  exact .inl ⟨⟨xs,q,Nat.le_refl _⟩,hd σ H p⟩
theorem rH {K:PySem.W.Frag} {a:Addr} {xs:List V} {g:TG} {tb:TS} {D:Ends} {σ:St} {H:Hp} (Pv:Nat→St→Hp→Prop) (h0:Pv 0 σ H) (hl:∀ i σ H,i≤xs.length→Pv i σ H→SqT K H a xs)
  (hs:∀ i x σ H,xs[i]? =some x→Pv i σ H→g x σ H fun σ2 H2=>tb {D with nx:=Pv (i + 1),ct:=Pv (i + 1),bk:=D.nx} σ2 H2) (hd:∀ σ H,Pv xs.length σ H→D.nx σ H):
  ∃ W:Nat→Nat→St→Hp→Prop,(∃ m,W 0 m σ H)∧∀ i m σ H,W i m σ H→
    ((Itt K a).stop i H∧D.nx σ H)∨((Itt K a).go i H∧∃ N:St→Hp→Prop,(∀ σ' H',N σ' H'→∃ m',m' < m∧W (i + 1) m' σ' H')∧∀ x H',(Itt K a).yld i H x H'→g x σ H' fun σ2 H2=>tb {D with nx:=N,ct:=N,bk:=D.nx} σ2 H2):=by
 refine ⟨fun i m σ H=>m=xs.length - i∧i≤xs.length∧Pv i σ H,⟨xs.length,by simp,Nat.zero_le _,h0⟩,?_⟩
 rintro i m σ H ⟨rfl,hi,p⟩
 have q:=hl i σ H hi p
 by_cases hlt:i < xs.length
 ·refine .inr ⟨⟨xs,xs[i],q,by simp [hlt]⟩,Pv (i + 1),fun σ' H' p'=>⟨xs.length - (i + 1),by omega,rfl,hlt,p'⟩,fun x H' y=>?_⟩
  obtain ⟨e,y⟩:=y
  subst e
  exact hs i x σ _ (y xs q) p
 ·have e:i=xs.length:=by omega
  subst e
  exact .inl ⟨⟨xs,q,Nat.le_refl _⟩,hd σ H p⟩
theorem nX {lo:Int} {n:Nat} {g:TG} {tb:TS} {D:Ends} {σ:St} {H:Hp} (Pv:Nat→St→Hp→Prop) (h0:Pv 0 σ H)
  (hs:∀ i σ H,i < n→Pv i σ H→g (.int (lo + i)) σ H fun σ2 H2=>tb {D with nx:=Pv (i + 1),ct:=Pv (i + 1),bk:=D.nx} σ2 H2) (hd:∀ σ H,Pv n σ H→D.nx σ H):
  ∃ W:Nat→Nat→St→Hp→Prop,(∃ m,W 0 m σ H)∧∀ i m σ H,W i m σ H→
    ((Itr lo n).stop i H∧D.nx σ H)∨((Itr lo n).go i H∧∃ N:St→Hp→Prop,(∀ σ' H',N σ' H'→∃ m',m' < m∧W (i + 1) m' σ' H')∧∀ x H',(Itr lo n).yld i H x H'→g x σ H' fun σ2 H2=>tb {D with nx:=N,ct:=N,bk:=D.nx} σ2 H2):=by
 refine ⟨fun i m σ H=>m=n - i∧i≤n∧Pv i σ H,⟨n,by simp,Nat.zero_le _,h0⟩,?_⟩
 rintro i m σ H ⟨rfl,hi,p⟩
 by_cases hlt:i < n
 ·refine .inr ⟨hlt,Pv (i + 1),fun σ' H' p'=>⟨n - (i + 1),by omega,rfl,hlt,p'⟩,fun x H' y=>?_⟩
  obtain ⟨e,y⟩:=y
  subst e y
  exact hs i σ _ hlt p
 ·have e:i=n:=by omega
  subst e
  exact .inl ⟨Nat.le_refl _,hd σ H p⟩
noncomputable abbrev R2:=V→V→Hp→VK→Prop
noncomputable def OpR (X:Cx) (f:Value→Value→Sem Value) (r:R2):Prop:=
 ∀ (pins:List (Addr×Obj)) (s:Shared) (σ:St) (H:Hp) (x y:V) (v u:Value) (Q:VK),Inv X pins σ H s→RelV x v→RelV y u→r x y H Q→
  wpAny (model X.prog X.w) X.A (f v u) (EP X pins σ Q) X.xe s
noncomputable def jZ (X:Cx) (f:Value) (r:List V→Hp→VK→Prop):Prop:=
 ∀ (pins:List (Addr×Obj)) (s:Shared) (σ:St) (H:Hp) (xs:List V) (us:List Value) (Q:VK),Inv X pins σ H s→Vals xs us→r xs H Q→
  wpAny (model X.prog X.w) X.A (call f us) (EP X pins σ Q) X.xe s
noncomputable def tOp (r:R2) (ta tb:TE):TE:=fun σ H Q=>ta σ H fun x H1=>tb σ H1 fun y H2=>r x y H2 Q
noncomputable def rI (C:Int→Int→Prop) (g:Int→Int→V):R2:=fun x y H Q=>∃ i j,x= .int i∧y= .int j∧C i j∧Q (g i j) H
noncomputable def rI0 (g:Int→Int→V):R2:=fun x y H Q=>∃ i j,x= .int i∧y= .int j∧Q (g i j) H
section
variable {X:Cx} {a b c:Expr} {ta tb tc:TE} {pos:Pos}
theorem binT (ha:PE X a ta) (hb:PE X b tb) {pins:List (Addr×Obj)} {s:Shared} {σ:St} {H:Hp} {R:V→V→Hp→Prop} (I:Inv X pins σ H s)
  (h:ta σ H fun x H1=>tb σ H1 fun y H2=>R x y H2) {Q:Value→Shared→Prop} {f:Value→Value→Sem Value}
  (hf:∀ v u s2 x y H2,Inv X pins σ H2 s2→RelV x v→RelV y u→R x y H2→wpAny (model X.prog X.w) X.A (f v u) Q X.xe s2):
  wpAny (model X.prog X.w) X.A (eval a X.env) (fun v s₁=>wpAny (model X.prog X.w) X.A (eval b X.env) (fun u s₂=>wpAny (model X.prog X.w) X.A (f v u) Q X.xe s₂) X.xe s₁) X.xe s:=by
 refine thn (ha pins s σ H _ I h) fun v s1 ⟨x,H1,I1,r1,q1⟩=>?_
 refine thn (hb pins s1 σ H1 _ I1 q1) fun u s2 ⟨y,H2,I2,r2,q2⟩=>?_
 exact hf v u s2 x y H2 I2 r1 r2 q2
theorem aF {op:Operator} {r:R2} (ho:OpR X (binaryOp op) r) (ha:PE X a ta) (hb:PE X b tb):PE X (.BinOp a op b pos) (tOp r ta tb):=by
 intro pins s σ H Q I h
 exact wpAny_BinOp (binT ha hb I h fun v u s2 x y H2 I2 rx ry q=>ho pins s2 σ H2 x y v u Q I2 rx ry q)
theorem opI {f:Value→Value→Sem Value} {C:Int→Int→Prop} {g:Int→Int→Int}
  (rule:∀ (i j:Int) (t u:Tok) (s:Shared) (Q:Value→Shared→Prop) (E:Value→Shared→Prop),C i j→Q (.int (g i j) s.toks) {s with toks:=s.toks + 1}→wpAny (model X.prog X.w) X.A (f (.int i t) (.int j u)) Q E s):
  OpR X f (rI C fun i j=> .int (g i j)):=by
 intro pins s σ H x y v u Q I rx ry h
 obtain ⟨i,j,rfl,rfl,hc,q⟩:=h
 obtain ⟨t,rfl⟩:=rx
 obtain ⟨t',rfl⟩:=ry
 exact rule i j t t' s _ _ hc ⟨.int (g i j),H,I.tok _,⟨_,rfl⟩,q⟩
theorem opI0 {f:Value→Value→Sem Value} {g:Int→Int→Int}
  (rule:∀ (i j:Int) (t u:Tok) (s:Shared) (Q:Value→Shared→Prop) (E:Value→Shared→Prop),Q (.int (g i j) s.toks) {s with toks:=s.toks + 1}→wpAny (model X.prog X.w) X.A (f (.int i t) (.int j u)) Q E s):
  OpR X f (rI0 fun i j=> .int (g i j)):=by
 intro pins s σ H x y v u Q I rx ry h
 obtain ⟨i,j,rfl,rfl,q⟩:=h
 obtain ⟨t,rfl⟩:=rx
 obtain ⟨t',rfl⟩:=ry
 exact rule i j t t' s _ _ ⟨.int (g i j),H,I.tok _,⟨_,rfl⟩,q⟩
theorem opB0 {f:Value→Value→Sem Value} {g:Int→Int→Bool}
  (rule:∀ (i j:Int) (t u:Tok) (s:Shared) (Q:Value→Shared→Prop) (E:Value→Shared→Prop),Q (.bool (g i j)) s→wpAny (model X.prog X.w) X.A (f (.int i t) (.int j u)) Q E s):
  OpR X f (rI0 fun i j=> .bl (g i j)):=by
 intro pins s σ H x y v u Q I rx ry h
 obtain ⟨i,j,rfl,rfl,q⟩:=h
 obtain ⟨t,rfl⟩:=rx
 obtain ⟨t',rfl⟩:=ry
 exact rule i j t t' s _ _ ⟨.bl (g i j),H,I,rfl,q⟩
noncomputable def CDiv (i j:Int):Prop:=0 < j∧j < 1073741824
noncomputable def HQ (i j:Int):Prop:=j≠0∧j.natAbs < 1073741824
noncomputable def CPow (i j:Int):Prop:=0≤j∧j≤1000000∧i.natAbs < 2 ^ 64
noncomputable def CMul (i j:Int):Prop:=(-(2 ^ 64) < i∧i < 2 ^ 64)∨(-(2 ^ 64) < j∧j < 2 ^ 64)
theorem CMul.ok {i j:Int} (h:CMul i j):IntMulOk i j:=by
 rcases h with ⟨h1,h2⟩ | ⟨h1,h2⟩
 ·exact .of_left (intBits_le_64 h1 h2)
 ·exact .of_right (intBits_le_64 h1 h2)
theorem b7:OpR X (binaryOp .Add) (rI0 fun i j=> .int (i + j)):=opI0 fun _ _ _ _ _ _ _ q=>add_int q
theorem Gp:OpR X (binaryOp .Sub) (rI0 fun i j=> .int (i - j)):=opI0 fun _ _ _ _ _ _ _ q=>sub_int q
theorem m7:OpR X (binaryOp .Mult) (rI CMul fun i j=> .int (i * j)):=opI fun _ _ _ _ _ _ _ hc q=>mul_int q hc.ok
theorem EE:OpR X (binaryOp .FloorDiv) (rI CDiv fun i j=> .int (i / j)):=opI fun i j _ _ _ _ _ hc q=>by
 have h1:(0:Int) < j:=hc.1
 have h2:j < 1073741824:=hc.2
 exact floordiv_int (by omega) (by rw [Int.fdiv_eq_ediv_of_nonneg i (by omega)];exact q) (.inl (PyProof.noPylong_small (by omega)))
theorem cC:OpR X (binaryOp .Mod) (rI (fun _ j=>0 < j) fun i j=> .int (i % j)):=opI fun i j _ _ _ _ _ hc q=>by
 have h1:(0:Int) < j:=hc
 exact mod_int' (by omega) (by rw [Int.fmod_eq_emod_of_nonneg i (by omega)];exact q)
theorem Gq:OpR X (binaryOp .Pow) (rI CPow fun i j=> .int (i ^ j.toNat)):=opI fun _ _ _ _ _ _ _ hc q=>pow_int_small hc.1 hc.2.1 hc.2.2 q
end
noncomputable def scal:V→V→Bool
 | .non,.non=>true | .non,.int _=>true | .int _,.non=>true | .non,.bl _=>true | .bl _,.non=>true | .non,.str _=>true | .str _,.non=>true
 | .int _,.int _=>true | .bl _,.bl _=>true | .str _,.str _=>true | .byt _,.byt _=>true
 | .int _,.str _=>true | .str _,.int _=>true | .bl _,.str _=>true | .str _,.bl _=>true
 | _,_=>false
noncomputable def rEq:R2:=fun x y H Q=>scal x y=true∧Q (.bl (decide (x=y))) H
noncomputable def rNe:R2:=fun x y H Q=>scal x y=true∧Q (.bl (!decide (x=y))) H
theorem Bu {i j:Int}:decide (V.int i=V.int j)=(i == j):=by
 rw [Bool.eq_iff_iff]
 simp
theorem DP {i j:Bool}:decide (V.bl i=V.bl j)=(i == j):=by
 rw [Bool.eq_iff_iff]
 simp
theorem Bs {i j:Str}:decide (V.str i=V.str j)=(i == j):=by
 rw [Bool.eq_iff_iff]
 simp
theorem Bv {i j:Array UInt8}:decide (V.byt i=V.byt j)=(i.toList == j.toList):=by
 rw [Bool.eq_iff_iff]
 cases i
 cases j
 simp
section
variable {X:Cx} {a b c:Expr} {ta tb tc:TE} {pos:Pos}
theorem bx {pins:List (Addr×Obj)} {σ:St} {H:Hp} {s:Shared} {Q:VK} {k k':Bool} (I:Inv X pins σ H s) (q:Q (.bl k) H) (e:k=k'):EP X pins σ Q (.bool k') s:=by
 subst e
 exact ⟨.bl k,H,I,rfl,q⟩
theorem jv:OpR X (compareOp .Eq) rEq:=by
 intro pins s σ H x y v u Q I rx ry h
 obtain ⟨hs,q⟩:=h
 cases x with
 | non=>
   cases rx
   cases y with
   | non=>cases ry;exact PySem.EqNone.eq_none_none (bx I q (by simp))
   | bl j=>cases ry;exact PySem.EqNone.eq_none_bool (bx I q (by simp))
   | int j=>obtain ⟨t',rfl⟩:=ry;exact PySem.EqNone.eq_none_int (bx I q (by simp))
   | str j=>obtain ⟨t',rfl⟩:=ry;exact PySem.EqNone.eq_none_str (bx I q (by simp))
   | _=>exact absurd (show false=true from hs) Bool.false_ne_true
 | bl i=>
   cases rx
   cases y with
   | non=>cases ry;exact PySem.EqNone.eq_bool_none (bx I q (by simp))
   | bl j=>cases ry;exact eq_bool (bx I q DP)
   | str j=>obtain ⟨t',rfl⟩:=ry;exact PySem.EqMixed.eq_bool_str (bx I q (by simp))
   | _=>exact absurd (show false=true from hs) Bool.false_ne_true
 | int i=>
   obtain ⟨t,rfl⟩:=rx
   cases y with
   | non=>cases ry;exact PySem.EqNone.eq_int_none (bx I q (by simp))
   | int j=>obtain ⟨t',rfl⟩:=ry;exact eq_int (bx I q Bu)
   | str j=>obtain ⟨t',rfl⟩:=ry;exact PySem.EqMixed.eq_int_str (bx I q (by simp))
   | _=>exact absurd (show false=true from hs) Bool.false_ne_true
 | str i=>
   obtain ⟨t,rfl⟩:=rx
   cases y with
   | non=>cases ry;exact PySem.EqNone.eq_str_none (bx I q (by simp))
   | bl j=>cases ry;exact PySem.EqMixed.eq_str_bool (bx I q (by simp))
   | int j=>obtain ⟨t',rfl⟩:=ry;exact PySem.EqMixed.eq_str_int (bx I q (by simp))
   | str j=>obtain ⟨t',rfl⟩:=ry;exact eq_str (bx I q Bs)
   | _=>exact absurd (show false=true from hs) Bool.false_ne_true
 | byt i=>
   obtain ⟨t,rfl⟩:=rx
   cases y with
   | byt j=>obtain ⟨t',rfl⟩:=ry;exact PySem.W.eq_bytes (bx I q Bv)
   | _=>exact absurd (show false=true from hs) Bool.false_ne_true
 | _=>cases y<;>exact absurd (show false=true from hs) Bool.false_ne_true
theorem AJ:OpR X (compareOp .NotEq) rNe:=by
 intro pins s σ H x y v u Q I rx ry h
 obtain ⟨hs,q⟩:=h
 cases x with
 | non=>
   cases rx
   cases y with
   | non=>cases ry;exact PySem.EqNone.ne_none_none (bx I q (by simp))
   | bl j=>cases ry;exact PySem.EqNone.ne_none_bool (bx I q (by simp))
   | int j=>obtain ⟨t',rfl⟩:=ry;exact PySem.EqNone.ne_none_int (bx I q (by simp))
   | str j=>obtain ⟨t',rfl⟩:=ry;exact PySem.EqNone.ne_none_str (bx I q (by simp))
   | _=>exact absurd (show false=true from hs) Bool.false_ne_true
 | bl i=>
   cases rx
   cases y with
   | non=>cases ry;exact PySem.EqNone.ne_bool_none (bx I q (by simp))
   | bl j=>cases ry;exact ne_bool (bx I q (congrArg not DP))
   | str j=>obtain ⟨t',rfl⟩:=ry;exact PySem.EqMixed.ne_bool_str (bx I q (by simp))
   | _=>exact absurd (show false=true from hs) Bool.false_ne_true
 | int i=>
   obtain ⟨t,rfl⟩:=rx
   cases y with
   | non=>cases ry;exact PySem.EqNone.ne_int_none (bx I q (by simp))
   | int j=>obtain ⟨t',rfl⟩:=ry;exact ne_int (bx I q (congrArg not Bu))
   | str j=>obtain ⟨t',rfl⟩:=ry;exact PySem.EqMixed.ne_int_str (bx I q (by simp))
   | _=>exact absurd (show false=true from hs) Bool.false_ne_true
 | str i=>
   obtain ⟨t,rfl⟩:=rx
   cases y with
   | non=>cases ry;exact PySem.EqNone.ne_str_none (bx I q (by simp))
   | bl j=>cases ry;exact PySem.EqMixed.ne_str_bool (bx I q (by simp))
   | int j=>obtain ⟨t',rfl⟩:=ry;exact PySem.EqMixed.ne_str_int (bx I q (by simp))
   | str j=>obtain ⟨t',rfl⟩:=ry;exact ne_str (bx I q (congrArg not Bs))
   | _=>exact absurd (show false=true from hs) Bool.false_ne_true
 | byt i=>
   obtain ⟨t,rfl⟩:=rx
   cases y with
   | byt j=>obtain ⟨t',rfl⟩:=ry;exact PySem.W.ne_bytes (bx I q (congrArg not Bv))
   | _=>exact absurd (show false=true from hs) Bool.false_ne_true
 | _=>cases y<;>exact absurd (show false=true from hs) Bool.false_ne_true
theorem ED:OpR X (compareOp .Lt) (rI0 fun i j=> .bl (decide (i < j))):=opB0 fun _ _ _ _ _ _ _ q=>lt_int q
theorem tj:OpR X (compareOp .Gt) (rI0 fun i j=> .bl (decide (j < i))):=opB0 fun _ _ _ _ _ _ _ q=>gt_int q
theorem tf:OpR X (compareOp .In) (fun x y H Q=>∃ i j,x= .str i∧y= .str j∧Q (.bl (!(Builtin.Str.occurrences j i 0 j.length 1).isEmpty)) H):=by
 intro pins s σ H x y v u Q I rx ry h
 obtain ⟨i,j,rfl,rfl,q⟩:=h
 obtain ⟨t,rfl⟩:=rx
 obtain ⟨t',rfl⟩:=ry
 exact in_str (bx I q rfl)
theorem bf (b:Expr) {op:CmpOp} (h:op≠.In:=by decide) (h2:op≠.NotIn:=by decide):behindInMarks op b=false:=by
 have e1:(op == CmpOp.In)=false:=by cases op<;>first | rfl | exact absurd rfl h
 have e2:(op == CmpOp.NotIn)=false:=by cases op<;>first | rfl | exact absurd rfl h2
 cases b<;>simp [behindInMarks,e1,e2]
theorem fM {op:CmpOp} {r:R2} (ho:OpR X (compareOp op) r) (ha:PE X a ta) (hb:PE X b tb) (hm:behindInMarks op b=false):PE X (.Compare a [op] [b] pos) (tOp r ta tb):=by
 intro pins s σ H Q I h
 exact wpAny_Compare1 (binT ha hb I h fun v u s2 x y H2 I2 rx ry q=>ho pins s2 σ H2 x y v u Q I2 rx ry q) hm
noncomputable def Fw (t:TE):TT:=fun σ H Q=>t σ H fun x H'=>∃ k,x= .bl k∧Q k H'
theorem aW {op:CmpOp} {r:R2} (ho:OpR X (compareOp op) r) (ha:PE X a ta) (hb:PE X b tb) (hm:behindInMarks op b=false):PT X (.Compare a [op] [b] pos) (Fw (tOp r ta tb)):=by
 intro pins s σ H Q I h
 refine wpAny_isTrue_Compare1 (thn (ha pins s σ H _ I h) fun v s1 ⟨x,H1,I1,r1,q1⟩=>thn (hb pins s1 σ H1 _ I1 q1) fun u s2 ⟨y,H2,I2,r2,q2⟩=>
  thn (ho pins s2 σ H2 x y v u _ I2 r1 r2 q2) fun c s3 ⟨z,H3,I3,r3,k,e,q3⟩=>?_) hm
 subst e
 cases r3
 exact wpAny_truthy_bool ⟨H3,I3,q3⟩
theorem xC:(sizeLine:Nat) < 2 ^ 63:=by rw [sizeLine_eq];decide
theorem dh:OpR X (binaryOp .Add) (fun x y H Q=>∃ i j,x= .str i∧y= .str j∧i.length + j.length≤sizeLine∧Q (.str (i++j)) H):=by
 intro pins s σ H x y v u Q I rx ry h
 obtain ⟨i,j,rfl,rfl,hz,q⟩:=h
 obtain ⟨t,rfl⟩:=rx
 obtain ⟨t',rfl⟩:=ry
 exact add_str (fun t' tk=>⟨.str (i++j),H,I.tok _,⟨_,rfl⟩,q⟩) hz
theorem qp {x:V} {us:List Value} (r:Vals [x] us):∃ u,us=[u]∧RelV x u:=by
 cases r with
 | cons r1 r2=>cases r2;exact ⟨_,rfl,r1⟩
theorem Hf {x y:V} {us:List Value} (r:Vals [x,y] us):∃ u w',us=[u,w']∧RelV x u∧RelV y w':=by
 cases r with
 | cons r1 r2=>
   cases r2 with
   | cons r3 r4=>cases r4;exact ⟨_,_,rfl,r1,r3⟩
theorem ut:jZ X (.type "str") (fun xs H Q=>∃ i,xs=[.int i]∧i.natAbs.log2 < 1920∧Q (.str (toString i)) H):=by
 intro pins s σ H xs us Q I r h
 obtain ⟨i,rfl,hz,q⟩:=h
 obtain ⟨u,rfl,t,rfl⟩:=qp r
 exact PySem.P.str_of_int hz ⟨.str _,H,I.tok _,⟨_,rfl⟩,q⟩
noncomputable def LenV (K:PySem.W.Frag) (x:V) (H:Hp) (n:Nat):Prop:=
 match x with
 | .str y=>y.length≤sizeLine∧n=y.length
 | .byt y=>y.size≤sizeLine∧n=y.size
 | .ref p=>(∃ xs,SqL K H p xs∧n=xs.length)∨∃ xs,SqT K H p xs∧n=xs.length
 | _=>False
theorem Dd:jZ X (.builtin "len") (fun xs H Q=>∃ x n,xs=[x]∧LenV X.K x H n∧Q (.int n) H):=by
 intro pins s σ H xs us Q I r h
 obtain ⟨x,n,rfl,e,q⟩:=h
 obtain ⟨u,rfl,rx⟩:=qp r
 have hl:=xC
 have hs:sizeLine=16777216:=sizeLine_eq
 cases x with
 | str y=>
   obtain ⟨t,rfl⟩:=rx
   obtain ⟨hy,e'⟩:y.length≤sizeLine∧n=y.length:=e
   subst e'
   exact len_str (by omega) ⟨.int _,H,I.tok _,⟨_,rfl⟩,q⟩
 | byt y=>
   obtain ⟨t,rfl⟩:=rx
   obtain ⟨hy,e'⟩:y.size≤sizeLine∧n=y.size:=e
   subst e'
   exact PySem.W.len_bytes (by omega) ⟨.int _,H,I.tok _,⟨_,rfl⟩,q⟩
 | ref p=>
   cases rx
   have e':(∃ xs,SqL X.K H p xs∧n=xs.length)∨∃ xs,SqT X.K H p xs∧n=xs.length:=e
   rcases e' with ⟨xs,hx,e'⟩ | ⟨xs,hx,e'⟩
   ·subst e'
    obtain ⟨its,r',pl,hz⟩:=I.list hx
    have hlen:=r'.length
    exact Calls.call_len_list pl.isList (by simp only [List.size_toArray];omega) ⟨.int xs.length,H,I.tok _,⟨_,by simp only [List.size_toArray];rw [hlen]⟩,q⟩
   ·subst e'
    obtain ⟨its,r',pl,hz⟩:=I.tuple hx
    have hlen:=r'.length
    exact len_tuple pl (by simp only [List.size_toArray];omega) ⟨.int xs.length,H,I.tok _,⟨_,by simp only [List.size_toArray];rw [hlen]⟩,q⟩
 | _=>exact (show False from e).elim
end
structure ObjM (h:Heap) (x dx C:Addr) (mA:Str→Option Value):Prop where
 obj:h.get? x=some (PySem.W.instObj C dx)
 ns:h.Ns1 dx mA
 ne:dx≠x
theorem AT {h:Heap} {dx:Addr} {mA:Str→Option Value} (n:h.Ns1 dx mA):∃ od,h.get? dx=some od∧∀ name,PySem.W.lookIn name od=some (mA name):=by
 obtain ⟨o,es,ep,ho,hd,hk,_,hm⟩:=n
 refine ⟨o,ho,fun name=>?_⟩
 have e:=hm name
 unfold nsFind findBy at e
 rw [← Array.find?_toList] at e
 unfold PySem.W.lookIn
 rw [hd]
 dsimp only
 split
 ·rename_i y q
  rw [q] at e
  exact congrArg some e
 ·rename_i q
  rw [q] at e
  have a:es.toList.any (·.refKey)=false:=by
   rw [List.any_eq_false]
   intro y hy
   obtain ⟨z,t,hkey⟩:=hk y (Array.mem_toList_iff.mp hy)
   simp [DictEntry.refKey,hkey]
  have a':¬ es.toList.any (·.refKey)=true:=by rw [a];exact Bool.false_ne_true
  rw [if_neg a']
  exact congrArg some e
theorem ObjM.look {h:Heap} {x dx C:Addr} {mA:Str→Option Value} (I:ObjM h x dx C mA):∃ od,PySem.W.InstAt h x (PySem.W.instObj C dx) C (some od)∧∀ name,PySem.W.lookIn name od=some (mA name):=
 let ⟨od,ho,hl⟩:=AT I.ns
 ⟨od,⟨I.obj,rfl,rfl,ho⟩,hl⟩
section
variable {prog:Program} {w:World} {A:Around} {E:Value→Shared→Prop} {s:Shared} {K:PySem.W.Frag} {x dx C f:Addr} {mA:Str→Option Value} {name:Str} {v:Value}
theorem az {expr:Bool} {Q:Value→Shared→Prop} (X:K.In s.heap) (I:ObjM s.heap x dx C mA) (hg:PySem.W.plainGet K C name=true) (hh:PySem.W.hasDictIn K C=true)
  (ha:PySem.W.findIn K (.ref C) name=some none) (hv:mA name=some v) (hv':PySem.W.handedIn v=true) (h:Q v {s with toks:=s.toks + 1}):
  wpAny (model prog w) A (getAttr (.ref x) name expr) Q E s:=by
 obtain ⟨od,J,hl⟩:=I.look
 exact PySem.W.get_value X J (PySem.W.plainGet_of hg).1 (PySem.W.findObj_own hh ha rfl (by rw [hl,hv])) hv' h
theorem C4 {pl:Sem Bool} {Q:Value×List Value→Shared→Prop} (X:K.In s.heap) (I:ObjM s.heap x dx C mA) (hg:PySem.W.plainGet K C name=true)
  (hf:PySem.W.findIn K (.ref C) name=some (some (.ref f))) (ht:PySem.W.isFn K (.ref f)=true) (hv:mA name=none) (h:Q (.ref f,[.ref x]) s):
  wpAny (model prog w) A (getMethod (.ref x) name pl) Q E s:=by
 obtain ⟨od,J,hl⟩:=I.look
 exact PySem.W.method_fn X J (PySem.W.plainGet_of hg).1 (PySem.W.plainGet_of hg).2 hf (beq_iff_eq.mp ht) (by show (PySem.W.lookIn name od).map (·.isSome)=some false;rw [hl,hv];rfl) h
theorem Eh {ns:List Str} {Q:Unit→Shared→Prop} (X:K.In s.heap) (I:ObjM s.heap x dx C mA)
  (hs:PySem.W.findIn K (.ref C) "__setattr__"=some (some (.builtin "object.__setattr__"))) (hp:PySem.W.plainOver K C=true) (ht:PySem.W.takerIn K C name=some none) (hh:PySem.W.hasDictIn K C=true)
  (hw:PySem.Within mA ns) (hsz:ns.length≤sizeLine)
  (h:∀ h',ObjM h' x dx C (fun y=>if y=name then some v else mA y)→Heap.SameBut dx s.heap h'→Q () {s with heap:=h',toks:=s.toks + 2}):
  wpAny (model prog w) A (setAttr (.ref x) name v) Q E s:=by
 obtain ⟨od,J,hl⟩:=I.look
 refine PySem.W.set_plain X J hs (PySem.W.osa_open (s:={s with toks:=s.toks + 1}) (r:=none) X J hp ht fun b=>?_)
 obtain ⟨cd,hc,hd'⟩:=PySem.W.any_some hh
 have hx:s.heap.get? x=some ⟨.ref C,some dx,.plain,#[]⟩:=I.obj
 refine wpAny_bind (wpAny_pure (wpAny_bind (wpAny_bind (wpAny_loadPart hx (wpAny_bind (PySem.W.Looks.here (s:={s with toks:=s.toks + 1}) (PySem.W.looks_clsIn X hc) ?_))))))
 rw [hd']
 refine wpAny_pure (a:=some dx) (wpAny_bind (wpAny_pure (wpAny_bind ?_)))
 refine wpAny_nsSet1 (s:={s with toks:=s.toks + 1}) I.ns fun h' hn2 hs2=>?_
 obtain ⟨oD,esD,epD,hoD,hdD,hcD⟩:=hn2.count (PySem.Within.cons name v hw)
 refine wpAny_bind (wpAny_lookBehind hoD (by rw [hdD];exact pastItsLine_dict (Nat.le_trans hcD (by rw [List.length_cons];omega))) ?_)
 exact wpAny_pure (h _ ⟨(hs2.2 _ (Ne.symm I.ne)).trans I.obj,hn2,I.ne⟩ hs2)
theorem CV {R:Result→Shared→Prop} {vs:List Value} {kw:List (Str×Value)} (X:K.In s.heap) (hm:PySem.W.makesIn K C=true)
  (hi:PySem.W.findIn K (.ref C) "__init__"=some (some (.ref f))) (hf:PySem.W.typeIn K (.ref f)=some (.type "function"))
  (h:codeAny (model prog w) (A.under (.builtin "type.__call__" ⟨.ref C::vs,kw⟩)) (.call (.ref f) ⟨.ref (s.heap.objs.size + 1)::vs,kw⟩) (PySem.W.InitBack (s.heap.objs.size + 1) R)
   {s with heap:=(s.heap.push PySem.W.emptyDict).push (PySem.W.instObj C s.heap.objs.size)}):
  codeAny (model prog w) A (.call (.ref C) ⟨vs,kw⟩) R s:=by
 obtain ⟨hh,g,d,t,os⟩:=s
 exact PySem.W.make_core (PySem.W.makes_of X hm) (PySem.W.looks_findIn X hi) (fun self=>PySem.W.bind_fn X self hf) (.inl rfl) h
end
noncomputable def putF (f:Str) (v:V):List (Str×V)→List (Str×V)
 | []=>[(f,v)]
 | (g,x)::r=>if g=f then (g,v)::r else (g,x)::putF f v r
theorem nJ (f g:Str) (v:V):∀ fs:List (Str×V),(putF f v fs).lookup g=if g=f then some v else fs.lookup g
 | []=>by
   show List.lookup g [(f,v)]=_
   by_cases h:g=f
   ·have hb:(g == f)=true:=beq_iff_eq.mpr h
    simp only [List.lookup,hb,if_pos h]
   ·have hb:(g == f)=false:=beq_eq_false_iff_ne.mpr h
    simp only [List.lookup,hb,if_neg h]
 | (k,x)::r=>by
   have ih:=nJ f g v r
   rw [show putF f v ((k,x)::r)=(if k=f then (k,v)::r else (k,x)::putF f v r) from rfl]
   by_cases hk:k=f
   ·rw [if_pos hk]
    by_cases h:g=k
    ·have hb:(g == k)=true:=beq_iff_eq.mpr h
     simp only [List.lookup,hb,if_pos (h.trans hk)]
    ·have hb:(g == k)=false:=beq_eq_false_iff_ne.mpr h
     simp only [List.lookup,hb,if_neg (fun e:g=f=>h (e.trans hk.symm))]
   ·rw [if_neg hk]
    by_cases h:g=k
    ·have hb:(g == k)=true:=beq_iff_eq.mpr h
     simp only [List.lookup,hb,if_neg (fun e:g=f=>hk (h.symm.trans e))]
    ·have hb:(g == k)=false:=beq_eq_false_iff_ne.mpr h
     simp only [List.lookup,hb]
     exact ih
theorem nS (f:Str) (v:V):∀ fs:List (Str×V),f∈(putF f v fs).map (·.1)∧∀ g,g∈fs.map (·.1)→g∈(putF f v fs).map (·.1)
 | []=>⟨by simp [putF],fun g h=>by simp at h⟩
 | (k,x)::r=>by
   obtain ⟨i1,i2⟩:=nS f v r
   rw [show putF f v ((k,x)::r)=(if k=f then (k,v)::r else (k,x)::putF f v r) from rfl]
   by_cases hk:k=f
   ·rw [if_pos hk]
    subst hk
    exact ⟨by simp,fun g h=>by simpa using h⟩
   ·rw [if_neg hk]
    refine ⟨?_,fun g h=>?_⟩
    ·rw [List.map_cons]
     exact List.mem_cons_of_mem _ i1
    ·rw [List.map_cons] at h ⊢
     rcases List.mem_cons.mp h with e | e
     ·exact List.mem_cons.mpr (.inl e)
     ·exact List.mem_cons_of_mem _ (i2 g e)
theorem nL (f:Str) (v:V):∀ fs:List (Str×V),(putF f v fs).length≤fs.length + 1
 | []=>by simp [putF]
 | (k,x)::r=>by
   have ih:=nL f v r
   rw [show putF f v ((k,x)::r)=(if k=f then (k,v)::r else (k,x)::putF f v r) from rfl]
   by_cases hk:k=f
   ·rw [if_pos hk,List.length_cons,List.length_cons];omega
   ·rw [if_neg hk,List.length_cons,List.length_cons];omega
theorem RelO.some_of {v:V} {o:Option Value} (r:RelO (some v) o):∃ u,o=some u∧RelV v u:=by
 cases o with
 | none=>exact (show False from r).elim
 | some u=>exact ⟨u,rfl,r⟩
theorem RelO.none_of {o:Option Value} (r:RelO none o):o=none:=by
 cases o with
 | none=>rfl
 | some u=>exact (show False from r).elim
theorem Bf {v:V} {u:Value} (r:RelV v u):PySem.W.handedIn u=true:=by
 cases v with
 | non=>cases (show u=Value.none from r);rfl
 | bl b=>cases (show u=Value.bool b from r);rfl
 | int i=>obtain ⟨t,e⟩:=(show ∃ t,u=Value.int i t from r);cases e;rfl
 | str x=>obtain ⟨t,e⟩:=(show ∃ t,u=Value.str x t from r);cases e;rfl
 | byt b=>obtain ⟨t,e⟩:=(show ∃ t,u=Value.bytes b t from r);cases e;rfl
 | flt b=>obtain ⟨t,e⟩:=(show ∃ t,u=Value.float b t from r);cases e;rfl
 | ref a=>cases (show u=Value.ref a from r);rfl
 | ty n=>cases (show u=Value.type n from r);rfl
section
variable {P:Program} {w:World} {H H':Hp} {h h':Heap} {a C dx:Addr} {fs fs':List (Str×V)}
theorem wt (hok:HOk P w H h) (e:H a=some (.ins C dx fs)):∃ mA,ObjM h a dx C mA∧(∀ f,RelO (fs.lookup f) (mA f))∧PySem.Within mA (fs.map (·.1))∧fs.length≤1000∧H dx=some (.own a):=by
 obtain ⟨d,z,ne,ob,mA,n,r,q⟩:=(show dI P w H h a (.ins C dx fs) from hok a _ e)
 exact ⟨mA,⟨ob,n,ne⟩,r,q,z,d⟩
end
structure Cls (K:PySem.W.Frag) (C:Addr):Prop where
 pg:PySem.W.plainGet K C Str.empty=true
 hd:PySem.W.hasDictIn K C=true
 po:PySem.W.plainOver K C=true
 sa:PySem.W.findIn K (.ref C) "__setattr__"=some (some (.builtin "object.__setattr__"))
theorem Cls.get {K:PySem.W.Frag} {C:Addr} (c:Cls K C) (f:Str):PySem.W.plainGet K C f=true:=c.pg
noncomputable def ar (K:PySem.W.Frag) (C:Addr) (f:Str):Prop:=PySem.W.findIn K (.ref C) f=some none
theorem ar.taker {K:PySem.W.Frag} {C:Addr} {f:Str} (n:ar K C f):PySem.W.takerIn K C f=some none:=by
 unfold PySem.W.takerIn
 rw [show PySem.W.findIn K (.ref C) f=some none from n]
 rfl
structure Con (K:PySem.W.Frag) (C:Addr) (f:Str) (v:V) (u:Value):Prop where
 at_:PySem.W.findIn K (.ref C) f=some (some u)
 rel:RelV v u
 get:PySem.W.specialIn K u "__get__"=some none
 cp:PySem.W.copiedNames.contains f=false
structure Meth (K:PySem.W.Frag) (C:Addr) (m:Str) (f:Addr):Prop where
 at_:PySem.W.findIn K (.ref C) m=some (some (.ref f))
 fn:PySem.W.isFn K (.ref f)=true
 kp:PySem.W.keepIn K (.ref f)=true
section
variable {X:Cx} {pins:List (Addr×Obj)} {σ:St} {H:Hp} {s:Shared} {a C dx:Addr} {fs:List (Str×V)} {f:Str} {v:V} {A:Around} {E:Value→Shared→Prop}
theorem zb {b:Bool} {Q:Value→Shared→Prop} (I:Inv X pins σ H s) (e:H a=some (.ins C dx fs)) (c:Cls X.K C) (n:ar X.K C f) (l:fs.lookup f=some v)
  (h:∀ u s',Inv X pins σ H s'→RelV v u→Q u s'):wpAny (model X.prog X.w) A (getAttr (.ref a) f b) Q E s:=by
 obtain ⟨mA,O,r,_,_,_⟩:=wt I.hok e
 obtain ⟨u,hu,ru⟩:=RelO.some_of (v:=v) (o:=mA f) (by rw [← l];exact r f)
 exact az I.kIn O (c.get f) c.hd n hu (Bf ru) (h u _ (I.tok _) ru)
theorem za {m:Str} {g:Addr} {pl:Sem Bool} {Q:Value×List Value→Shared→Prop} (I:Inv X pins σ H s) (e:H a=some (.ins C dx fs)) (c:Cls X.K C) (k:Meth X.K C m g) (l:fs.lookup m=none)
  (h:Q (.ref g,[.ref a]) s):wpAny (model X.prog X.w) A (getMethod (.ref a) m pl) Q E s:=by
 obtain ⟨mA,O,r,_,_,_⟩:=wt I.hok e
 have hn:mA m=none:=RelO.none_of (by rw [← l];exact r m)
 exact C4 I.kIn O (c.get m) k.at_ k.fn hn h
theorem yj {y:V} {u:Value} {Q:Unit→Shared→Prop} (I:Inv X pins σ H s) (e:H a=some (.ins C dx fs)) (c:Cls X.K C) (n:ar X.K C f) (hl:fs.length < 1000) (ry:RelV y u)
  (h:∀ s',Inv X pins σ (upd H a (.ins C dx (putF f y fs))) s'→Q () s'):wpAny (model X.prog X.w) A (setAttr (.ref a) f u) Q E s:=by
 obtain ⟨mA,O,r,wi,_,ho⟩:=wt I.hok e
 have hz:(fs.map (·.1)).length≤sizeLine:=by rw [List.length_map,sizeLine_eq];omega
 refine Eh I.kIn O c.sa c.po n.taker c.hd wi hz fun h' O' sb=>h _ ?_
 have hd:∃ o,h'.get? dx=some o:=let ⟨o,_,_,e',_⟩:=O'.ns;⟨o,e'⟩
 refine I.write (x:=a) (e:=dx) (by rw [e];exact True.intro) (.inr ho) (fun b q hb z=>(sb.2 b hb).trans z) hd ?_
 refine ⟨by rw [aq O.ne];exact ho,?_,O.ne,O'.obj,_,O'.ns,fun g=>?_,fun g hg=>?_⟩
 ·have:=nL f y fs;omega
 ·show RelO ((putF f y fs).lookup g) (if g=f then some u else mA g)
  rw [nJ]
  by_cases q:g=f
  ·rw [if_pos q,if_pos q];exact ry
  ·rw [if_neg q,if_neg q];exact r g
 ·by_cases q:g=f
  ·rw [q];exact (nS f y fs).1
  ·refine (nS f y fs).2 g (wi g fun z=>hg ?_)
   show (if g=f then some u else mA g)=none
   rw [if_neg q];exact z
theorem Inv.made (I:Inv X pins σ H s):Inv X pins σ (upd (upd H s.heap.objs.size (.own (s.heap.objs.size + 1))) (s.heap.objs.size + 1) (.ins C s.heap.objs.size []))
  {s with heap:=(s.heap.push PySem.W.emptyDict).push (PySem.W.instObj C s.heap.objs.size)}:=by
 have e1:(s.heap.push PySem.W.emptyDict).get? s.heap.objs.size=some PySem.W.emptyDict:=Heap.get?_push_size s.heap rfl
 have e2:((s.heap.push PySem.W.emptyDict).push (PySem.W.instObj C s.heap.objs.size)).get? (s.heap.objs.size + 1)=some (PySem.W.instObj C s.heap.objs.size):=by
  have:=Heap.get?_push_size (s.heap.push PySem.W.emptyDict) (o:=PySem.W.instObj C s.heap.objs.size) rfl
  rwa [Heap.size_push] at this
 have e3:(s.heap.push PySem.W.emptyDict).Ns s.heap.objs.size (fun _=>none):=⟨PySem.W.emptyDict,#[],_,e1,rfl,(fun e he=>absurd he (by simp)),fun _=>rfl⟩
 have I1:=I.laid (a:=s.heap.objs.size) (o:= .own (s.heap.objs.size + 1)) (h':=s.heap.push PySem.W.emptyDict) (t':=s.toks) (fun b u q=>Heap.get?_push_of_some _ q) (Nat.le_refl _) ⟨_,e1⟩
 refine I1.laid (a:=s.heap.objs.size + 1) (o:= .ins C s.heap.objs.size []) (t':=s.toks) (fun b u q=>Heap.get?_push_of_some _ q) (Nat.le_of_eq (Heap.size_push _ _)) ?_
 have ne:s.heap.objs.size≠s.heap.objs.size + 1:=Nat.ne_of_lt (Nat.lt_succ_self _)
 refine ⟨by rw [aq ne,al],Nat.zero_le _,ne,e2,fun _=>none,(Heap.Ns1.of_empty e3).at fun o q=>Heap.get?_push_of_some _ q,fun _=>True.intro,fun y hy=>absurd rfl hy⟩
theorem E9 {prog:Program} {w:World} {env:Env} {e:Expr} {f:Str} {pos:Pos} {s:Shared} {Q:Value→Shared→Prop} (hb:attributeBase e f env (eval e env)=eval e env)
  (h:wpAny (model prog w) A (eval e env) (fun o s₁=>wpAny (model prog w) A (getAttr o f true) Q E s₁) E s):wpAny (model prog w) A (eval (.Attribute e f pos) env) Q E s:=
 Attribute_any_ h (by rw [arm_eval_Attribute,hb])
end
noncomputable def tFld (K:PySem.W.Frag) (ta:TE) (f:Str):TE:=fun σ H Q=>ta σ H fun x H1=>∃ a C dx fs v,x= .ref a∧H1 a=some (.ins C dx fs)∧Cls K C∧ar K C f∧fs.lookup f=some v∧Q v H1
noncomputable def sFld (K:PySem.W.Frag) (ta tv:TE) (f:Str):TS:=fun D σ H=>tv σ H fun y H1=>ta σ H1 fun x H2=>∃ a C dx fs,x= .ref a∧H2 a=some (.ins C dx fs)∧Cls K C∧ar K C f∧fs.length < 1000∧
 D.nx σ (upd H2 a (.ins C dx (putF f y fs)))
section
variable {X:Cx} {o e value:Expr} {f:Str} {pos pos' tpos:Pos} {ta tv:TE}
theorem Gk (he:PE X e ta) (hb:attributeBase e f X.env (eval e X.env)=eval e X.env):PE X (.Attribute e f pos) (tFld X.K ta f):=by
 intro pins s σ H Q I h
 refine E9 hb (thn (he pins s σ H _ I h) fun u s1 ⟨x,H1,I1,rx,a,C,dx,fs,v,ex,ea,c,n,l,q⟩=>?_)
 subst ex
 obtain rfl:u=Value.ref a:=rx
 exact zb I1 ea c n l fun u' s2 I2 ru=>⟨v,H1,I2,ru,q⟩
theorem Ge (ha:PE X o ta) (hv:PE X value tv) (hs:swapsWith value (some (.Attribute o f pos')) pos.line X.env=pure false):PS X (.Assign [.Attribute o f pos'] value pos) (sFld X.K ta tv f):=by
 intro pins s σ H D I h
 refine plainObj_wpAny_Assign_Attribute (thn (hv pins s σ H _ I h) fun u s1 ⟨y,H1,I1,ry,q⟩=>thn (ha pins s1 σ H1 _ I1 q) fun ov s2 ⟨x,H2,I2,rx,a,C,dx,fs,ex,ea,c,n,l,q2⟩=>?_) hs
 subst ex
 obtain rfl:ov=Value.ref a:=rx
 exact yj I2 ea c n l ry fun s3 I3=>⟨σ,_,I3,q2⟩
end
section
variable {X:Cx} {pins:List (Addr×Obj)} {σ:St} {H:Hp} {s:Shared} {A:Around} {E:Value→Shared→Prop} {Q:Value→Shared→Prop} {c:Value} {b:Bool}
inductive TyOf (K:PySem.W.Frag) (H:Hp):V→Value→Prop where
 | non:TyOf K H .non (.type "NoneType")
 | bl (x:Bool):TyOf K H (.bl x) (.type "bool")
 | int (i:Int):TyOf K H (.int i) (.type "int")
 | str (x:Str):TyOf K H (.str x) (.type "str")
 | flt (x:UInt64):TyOf K H (.flt x) (.type "float")
 | lst {a:Addr} {xs:List V} (e:H a=some (.lst xs)):TyOf K H (.ref a) (.type "list")
 | frz {a:Addr} {o:Obj} {xs:List V} (e:H a=some (.frz o (.lst xs))):TyOf K H (.ref a) (.type "list")
 | tup {a:Addr} {xs:List V} (e:H a=some (.tup xs)):TyOf K H (.ref a) (.type "tuple")
 | dK {a:Addr} {kvs:List (Key×V)} (e:H a=some (.dK kvs)):TyOf K H (.ref a) (.type "dict")
 | dT {a:Addr} {kvs:List (List Key×V)} (e:H a=some (.dT kvs)):TyOf K H (.ref a) (.type "dict")
 | ins {a C dx:Addr} {fs:List (Str×V)} (e:H a=some (.ins C dx fs)) (cl:Cls K C) (ha:PySem.W.findIn K (.ref C) "__class__"=some (some (.builtin "object.__class__")))
   (hn:PySem.W.specialIn K (.builtin "object.__class__") "__get__"=some (some (.builtin "getset_descriptor.__get__"))) (htk:PySem.W.takesIn K (.builtin "object.__class__")=some true)
   (hm:PySem.W.mroIn K C (.type "object")=some true):TyOf K H (.ref a) (.ref C)
end
structure Room (k:Nat) (A:Around):Prop where
 hd:A.handled=none
 dp:A.depth + 3 * k + 5 < recursionLimit
 un:A.units + 16 * k + 200 < cLine
theorem Room.mono {j k:Nat} {A:Around} (r:Room k A) (h:j≤k):Room j A:=⟨r.hd,by have:=r.dp;omega,by have:=r.un;omega⟩
theorem Room.deeper {k:Nat} {A:Around} (r:Room (k + 1) A) (env:Env):Room k (A.deeper env):=
 ⟨r.hd,by have:=r.dp;show A.depth + 1 + 3 * k + 5 < _;omega,by have:=r.un;show A.units + 3 + 16 * k + 200 < _;omega⟩
theorem yR {A:Around} {C:Addr} {us:List Value} {kw:List (Str×Value)}:(A.under (.builtin "type.__call__" ⟨.ref C::us,kw⟩)).depth=A.depth + 1:=by
 first | rfl | simp [Around.under,Code.weight,Code.isCreation,Code.isGuard,Code.isCaller,Code.frames,Code.isFrame,guardIds]
theorem yQ {A:Around} {C:Addr} {us:List Value} {kw:List (Str×Value)}:(A.under (.builtin "type.__call__" ⟨.ref C::us,kw⟩)).units=A.units + 1:=by
 first | rfl | simp [Around.under,Code.cUnits,Code.frames,Code.isFrame]
theorem Room.make {k:Nat} {A:Around} (r:Room (k + 1) A) (C:Addr) (us:List Value) (kw:List (Str×Value)):Room k (A.under (.builtin "type.__call__" ⟨.ref C::us,kw⟩)):=
 ⟨r.hd,by have:=r.dp;rw [yR];omega,by have:=r.un;rw [yQ];omega⟩
theorem Room.depth {k:Nat} {A:Around} (r:Room k A):A.depth < recursionLimit:=by have:=r.dp;omega
theorem Room.units {k:Nat} {A:Around} (r:Room k A):A.units + 64 < cLine:=by have:=r.un;omega
noncomputable def tNil:TA:=fun _ H Q=>Q [] H
noncomputable def FC (ta:TE) (tr:TA):TA:=fun σ H Q=>ta σ H fun x H1=>tr σ H1 fun xs H2=>Q (x::xs) H2
section
variable {X:Cx} {e:Expr} {es:List Expr} {te:TE} {t:TA} {pos:Pos}
theorem ae:PA X [] tNil:=fun _ _ _ _ H Q I h=>Calls.spliced_nil ⟨[],H,I,.nil,h⟩
theorem aa (ha:PE X e te) (hr:PA X es t) (hs:starEach (e::es) X.env=(false,eval e X.env)::starEach es X.env:=by rfl):PA X (e::es) (FC te t):=by
 intro pos pins s σ H Q I h
 rw [hs]
 show wpAny _ _ (spliced ((false,eval e X.env)::backTo pos (starEach es X.env))) _ _ s
 refine Calls.spliced_cons (thn (ha pins s σ H _ I h) fun u s1 ⟨x,H1,I1,r1,q1⟩=>?_)
 exact thn (hr pos pins s1 σ H1 _ I1 q1) fun us s2 ⟨xs,H2,I2,r2,q2⟩=>⟨x::xs,H2,I2,.cons r1 r2,q2⟩
noncomputable def tTup (t:TA):TE:=fun σ H Q=>t σ H fun xs H1=>xs.length≤sizeLine∧∀ p,H1 p=none→Q (.ref p) (upd H1 p (.tup xs))
noncomputable def tLst (t:TA):TE:=fun σ H Q=>t σ H fun xs H1=>xs.length≤sizeLine∧∀ p,H1 p=none→Q (.ref p) (upd H1 p (.lst xs))
theorem fq {x1} (h:PA X es t):PE X (.Tuple es x1 pos) (tTup t):=by
 intro pins s σ H Q I hq
 refine wpAny_Tuple_spliced (thn (h pos pins s σ H _ I hq) fun us s1 ⟨xs,H1,I1,r,z,q⟩=>⟨by rw [← r.length];exact z,?_⟩)
 have hf:H1 s1.heap.objs.size=none:=I1.hok.fresh (Nat.le_refl _)
 refine ⟨.ref s1.heap.objs.size,upd H1 s1.heap.objs.size (.tup xs),I1.laid (t':=s1.toks) (fun b u e=>Heap.get?_push_of_some _ e) (Nat.le_refl _) ?_,rfl,q _ hf⟩
 exact ⟨z,us,r,⟨_,Heap.get?_push_size _ rfl,rfl,_,rfl⟩⟩
theorem c8 (h:PA X es t):PE X (.List es pos) (tLst t):=by
 intro pins s σ H Q I hq
 refine wpAny_List_spliced (thn (h pos pins s σ H _ I hq) fun us s1 ⟨xs,H1,I1,r,z,q⟩=>⟨by rw [← r.length];exact z,?_⟩)
 have hf:H1 s1.heap.objs.size=none:=I1.hok.fresh (Nat.le_refl _)
 refine ⟨.ref s1.heap.objs.size,upd H1 s1.heap.objs.size (.lst xs),I1.laid (t':=s1.toks) (fun b u e=>Heap.get?_push_of_some _ e) (Nat.le_refl _) ?_,rfl,q _ hf⟩
 exact ⟨z,us,0,r,Heap.get?_push_size _ rfl⟩
end
noncomputable abbrev Sp:=List V→Hp→VK→XK→Prop
noncomputable abbrev CXT:=List Env→Hp→Shared→XK→Value→Shared→Prop
structure Env0 (P:Program) (w:World) (K:PySem.W.Frag) (mg:Str→Option Value) (base:Heap) (A:Around) (outer:List Env) (s:Shared) (H:Hp):Prop where
 frames:A.frames=some outer
 mod:Mod K mg base
 bs:∀ b o,base.get? b=some o→s.heap.get? b=some o∧H b=none
 bsz:base.objs.size≤s.heap.objs.size
 funs:s.heap.FunFrames base outer
 frf:∀ b∈frs outer,H b=none
 hok:HOk P w H s.heap
 bare:AllBare s.gens
noncomputable def CE (outer:List Env) (P:Program) (w:World) (H:Hp) (s:Shared) (Q:VK) (u:Value) (s':Shared):Prop:=
 ∃ v H',s'.os=s.os∧AllBare s'.gens∧Un (frs outer) [] H H' s.heap s'.heap∧HOk P w H' s'.heap∧RelV v u∧Q v H'
noncomputable def CR (CX:CXT) (outer:List Env) (P:Program) (w:World) (H:Hp) (s:Shared) (Q:VK) (E:XK) (r:Result) (s':Shared):Prop:=
 match r with
 | .ok (.ret u)=>CE outer P w H s Q u s'
 | .ok _=>False
 | .error e=>CX outer H s E e s'
structure FnOk (P:Program) (w:World) (K:PySem.W.Frag) (mg:Str→Option Value) (base:Heap) (CX:CXT) (k:Nat) (f:Addr) (fd:FuncData) (ps:List Str) (sp:Sp):Prop where
 len:∀ vs H Q E,sp vs H Q E→vs.length=ps.length
 run:∀ (A:Around) (outer:List Env) (s:Shared) (H:Hp) (args:Args) (us:List Value) (vs:List V) (Q:VK) (E:XK),Room k A→Env0 P w K mg base A outer s H→BindsTo s fd args (ps.zip us)→Vals vs us→sp vs H Q E→
  codeAny (model P w) A (.call (.ref f) args) (CR CX outer P w H s Q E) s
theorem Env0.make {P:Program} {w:World} {K:PySem.W.Frag} {mg:Str→Option Value} {base:Heap} {A:Around} {outer:List Env} {s:Shared} {H:Hp} (e:Env0 P w K mg base A outer s H) (C:Addr) (us:List Value) (kw:List (Str×Value)):
  Env0 P w K mg base (A.under (.builtin "type.__call__" ⟨.ref C::us,kw⟩)) outer s H:=⟨by first | exact e.frames | (simpa [Around.under,Code.envs,Code.isFrame,pushEnvs] using e.frames),e.mod,e.bs,e.bsz,e.funs,e.frf,e.hok,e.bare⟩
section
variable {X:Cx} {pins:List (Addr×Obj)} {σ:St} {H:Hp} {s s':Shared}
theorem Inv.env0 (I:Inv X pins σ H s):Env0 X.prog X.w X.K X.mg X.base X.A X.stack s H:=
 ⟨I.ok.frames,I.ok.mod,I.bs,Nat.le_trans I.ok.bsz I.sz,I.stack,I.stkFree,I.hok,I.bare⟩
theorem Inv.after {Q:VK} {u:Value} (I:Inv X pins σ H s) (h:CE X.stack X.prog X.w H s Q u s'):EP X pins σ Q u s':=by
 obtain ⟨v,H',os,bare,un,hok,r,q⟩:=h
 obtain ⟨hh,g,d,t,os'⟩:=s'
 obtain rfl:os'=s.os:=os
 exact ⟨v,H',I.call (h':=hh) (g':=g) (d':=d) (t':=t) (ch:=[]) un hok bare (fun b z=>absurd z (by simp)),r,q⟩
end
noncomputable def B9 (sp:Sp) (dvs:List V) (E:XK) (t:TA):TE:=fun σ H Q=>t σ H fun vs H1=>sp (vs++dvs) H1 Q E
noncomputable def Fz (C:Addr) (m:Str) (sp:Sp) (dvs:List V) (E:XK) (ta:TE) (t:TA):TE:=fun σ H Q=>ta σ H fun x H1=>∃ a dx fs,x= .ref a∧H1 a=some (.ins C dx fs)∧fs.lookup m=none∧
 t σ H1 fun vs H2=>sp (x::(vs++dvs)) H2 Q E
noncomputable def FA (C:Addr) (sp:Sp) (dvs:List V) (E:XK) (t:TA):TE:=fun σ H Q=>t σ H fun vs H1=>∀ x dx,H1 x=none→H1 dx=none→dx≠x→
 sp (.ref x::(vs++dvs)) (upd (upd H1 dx (.own x)) x (.ins C dx [])) (fun v H2=>v= .non∧Q (.ref x) H2) E
noncomputable def bS (K:PySem.W.Frag) (fd:FuncData) (ps:List Str) (ds:List Value):Prop:=
 ∀ (s:Shared) (us:List Value),K.In s.heap→(us++ds).length=ps.length→BindsTo s fd ⟨us,[]⟩ (ps.zip (us++ds))
theorem bS.all {K:PySem.W.Frag} {fd:FuncData} {ps:List Str} (h:∀ us:List Value,us.length=ps.length→bindArgs fd ⟨us,[]⟩=pure (ps.zip us)):bS K fd ps []:=fun s us _ hl=>by
 rw [List.append_nil] at hl ⊢
 exact .of_eq (h us hl)
noncomputable def oN (CX:CXT) (X:Cx) (E:XK):Prop:=∀ (pins:List (Addr×Obj)) (σ:St) (H:Hp) (s:Shared) (e:Value) (s':Shared),Inv X pins σ H s→CX X.stack H s E e s'→X.xe e s'
section
variable {X:Cx} {CX:CXT} {k:Nat} {f C:Addr} {fd:FuncData} {ps:List Str} {sp:Sp} {dvs:List V} {ds:List Value} {E:XK} {x m:Str} {p pos apos:Pos} {e o:Expr} {es:List Expr} {ta:TE} {t:TA}
theorem As {pins:List (Addr×Obj)} {σ:St} {H:Hp} {s:Shared} {Q:VK} {us:List Value} {vs:List V} (F:FnOk X.prog X.w X.K X.mg X.base CX k f fd ps sp) (hr:Room k X.A) (hb:bS X.K fd ps ds) (hd:Vals dvs ds) (hx:oN CX X E)
  (I:Inv X pins σ H s) (r:Vals vs us) (h:sp (vs++dvs) H Q E):wpAny (model X.prog X.w) X.A (call (.ref f) us) (EP X pins σ Q) X.xe s:=by
 have r2:Vals (vs++dvs) (us++ds):=r.append hd
 have hl:(us++ds).length=ps.length:=by rw [← r2.length];exact F.len _ _ _ _ h
 refine wpAny_call (codeAny_mono (F.run X.A X.stack s H ⟨us,[]⟩ (us++ds) (vs++dvs) Q E hr I.env0 (hb s us I.kIn hl) r2 h) fun r s' hq=>?_)
 cases r with
 | error e=>exact hx pins σ H s e s' I hq
 | ok fl=>
   cases fl with
   | ret u=>exact I.after hq
   | next=>exact False.elim hq
   | brk=>exact False.elim hq
   | cont=>exact False.elim hq
theorem au (F:FnOk X.prog X.w X.K X.mg X.base CX k f fd ps sp) (hr:Room k X.A) (hg:Gl X x) (hm:X.mg x=some (.ref f)) (hk:PySem.W.keepIn X.K (.ref f)=true) (hb:bS X.K fd ps ds) (hd:Vals dvs ds) (hx:oN CX X E)
  (ha:PA X (e::es) t) (hdb:(x == ("__debug__":Str))=false:=by decide) (he:starEach (e::es) X.env=(false,eval e X.env)::starEach es X.env:=by rfl) (hpl:(backTo pos (starEach es X.env)).any (·.1)=false:=by rfl):
  PE X (.Call (.Name x p) (e::es) [] pos) (B9 sp dvs E t):=by
 intro pins s σ H Q I h
 refine wpAny_Call_Name_kw (ri I hg hm ?_ hdb)
 refine PySem.W.callWith_K (h₀:=X.base) I.ok.mod.kin hk (thn (ha pos pins s σ H _ I h) fun us s1 ⟨vs,H1,I1,r,q⟩=>⟨I1.kIn,?_⟩) he hpl
 exact As F hr hb hd hx I1 r q
theorem cP {pl:Sem Bool} (he:PE X o ta) (c:Cls X.K C) (hm:Meth X.K C m f) (F:FnOk X.prog X.w X.K X.mg X.base CX k f fd ps sp) (hr:Room k X.A) (hb:bS X.K fd ps ds) (hd:Vals dvs ds) (hx:oN CX X E)
  (ht:eval (.Call (.Attribute o m apos) [] [] pos) X.env=(do
   let ov ← eval o X.env
   standAt apos.atName
   let (f,first) ← holding [ov] (getMethod ov m pl)
   callWith pos f first (backTo pos (starEach [] X.env)) (backToKw pos (keywordEach [] X.env))):=by rfl):
  PE X (.Call (.Attribute o m apos) [] [] pos) (Fz C m sp dvs E ta tNil):=by
 intro pins s σ H Q I h
 refine PySem.W.methodCall_KW (pl:=pl) (thn (he pins s σ H _ I h) fun u s1 ⟨x,H1,I1,rx,a,dx,fs,ex,ea,l,q⟩=>?_) ht
 subst ex
 obtain rfl:u=Value.ref a:=rx
 refine za I1 ea c hm l ?_
 exact PySem.W.callWith_K0 (first:=[.ref a]) I1.kIn hm.kp (As (us:=[.ref a]) (vs:=[.ref a]) F hr hb hd hx I1 (.cons rfl .nil) q)
structure Mk (K:PySem.W.Frag) (C f:Addr):Prop where
 makes:PySem.W.makesIn K C=true
 init:PySem.W.findIn K (.ref C) "__init__"=some (some (.ref f))
 fn:PySem.W.isFn K (.ref f)=true
 kp:PySem.W.keepIn K (.ref C)=true
theorem Cp {pins:List (Addr×Obj)} {σ:St} {H:Hp} {s:Shared} {Q:VK} {us:List Value} {vs:List V} (M:Mk X.K C f) (F:FnOk X.prog X.w X.K X.mg X.base CX k f fd ps sp) (hr:Room (k + 1) X.A) (hb:bS X.K fd ps ds) (hd:Vals dvs ds)
  (hx:oN CX X E) (I:Inv X pins σ H s) (r:Vals vs us)
  (h:∀ x dx,H x=none→H dx=none→dx≠x→sp (.ref x::(vs++dvs)) (upd (upd H dx (.own x)) x (.ins C dx [])) (fun v H2=>v= .non∧Q (.ref x) H2) E):
  wpAny (model X.prog X.w) X.A (call (.ref C) us) (EP X pins σ Q) X.xe s:=by
 have hq:=h (s.heap.objs.size + 1) s.heap.objs.size (I.hok.fresh (Nat.le_succ _)) (I.hok.fresh (Nat.le_refl _)) (Nat.ne_of_lt (Nat.lt_succ_self _))
 have I2:=Inv.made (C:=C) I
 have r2:Vals (V.ref (s.heap.objs.size + 1)::(vs++dvs)) (Value.ref (s.heap.objs.size + 1)::(us++ds)):= .cons rfl (r.append hd)
 have hl:(Value.ref (s.heap.objs.size + 1)::us++ds).length=ps.length:=by
  have e:=r2.length
  rw [F.len _ _ _ _ hq] at e
  exact e.symm
 refine wpAny_call (CV (f:=f) I.kIn M.makes M.init (beq_iff_eq.mp M.fn) (codeAny_mono (F.run _ X.stack _ _ ⟨Value.ref (s.heap.objs.size + 1)::us,[]⟩ (Value.ref (s.heap.objs.size + 1)::(us++ds)) _ _ E (hr.make C us [])
  (I2.env0.make C us []) (hb _ (Value.ref (s.heap.objs.size + 1)::us) I2.kIn hl) r2 hq) fun r s' hq'=>?_))
 cases r with
 | error e=>exact hx pins σ _ _ e s' I2 hq'
 | ok fl=>
   cases fl with
   | ret u=>
     obtain ⟨v,H',I3,rv,ev,q3⟩:=I2.after hq'
     subst ev
     exact ⟨rv,⟨V.ref (s.heap.objs.size + 1),H',I3,rfl,q3⟩⟩
   | next=>exact False.elim hq'
   | brk=>exact False.elim hq'
   | cont=>exact False.elim hq'
theorem mX (M:Mk X.K C f) (F:FnOk X.prog X.w X.K X.mg X.base CX k f fd ps sp) (hr:Room (k + 1) X.A) (hg:Gl X x) (hm:X.mg x=some (.ref C)) (hb:bS X.K fd ps ds) (hd:Vals dvs ds) (hx:oN CX X E)
  (ha:PA X (e::es) t) (hdb:(x == ("__debug__":Str))=false:=by decide) (he:starEach (e::es) X.env=(false,eval e X.env)::starEach es X.env:=by rfl) (hpl:(backTo pos (starEach es X.env)).any (·.1)=false:=by rfl):
  PE X (.Call (.Name x p) (e::es) [] pos) (FA C sp dvs E t):=by
 intro pins s σ H Q I h
 refine wpAny_Call_Name_kw (ri I hg hm ?_ hdb)
 refine PySem.W.callWith_K (h₀:=X.base) I.ok.mod.kin M.kp (thn (ha pos pins s σ H _ I h) fun us s1 ⟨vs,H1,I1,r,q⟩=>⟨I1.kIn,?_⟩) he hpl
 exact Cp M F hr hb hd hx I1 r q
end
section
variable {X:Cx} {CX:CXT} {k:Nat} {f C:Addr} {fd:FuncData} {ps ks:List Str} {sp:Sp} {E:XK} {x m:Str} {p pos apos kpos:Pos} {e o:Expr} {es:List Expr} {kws:List Keyword} {te ta:TE} {t tk:TA} {nm:Option Str}
structure HR (K:PySem.W.Frag) (fd:FuncData) (ps ks:List Str) (g:List Value→List Value→List Value) (gV:List V→List V→List V):Prop where
 to:∀ (s:Shared) (us ws:List Value),K.In s.heap→(g us ws).length=ps.length→BindsTo s fd ⟨us,ks.zip ws⟩ (ps.zip (g us ws))
 rel:∀ {vs:List V} {us:List Value} {zs:List V} {ws:List Value},Vals vs us→Vals zs ws→Vals (gV vs zs) (g us ws)
variable {g:List Value→List Value→List Value} {gV:List V→List V→List V}
end
structure aK (N P:List Str) (sc:Scope):Prop where
 kind:sc.kind= .function
 co:sc.isCoroutine=false
 gen:sc.isGenerator=false
 nd:N.Nodup
 pre:N.take P.length=P
 par:∀ x∈P,sc.names.lookup x=some .local∨sc.names.lookup x=some .cell
 nofree:∀ y∈sc.names,y.2≠.free
theorem uB {kindOf:Str→Option NameKind} {x:Str}:∀ {binds:List (Str×Value)} {m:Str→Option Value},(∀ v,(x,v)∉binds)→bindL kindOf binds m x=m x
 | [],_,_=>rfl
 | (n,v)::r,m,h=>by
   unfold bindL
   rw [uB fun w hw=>h w (List.mem_cons_of_mem _ hw)]
   split
   ·have:x≠n:=by rintro rfl;exact h v List.mem_cons_self
    simp [this]
   ·rfl
theorem uD {kindOf:Str→Option NameKind} {x:Str}:∀ {binds:List (Str×Value)} {m:Str→Option Value},(∀ v,(x,v)∉binds)→bindC kindOf binds m x=m x
 | [],_,_=>rfl
 | (n,v)::r,m,h=>by
   unfold bindC
   rw [uD fun w hw=>h w (List.mem_cons_of_mem _ hw)]
   split
   ·rfl
   ·have:x≠n:=by rintro rfl;exact h v List.mem_cons_self
    simp [this]
theorem uC {kindOf:Str→Option NameKind} {x:Str} {v:Value}:∀ {P:List Str} {vs:List Value} {i:Nat} {m:Str→Option Value},P.Nodup→P[i]? =some x→vs[i]? =some v→kindOf x=some .local→
  bindL kindOf (P.zip vs) m x=some v
 | [],_,_,_,_,h,_,_=>by simp at h
 | _::_,[],_,_,_,_,h,_=>by simp at h
 | p::P,w::vs,0,m,nd,h1,h2,hk=>by
   simp at h1 h2;subst h1;subst h2
   show bindL kindOf ((p,w)::P.zip vs) m p=_
   unfold bindL
   rw [uB fun v hv=>(List.nodup_cons.mp nd).1 (List.of_mem_zip hv).1,if_pos hk]
   simp
 | p::P,w::vs,i + 1,m,nd,h1,h2,hk=>by
   show bindL kindOf ((p,w)::P.zip vs) m x=_
   unfold bindL
   exact uC (i:=i) (List.nodup_cons.mp nd).2 (by simpa using h1) (by simpa using h2) hk
theorem uE {kindOf:Str→Option NameKind} {x:Str} {v:Value}:∀ {P:List Str} {vs:List Value} {i:Nat} {m:Str→Option Value},P.Nodup→P[i]? =some x→vs[i]? =some v→kindOf x≠some .local→
  bindC kindOf (P.zip vs) m x=some v
 | [],_,_,_,_,h,_,_=>by simp at h
 | _::_,[],_,_,_,_,h,_=>by simp at h
 | p::P,w::vs,0,m,nd,h1,h2,hk=>by
   simp at h1 h2;subst h1;subst h2
   show bindC kindOf ((p,w)::P.zip vs) m p=_
   unfold bindC
   rw [uD fun v hv=>(List.nodup_cons.mp nd).1 (List.of_mem_zip hv).1,if_neg hk]
   simp
 | p::P,w::vs,i + 1,m,nd,h1,h2,hk=>by
   show bindC kindOf ((p,w)::P.zip vs) m x=_
   unfold bindC
   exact uE (i:=i) (List.nodup_cons.mp nd).2 (by simpa using h1) (by simpa using h2) hk
noncomputable def start (N:List Str) (vs:List V):St:=vs.map some++List.replicate (N.length - vs.length) none
noncomputable def cxOf (CX:CXT) (P:Program) (w:World) (K:PySem.W.Frag) (mg:Str→Option Value) (base:Heap) (N:List Str) (qual:Str) (scope:Scope) (f:Addr) (cd:Value) (A:Around) (outer:List Env) (s:Shared) (H:Hp) (E:XK):Cx where
 prog:=P
 w:=w
 K:=K
 mg:=mg
 base:=base
 A:=A.deeper (envOfC qual scope s.heap.objs.size f cd)
 N:=N
 s₀:=s
 H₀:=H
 env:=envOfC qual scope s.heap.objs.size f cd
 outer:=outer
 stack:=envOfC qual scope s.heap.objs.size f cd::outer
 ex:=[]
 calm:=true
 fn:=fun _=>true
 pn:=[]
 xe:=fun e s'=>wpAny (model P w) (A.deeper (envOfC qual scope s.heap.objs.size f cd)) (leaving (envOfC qual scope s.heap.objs.size f cd) e) (fun _ s''=>CX outer H s E e s'') (fun e' s''=>CX outer H s E e' s'') s'
theorem xQ {sc:Scope} {n:Nat} {x:Str} (h:sc.names.lookup x=some .cell):∃ c,(cellsFrom n sc.names []).lookup x=some c:=by
 have q:=PySem.W.cellsFrom_some sc.names n [] (.inl h)
 exact Option.isSome_iff_exists.mp q
theorem Bd {CX:CXT} {P:Program} {w:World} {K:PySem.W.Frag} {mg:Str→Option Value} {base:Heap} {N ps:List Str} {qual:Str} {scope:Scope} {f:Addr} {cd:Value} {A:Around} {outer:List Env} {s s1:Shared} {H:Hp} {E:XK} {us:List Value} {vs:List V}
  (S:aK N ps scope) (hd:A.handled=none) (e0:Env0 P w K mg base A outer s H) (hl:vs.length=ps.length) (r:Vals vs us)
  (x:InCallC s s.heap.objs.size (bindL (envOfC qual scope s.heap.objs.size f cd).kindOf (ps.zip us) fun _=>none) (cellsFrom (s.heap.objs.size + 1) scope.names []) (bindC (envOfC qual scope s.heap.objs.size f cd).kindOf (ps.zip us) fun _=>none) s1):
  Inv (cxOf CX P w K mg base N qual scope f cd A outer s H E) [] (start N vs) H s1:=by
 have hpl:ps.length≤N.length:=by have:=congrArg List.length S.pre;rw [List.length_take] at this;omega
 obtain ⟨h1,tk,rfl,hk⟩:=x.done
 have noA:∀ b:Addr,b∉(cxOf CX P w K mg base N qual scope f cd A outer s H E).ex:=fun b z=>absurd (show b∈([]:List Addr) from z) (by simp)
 refine ⟨⟨e0.mod,S.kind,rfl,rfl,Nat.le_refl _,fun y z c h1 h2=>?_,fun y hy=>?_,fun y c _ h=>?_,fun _=>hd,Around.frames_deeper e0.frames,.inr ⟨rfl,rfl⟩,fun b z=>absurd z (noA b),e0.bs,e0.bsz,fun b _ _=>noA b,fun b z=>absurd z (noA b),e0.funs,e0.frf⟩,
  rfl,e0.bare,Un.kept hk,⟨_,x.toInCall.ns,fun i y v h1 h2 h3=>?_⟩,fun y c h=>⟨_,x.cell y c h⟩,e0.hok.fresh (Nat.le_refl _),fun y c h=>?_,fun p hp=>absurd (show p∈([]:List (Addr×Obj)) from hp) (by simp),e0.hok.kept hk,?_⟩
 ·exact name_of_addr x.apart (PySem.mem_of_lookup h1) (PySem.mem_of_lookup h2)
 ·have hy:scope.names.lookup y=some .cell∨scope.names.lookup y=some .free:=hy
  rcases hy with hy | hy
  ·exact xQ hy
  ·exact absurd rfl (S.nofree _ (PySem.mem_of_lookup hy))
 ·exact Nat.le_of_lt (x.above y c (PySem.mem_of_lookup h))
 ·have hi:i < vs.length:=by
   unfold start at h2
   by_cases hi:i < vs.length
   ·exact hi
   ·rw [List.getElem?_append_right (by simpa using hi)] at h2
    rw [List.getElem?_replicate] at h2
    split at h2<;>cases h2
  have ha:vs[i]? =some v:=by
   unfold start at h2
   rw [List.getElem?_append_left (by simpa using hi),List.getElem?_map] at h2
   cases e:vs[i]? with
   | none=>rw [e] at h2;cases h2
   | some a=>rw [e] at h2;cases h2;rfl
  obtain ⟨u,hu,rv⟩:=r.get ha
  have hp:ps[i]? =some y:=by
   rw [← S.pre,List.getElem?_take_of_lt (by omega)];exact h1
  have ndP:ps.Nodup:=by rw [← S.pre];exact S.nd.sublist (List.take_sublist _ _)
  refine ⟨u,rv,?_⟩
  rcases S.par y (List.mem_of_getElem? hp) with k | k
  ·exact .inl ⟨k,uC ndP hp hu k⟩
  ·obtain ⟨c,e⟩:=xQ (n:=s.heap.objs.size + 1) k
   refine .inr ⟨.inl k,c,e,?_⟩
   have q:=x.cell y c e
   rw [uE ndP hp hu (by show scope.names.lookup y≠_;rw [k];decide)] at q
   exact q
 ·exact e0.hok.fresh (Nat.le_of_lt (x.above y c (PySem.mem_of_lookup h)))
 ·unfold start
  show _=N.length
  rw [List.length_append,List.length_map,List.length_replicate]
  omega
theorem HH {CX:CXT} {P:Program} {w:World} {K:PySem.W.Frag} {mg:Str→Option Value} {base:Heap} {k:Nat} {f:Addr} {name qual:Str} {params:Arguments} {body:List Stmt} {scope:Scope} {dV kV doc pm cdv ct oc:Value} {an od:Option Addr}
  {osl:Array (Option Value)} {N ps:List Str} {sp:Sp} (lk:K.lookup f=some ⟨oc,od,.func (PySem.W.fnOf name qual params body scope dV kV doc pm an cdv ct),osl⟩) (hcd:PySem.W.codeIn K cdv qual=true) (S:aK N ps scope)
  (len:∀ vs H Q E,sp vs H Q E→vs.length=ps.length)
  (hbody:∀ (A:Around) (outer:List Env) (s:Shared) (H:Hp) (vs:List V) (Q:VK) (E:XK),Room k (A.deeper (envOfC qual scope s.heap.objs.size f cdv))→sp vs H Q E→
   ∃ t,PSs (cxOf CX P w K mg base N qual scope f cdv A outer s H E) body t∧t {nx:=fun _ H'=>Q .non H',rt:=Q} (start N vs) H):
  FnOk P w K mg base CX (k + 1) f (PySem.W.fnOf name qual params body scope dV kV doc pm an cdv ct) ps sp:=by
 refine ⟨len,fun A outer s H args us vs Q E hr e0 hb r hsp=>?_⟩
 have hl:=len _ _ _ _ hsp
 have KX:K.In s.heap:=e0.mod.kin.keeps fun b o e=>(e0.bs b o e).1
 have lim:s.heap.NoLimit:=e0.mod.nolimit.keeps fun b o e=>(e0.bs b o e).1
 have hkind:∀ y∈ps.zip us,scope.names.lookup y.1=some .local∨(scope.names.lookup y.1=some .cell∧((cellsFrom (s.heap.objs.size + 1) scope.names []).lookup y.1).isSome=true):=fun ⟨n,v⟩ hy=>by
  rcases S.par n (List.of_mem_zip hy).1 with q | q
  ·exact .inl q
  ·exact .inr ⟨q,PySem.W.cellsFrom_some _ _ _ (.inl q)⟩
 refine codeAny_call_function hr.depth (KX _ _ lk) rfl S.co S.gen rfl (PySem.W.codeRec_of KX hcd) (hb _ _ _ _ ?_)
 refine wpAny_newFunctionEnv_cells S.kind hkind fun env he s1 x=>?_
 subst he
 refine ⟨lim.keeps x.toInCall.keep,codeAny_func ?_⟩
 obtain ⟨t,ht,hq⟩:=hbody A outer s H vs Q E (hr.deeper _) hsp
 have I:Inv (cxOf CX P w K mg base N qual scope f cdv A outer s H E) [] (start N vs) H s1:=Bd S hr.hd e0 hl r x
 refine wpAny_mono (ht [] s1 (start N vs) H _ I hq) (fun fl s' hs=>?_) fun e s' hs=>hs
 have fin:∀ {σ':St} {H':Hp} {v:V} {u:Value},Inv (cxOf CX P w K mg base N qual scope f cdv A outer s H E) [] σ' H' s'→RelV v u→Q v H'→CE outer P w H s Q u s':=
  fun {σ' H' v u} J rv q=>⟨v,H',J.os,J.bare,J.base,J.hok,rv,q⟩
 cases fl with
 | ret u=>
   obtain ⟨v,σ',H',J,rv,q⟩:=hs
   exact fin J rv q
 | next=>
   obtain ⟨σ',H',J,q⟩:=hs
   exact fin (v:=V.non) (u:=Value.none) J rfl q
 | brk=>
   obtain ⟨_,_,_,q⟩:=hs
   exact False.elim q
 | cont=>
   obtain ⟨_,_,_,q⟩:=hs
   exact False.elim q
section
variable {X:Cx} {x:Str} {p pos:Pos} {e:Expr} {es:List Expr} {t:TA} {id T:String} {r:List V→Hp→VK→Prop}
noncomputable def tCB (r:List V→Hp→VK→Prop) (t:TA):TE:=fun σ H Q=>t σ H fun vs H1=>r vs H1 Q
theorem aH (hc:jZ X (.builtin id) r) (hg:Gl X x) (hm:X.mg x=none) (hv:bootBuiltins x=some (.builtin id)) (ha:PA X (e::es) t) (hn:x≠"__name__":=by decide) (hdb:(x == ("__debug__":Str))=false:=by decide)
  (he:starEach (e::es) X.env=(false,eval e X.env)::starEach es X.env:=by rfl) (hpl:(backTo pos (starEach es X.env)).any (·.1)=false:=by rfl):PE X (.Call (.Name x p) (e::es) [] pos) (tCB r t):=by
 intro pins s σ H Q I h
 refine wpAny_Call_Name_kw (k8 I hg hm hv ?_ hn hdb)
 exact PyProof.Rows.callWith_builtin1 (thn (ha pos pins s σ H _ I h) fun us s1 ⟨vs,H1,I1,r1,q1⟩=>hc pins s1 σ H1 vs us Q I1 r1 q1) he hpl
theorem aM (hc:jZ X (.type T) r) (hg:Gl X x) (hm:X.mg x=none) (hv:bootBuiltins x=some (.type T)) (ha:PA X (e::es) t) (hn:x≠"__name__":=by decide) (hdb:(x == ("__debug__":Str))=false:=by decide)
  (he:starEach (e::es) X.env=(false,eval e X.env)::starEach es X.env:=by rfl) (hpl:(backTo pos (starEach es X.env)).any (·.1)=false:=by rfl):PE X (.Call (.Name x p) (e::es) [] pos) (tCB r t):=by
 intro pins s σ H Q I h
 refine wpAny_Call_Name_kw (k8 I hg hm hv ?_ hn hdb)
 exact PyProof.Rows.callWith_type1 (thn (ha pos pins s σ H _ I h) fun us s1 ⟨vs,H1,I1,r1,q1⟩=>hc pins s1 σ H1 vs us Q I1 r1 q1) he hpl
end
end L2
namespace HT
open PySem PyProof.Rows
section
variable {prog:Program} {w:World} {A:Around} {E:Value→Shared→Prop} {s:Shared}
noncomputable def sIx (n d:Nat):Option Int→Nat
 | none=>d
 | some v=>if v < 0 then (v + (n:Int)).toNat else min v.toNat n
theorem sIx_none (n d:Nat):sIx n d none=d:=rfl
theorem sIx_nat (n d k:Nat):sIx n d (some (k:Int))=min k n:=by
 show (if (k:Int) < 0 then ((k:Int) + (n:Int)).toNat else min (k:Int).toNat n)=min k n
 rw [if_neg (by omega),Int.toNat_natCast]
end
end HT
namespace L2
open PySem PySem.Spec PyProof.Rows
noncomputable abbrev TO:=St→Hp→(Option Int→Hp→Prop)→Prop
noncomputable def PO (X:Cx) (e:Option Expr) (t:TO):Prop:=
 ∀ (pins:List (Addr×Obj)) (s:Shared) (σ:St) (H:Hp) (Q:Option Int→Hp→Prop),Inv X pins σ H s→t σ H Q→
  wpAny (model X.prog X.w) X.A (evalPart e X.env) (fun u s'=>∃ o H',Inv X pins σ H' s'∧IsPart u o∧Q o H') X.xe s
noncomputable def Aa:TO:=fun _ H Q=>Q none H
noncomputable def Fx (t:TE):TO:=fun σ H Q=>t σ H fun x H1=>∃ i,x= .int i∧Q (some i) H1
section
variable {X:Cx} {e:Expr} {te:TE} {lo hi:Option Expr} {tl th:TO} {pos p2:Pos}
theorem qF:PO X none Aa:=by
 intro pins s σ H Q I h
 rw [evalPart_none]
 exact wpAny_pure ⟨none,H,I,.none,h⟩
theorem qE (h:PE X e te):PO X (some e) (Fx te):=by
 intro pins s σ H Q I hw
 rw [evalPart_some]
 refine thn (h pins s σ H _ I hw) fun u s1 ⟨x,H1,I1,r1,q1⟩=>?_
 obtain ⟨i,rfl,q⟩:=q1
 obtain ⟨t,rfl⟩:=r1
 exact ⟨some i,H1,I1,.int i t,q⟩
noncomputable def SlR (X:Cx) (r:V→Option Int→Option Int→Hp→VK→Prop):Prop:=
 ∀ (pins:List (Addr×Obj)) (s:Shared) (σ:St) (H:Hp) (x:V) (v vl vu:Value) (lo hi:Option Int) (sl:Addr) (Q:VK),Inv X pins σ H s→RelV x v→s.heap.IsSliceOf sl vl vu .none→IsPart vl lo→IsPart vu hi→r x lo hi H Q→
  ∃ T id,typeLookup (.type T) "__getitem__"=pure (some (.builtin id))∧s.TypeIs v T∧wpAny (model X.prog X.w) X.A (getItem v (.ref sl)) (EP X pins σ Q) X.xe s
noncomputable def tSl (r:V→Option Int→Option Int→Hp→VK→Prop) (te:TE) (tl th:TO):TE:=fun σ H Q=>te σ H fun x H1=>tl σ H1 fun l H2=>th σ H2 fun u H3=>r x l u H3 Q
theorem mD {r:V→Option Int→Option Int→Hp→VK→Prop} (hr:SlR X r) (he:PE X e te) (hl:PO X lo tl) (hu:PO X hi th):PE X (.Subscript e (.Slice lo hi none p2) pos) (tSl r te tl th):=by
 intro pins s σ H Q I h
 refine Subscript_ (thn (he pins s σ H _ I h) fun v s1 ⟨x,H1,I1,r1,q1⟩=>?_)
 refine wpAny_Slice (thn (hl pins s1 σ H1 _ I1 q1) fun vl s2 ⟨l,H2,I2,pl,q2⟩=>thn (hu pins s2 σ H2 _ I2 q2) fun vu s3 ⟨u,H3,I3,pu,q3⟩=>?_)
 rw [evalPart_none]
 refine wpAny_pure ?_
 have I4:Inv X pins σ H3 {s3 with heap:=s3.heap.push {cls:= .type "slice",data:= .fields #[vl,vu,.none]}}:=I3.kept (t':=s3.toks) fun b ob q=>Heap.get?_push_of_some _ q
 obtain ⟨T,id,hT,ht,hg⟩:=hr pins {s3 with heap:=s3.heap.push {cls:= .type "slice",data:= .fields #[vl,vu,.none]}} σ H3 x v vl vu l u s3.heap.objs.size Q I4 r1 (Heap.IsSliceOf.new ..) pl pu q3
 show wpAny (model X.prog X.w) X.A (subscriptTail e (.Slice lo hi none p2) v (.ref s3.heap.objs.size)) (EP X pins σ Q) X.xe {s3 with heap:=s3.heap.push {cls:= .type "slice",data:= .fields #[vl,vu,.none]}}
 exact tail_any (ops:=[.ref s3.heap.objs.size,v]) ht hT hg (by with_unfolding_all rfl)
noncomputable def cutV (xs:List V) (lo hi:Option Int):List V:=(xs.drop (HT.sIx xs.length 0 lo)).take (HT.sIx xs.length xs.length hi - HT.sIx xs.length 0 lo)
theorem wK (xs:List V) (lo hi:Option Int):(cutV xs lo hi).length≤xs.length:=by
 unfold cutV
 rw [List.length_take,List.length_drop]
 omega
end
noncomputable def ixN (n:Nat) (i:Int):Option Nat:=if 0≤i then (if i < n then some i.toNat else none) else if -(n:Int)≤i then some (i + n).toNat else none
noncomputable def atI {α:Type} (xs:List α) (i:Int):Option α:=(ixN xs.length i).bind fun j=>xs[j]?
theorem EU {n:Nat} {i:Int} {j:Nat} (h:ixN n i=some j):seqIndex? i n=some j∧j < n∧-(n:Int)≤i∧i < n:=by
 unfold ixN at h
 by_cases h0:0≤i
 ·rw [if_pos h0] at h
  by_cases h1:i < n
  ·rw [if_pos h1] at h
   have e:i.toNat=j:=Option.some.inj h
   exact ⟨by rw [seqIndex_of h0 h1,e],by omega,by omega,h1⟩
  ·rw [if_neg h1] at h;cases h
 ·rw [if_neg h0] at h
  by_cases h1: -(n:Int)≤i
  ·rw [if_pos h1] at h
   have e:(i + n).toNat=j:=Option.some.inj h
   exact ⟨by rw [seqIndex_neg (by omega) h1,e],by omega,h1,by omega⟩
  ·rw [if_neg h1] at h;cases h
theorem wX {α:Type} {xs:List α} {i:Int} {v:α} (h:atI xs i=some v):∃ j,seqIndex? i xs.length=some j∧xs[j]? =some v∧j < xs.length∧-(xs.length:Int)≤i∧i < xs.length:=by
 unfold atI at h
 cases e:ixN xs.length i with
 | none=>rw [e] at h;cases h
 | some j=>
   rw [e] at h
   obtain ⟨h1,h2,h3,h4⟩:=EU e
   exact ⟨j,h1,h,h2,h3,h4⟩
theorem cW {α:Type} {xs:List α} {j:Nat} {v:α} (h:xs[j]? =some v):atI xs (j:Int)=some v:=by
 have hj:j < xs.length:=(List.getElem?_eq_some_iff.mp h).1
 have e:ixN xs.length (j:Int)=some j:=by
  unfold ixN
  rw [if_pos (by omega),if_pos (by omega)];simp
 unfold atI;rw [e];exact h
noncomputable def Fc (b:Expr):Prop:=∀ o i,subscripted b false o i=operate [o,i] (getItem o i)
noncomputable def IxR (X:Cx) (r:R2):Prop:=
 ∀ (value slice:Expr) (pins:List (Addr×Obj)) (s:Shared) (σ:St) (H:Hp) (x y:V) (v u:Value) (Q:VK),Inv X pins σ H s→RelV x v→RelV y u→r x y H Q→
  subscripted slice false v u=operate [v,u] (getItem v u)→wpAny (model X.prog X.w) X.A (subscriptTail value slice v u) (EP X pins σ Q) X.xe s
noncomputable def MtR (X:Cx) (id:String) (r:V→List V→Hp→VK→Prop):Prop:=
 ∀ (pins:List (Addr×Obj)) (s:Shared) (σ:St) (H:Hp) (x:V) (xs:List V) (v:Value) (us:List Value) (Q:VK),Inv X pins σ H s→RelV x v→Vals xs us→r x xs H Q→
  wpAny (model X.prog X.w) X.A (call (.builtin id) (v::us)) (EP X pins σ Q) X.xe s
section
variable {X:Cx} {a b:Expr} {ta tb:TE} {pos:Pos}
theorem bw {r:R2} (hr:IxR X r) (ha:PE X a ta) (hb:PE X b tb) (hs:Fc b):PE X (.Subscript a b pos) (tOp r ta tb):=by
 intro pins s σ H Q I h
 exact Subscript_ (binT ha hb I h fun v u s2 x y H2 I2 rx ry q=>hr a b pins s2 σ H2 x y v u Q I2 rx ry q (hs _ _))
noncomputable def rIxL (K:PySem.W.Frag):R2:=fun x y H Q=>∃ p xs i v,x= .ref p∧y= .int i∧SqL K H p xs∧atI xs i=some v∧Q v H
noncomputable def rIxT (K:PySem.W.Frag):R2:=fun x y H Q=>∃ p xs i v,x= .ref p∧y= .int i∧SqT K H p xs∧atI xs i=some v∧Q v H
noncomputable def rIxS:R2:=fun x y H Q=>∃ z i c,x= .str z∧y= .int i∧z.length≤sizeLine∧atI z.cps.toList i=some c∧Q (.str ⟨#[c]⟩) H
theorem ET:IxR X (rIxL X.K):=by
 intro value slice pins s σ H x y v u Q I rx ry h hs
 obtain ⟨p,xs,i,z,rfl,rfl,hq,he,q⟩:=h
 cases rx
 obtain ⟨t,rfl⟩:=ry
 obtain ⟨its,r,pl,hz⟩:=I.list hq
 obtain ⟨j,h1,h2,h3,h4,h5⟩:=wX he
 obtain ⟨w,ew,rw'⟩:=r.get h2
 have hl:=r.length
 have hn:=xC
 have fin:EP X pins σ Q w s:=⟨z,H,I,rw',q⟩
 by_cases h0:0≤i
 ·have hj:i.toNat=j:=by
   rw [seqIndex_of h0 h5] at h1
   exact Option.some.inj h1
  exact item_listR pl.isList h0 (by omega) (by rw [hj];simpa using ew) fin hs
 ·have hj:(i + (its.toArray.size:Int)).toNat=j:=by
   rw [seqIndex_neg (by omega) h4] at h1
   rw [List.size_toArray,← hl]
   exact Option.some.inj h1
  exact subscriptTail_builtinR (x:=w) pl.isList.typeIs slot_list_getitem.lookup
   (wpAny_getItem_list_neg (Q:=fun r s'=>r=w∧EP X pins σ Q r s') pl.isList (by omega) (by rw [List.size_toArray]<;>omega) (by omega) (by rw [hj];simpa using ew) ⟨rfl,fin⟩) hs
theorem GG:IxR X (rIxT X.K):=by
 intro value slice pins s σ H x y v u Q I rx ry h hs
 obtain ⟨p,xs,i,z,rfl,rfl,hq,he,q⟩:=h
 cases rx
 obtain ⟨t,rfl⟩:=ry
 obtain ⟨its,r,pl,hz⟩:=I.tuple hq
 obtain ⟨j,h1,h2,h3,h4,h5⟩:=wX he
 obtain ⟨w,ew,rw'⟩:=r.get h2
 have hl:=r.length
 have hn:=xC
 have fin:EP X pins σ Q w s:=⟨z,H,I,rw',q⟩
 exact subscriptTail_builtinR (x:=w) pl.typeIs slot_tuple_getitem.lookup
  (getItem_tuple (j:=j) (Q:=fun r s'=>r=w∧EP X pins σ Q r s') pl (by omega) (by omega) (by rw [List.size_toArray,← hl];exact h1) (by simpa using ew) ⟨rfl,fin⟩) hs
theorem DL:IxR X rIxS:=by
 intro value slice pins s σ H x y v u Q I rx ry h hs
 obtain ⟨z,i,c,rfl,rfl,hz,he,q⟩:=h
 obtain ⟨t,rfl⟩:=rx
 obtain ⟨t',rfl⟩:=ry
 obtain ⟨j,h1,h2,h3,h4,h5⟩:=wX he
 have hl:z.cps.toList.length=z.length:=by simp [Str.length]
 rw [hl] at h1 h4 h5
 have hn:=xC
 exact tail_any (typeIs_str s z t) slot_str_getitem.lookup (getItem_str (c:=c) (by
  have e1:decide (i < -(2 ^ 63:Int))=false:=decide_eq_false (by omega)
  have e2:decide (i≥2 ^ 63)=false:=decide_eq_false (by omega)
  rw [e1,e2,Bool.or_false]) (by rw [h1];simpa using h2) ⟨.str ⟨#[c]⟩,H,I.tok _,⟨_,rfl⟩,q⟩) hs
theorem sy (lo hi:Option Int) (n:Nat):(sliceBounds lo hi none n).1=((HT.sIx n 0 lo:Nat):Int)∧(sliceBounds lo hi none n).2.1=((HT.sIx n n hi:Nat):Int)∧(sliceBounds lo hi none n).2.2=1:=by
 refine ⟨?_,?_,rfl⟩
 ·cases lo with
  | none=>simp [sliceBounds,HT.sIx]
  | some i=>
    simp only [sliceBounds,HT.sIx,Option.getD_none,show (1:Int) > 0 by decide,if_true]
    by_cases h:i < 0
    ·simp only [h,if_true]<;>omega
    ·simp only [h,if_false]<;>omega
 ·cases hi with
  | none=>simp [sliceBounds,HT.sIx]
  | some i=>
    simp only [sliceBounds,HT.sIx,Option.getD_none,show (1:Int) > 0 by decide,if_true]
    by_cases h:i < 0
    ·simp only [h,if_true]<;>omega
    ·simp only [h,if_false]<;>omega
theorem qu (its:List Value) (lo hi:Option Int):slicePick its.toArray lo hi none=((its.drop (HT.sIx its.length 0 lo)).take (HT.sIx its.length its.length hi - HT.sIx its.length 0 lo)).toArray:=by
 obtain ⟨h1,h2,h3⟩:=sy lo hi its.toArray.size
 unfold slicePick
 rw [h1,h2,h3]
 simp only [sliceRange_one,pick_run,List.size_toArray]<;>rfl
noncomputable def rSlL (K:PySem.W.Frag):V→Option Int→Option Int→Hp→VK→Prop:=fun x lo hi H Q=>∃ a xs,x= .ref a∧SqL K H a xs∧∀ p,H p=none→Q (.ref p) (upd H p (.lst (cutV xs lo hi)))
theorem Eg:SlR X (rSlL X.K):=by
 intro pins s σ H x v vl vu lo hi sl Q I rx hs pl pu h
 obtain ⟨a,xs,rfl,hx,q⟩:=h
 cases rx
 obtain ⟨its,r,ht,hz⟩:=I.list hx
 have hlen:=r.length
 refine ⟨"list",_,slot_list_getitem.lookup,ht.isList.typeIs,?_⟩
 refine wpAny_getItem_list_slice ht.isList hs pl pu .none (by simp) ?_ (by rw [List.size_toArray]<;>omega)
 rw [qu,← hlen]
 refine ⟨.ref s.heap.objs.size,_,I.laid (t':=s.toks) (o:= .lst (cutV xs lo hi)) (fun b ob q=>Heap.get?_push_of_some _ q) (Nat.le_refl _) ?_,rfl,q _ (I.hok.fresh (Nat.le_refl _))⟩
 exact ⟨Nat.le_trans (wK xs lo hi) hz,_,0,(r.drop (HT.sIx xs.length 0 lo)).take (HT.sIx xs.length xs.length hi - HT.sIx xs.length 0 lo),Heap.get?_push_size _ rfl⟩
noncomputable def ua:V→Bool
 | .non=>true
 | .bl _=>true
 | .int _=>true
 | .str _=>true
 | _=>false
noncomputable def eqV:V→V→Bool
 | .non,.non=>true
 | .bl a,.bl b=>a == b
 | .bl a,.int b=>(if a then 1 else 0) == b
 | .int a,.bl b=>a == (if b then 1 else 0)
 | .int a,.int b=>a == b
 | .str a,.str b=>a == b
 | _,_=>false
theorem GM {A:Around} {s:Shared} {y x:V} {u v:Value} (ry:RelV y u) (rx:RelV x v) (fy:ua y=true) (fx:ua x=true):SeqAt.EqAt A s u v (eqV y x):=by
 cases y with
 | non=>
   cases ry
   cases x with
   | non=>cases rx;exact SeqAt.EqAt.same _
   | bl b=>cases rx;exact SeqAt.EqAt.none_bool b
   | int b=>obtain ⟨t,rfl⟩:=rx;exact SeqAt.EqAt.none_int b t
   | str b=>obtain ⟨t,rfl⟩:=rx;exact SeqAt.EqAt.none_str b t
   | _=>exact absurd (show false=true from fx) Bool.false_ne_true
 | bl a=>
   cases ry
   cases x with
   | non=>cases rx;exact SeqAt.EqAt.bool_none a
   | bl b=>cases rx;exact SeqAt.EqAt.bool_bool a b
   | int b=>obtain ⟨t,rfl⟩:=rx;exact SeqAt.EqAt.bool_int a b t
   | str b=>obtain ⟨t,rfl⟩:=rx;exact SeqAt.EqAt.bool_str a b t
   | _=>exact absurd (show false=true from fx) Bool.false_ne_true
 | int a=>
   obtain ⟨t',rfl⟩:=ry
   cases x with
   | non=>cases rx;exact SeqAt.EqAt.int_none a t'
   | bl b=>cases rx;exact SeqAt.EqAt.int_bool a t' b
   | int b=>obtain ⟨t,rfl⟩:=rx;exact SeqAt.EqAt.int_int a t' b t
   | str b=>obtain ⟨t,rfl⟩:=rx;exact SeqAt.EqAt.int_str a t' b t
   | _=>exact absurd (show false=true from fx) Bool.false_ne_true
 | str a=>
   obtain ⟨t',rfl⟩:=ry
   cases x with
   | non=>cases rx;exact SeqAt.EqAt.str_none a t'
   | bl b=>cases rx;exact SeqAt.EqAt.str_bool a t' b
   | int b=>obtain ⟨t,rfl⟩:=rx;exact SeqAt.EqAt.str_int a t' b t
   | str b=>obtain ⟨t,rfl⟩:=rx;exact SeqAt.EqAt.str_str a t' b t
   | _=>exact absurd (show false=true from fx) Bool.false_ne_true
 | _=>exact absurd (show false=true from fy) Bool.false_ne_true
noncomputable def eqU (x:V) (u:Value):Bool:=match u with
 | .none=>eqV .non x
 | .bool b=>eqV (.bl b) x
 | .int i _=>eqV (.int i) x
 | .str z _=>eqV (.str z) x
 | _=>false
theorem DN {x y:V} {u:Value} (r:RelV y u) (f:ua y=true):eqU x u=eqV y x:=by
 cases y with
 | non=>cases r;rfl
 | bl b=>cases r;rfl
 | int i=>obtain ⟨t,rfl⟩:=r;rfl
 | str z=>obtain ⟨t,rfl⟩:=r;rfl
 | _=>exact absurd (show false=true from f) Bool.false_ne_true
theorem oH {x:V}:∀ {xs:List V} {us:List Value},Vals xs us→xs.all ua=true→us.any (eqU x)=xs.any fun y=>eqV y x
 | _,_,.nil,_=>rfl
 | y::xs,u::us,.cons r t,f=>by
   rw [List.all_cons,Bool.and_eq_true] at f
   rw [List.any_cons,List.any_cons,DN r f.1,oH t f.2]
theorem jK {A:Around} {s:Shared} {x:V} {v:Value} (rx:RelV x v) (fx:ua x=true):∀ {xs:List V} {us:List Value},Vals xs us→xs.all ua=true→∀ u∈us,SeqAt.EqAt A s u v (eqU x u)
 | _,_,.nil,_=>fun u hu=>by cases hu
 | y::xs,u::us,.cons r t,f=>fun u' hu=>by
   rw [List.all_cons,Bool.and_eq_true] at f
   rcases List.mem_cons.mp hu with rfl | hu
   ·rw [DN r f.1];exact GM r rx f.1 fx
   ·exact jK rx fx t f.2 u' hu
noncomputable def inV (x:V) (xs:List V):Bool:=xs.any fun y=>eqV y x
noncomputable def rIn (K:PySem.W.Frag) (neg:Bool):R2:=fun x y H Q=>∃ p xs,y= .ref p∧(SqL K H p xs∨SqT K H p xs)∧ua x=true∧xs.all ua=true∧Q (.bl (if neg then !inV x xs else inV x xs)) H
theorem AK:OpR X (compareOp .In) (rIn X.K false):=by
 intro pins s σ H x y v u Q I rx ry h
 obtain ⟨p,xs,rfl,hq,fx,fs,q⟩:=h
 cases ry
 rcases hq with hq | hq
 ·obtain ⟨its,r,pl,hz⟩:=I.list hq
  refine SeqAt.in_listAt (eqU x) pl.isList (fun w hw=>jK rx fx r fs w (by simpa using hw)) ⟨.bl _,H,I,rfl,?_⟩
  rw [show its.toArray.any (eqU x)=its.any (eqU x) by simp,oH r fs]
  exact q
 ·obtain ⟨its,r,pl,hz⟩:=I.tuple hq
  refine SeqAt.in_tupleAt (eqU x) pl (fun w hw=>jK rx fx r fs w (by simpa using hw)) ⟨.bl _,H,I,rfl,?_⟩
  rw [show its.toArray.any (eqU x)=its.any (eqU x) by simp,oH r fs]
  exact q
theorem sZ:OpR X (compareOp .NotIn) (rIn X.K true):=by
 intro pins s σ H x y v u Q I rx ry h
 obtain ⟨p,xs,rfl,hq,fx,fs,q⟩:=h
 cases ry
 rcases hq with hq | hq
 ·obtain ⟨its,r,pl,hz⟩:=I.list hq
  refine SeqAt.notIn_listAt (eqU x) pl.isList (fun w hw=>jK rx fx r fs w (by simpa using hw)) ⟨.bl _,H,I,rfl,?_⟩
  rw [show its.toArray.any (eqU x)=its.any (eqU x) by simp,oH r fs]
  exact q
 ·obtain ⟨its,r,pl,hz⟩:=I.tuple hq
  refine SeqAt.notIn_tupleAt (eqU x) pl (fun w hw=>jK rx fx r fs w (by simpa using hw)) ⟨.bl _,H,I,rfl,?_⟩
  rw [show its.toArray.any (eqU x)=its.any (eqU x) by simp,oH r fs]
  exact q
theorem uu:jZ X (.type "list") (fun xs H Q=>∃ p ys,xs=[.ref p]∧(SqL X.K H p ys∨SqT X.K H p ys)∧∀ l,H l=none→Q (.ref l) (upd H l (.lst ys))):=by
 intro pins s σ H xs us Q I r h
 obtain ⟨p,ys,rfl,hq,q⟩:=h
 obtain ⟨u,rfl,rx⟩:=qp r
 cases rx
 have fin:∀ (its:List Value),Vals ys its→ys.length≤sizeLine→∀ (h':Heap) (c':Nat),(∀ b o',s.heap.get? b=some o'→h'.get? b=some o')→
   h'.get? s.heap.objs.size=some {cls:= .type "list",dict:=none,data:= .seq its.toArray c',slots:=#[]}→EP X pins σ Q (.ref s.heap.objs.size) {s with heap:=h'}:=fun its r' hz h' c' kp e=>
  ⟨.ref s.heap.objs.size,_,I.laid (t':=s.toks) kp (Nat.le_refl _) (show dI X.prog X.w _ h' _ (.lst ys) from ⟨hz,its,c',r',e⟩),rfl,q _ (I.hok.fresh (Nat.le_refl _))⟩
 rcases hq with hq | hq
 ·obtain ⟨its,r',pl,hz⟩:=I.list hq
  have hlen:=r'.length
  obtain ⟨o,ho,hc,n,hd⟩:=pl.isList
  exact call_list_seq p (.inl rfl) ho hc hd (fun h' c' kp e=>fin its r' hz h' c' kp e) (by simp only [List.size_toArray]<;>omega)
 ·obtain ⟨its,r',pl,hz⟩:=I.tuple hq
  have hlen:=r'.length
  obtain ⟨o,ho,hc,n,hd⟩:=pl
  exact call_list_seq p (.inr rfl) ho hc hd (fun h' c' kp e=>fin its r' hz h' c' kp e) (by simp only [List.size_toArray]<;>omega)
theorem rS:jZ X (.type "tuple") (fun xs H Q=>∃ p ys,xs=[.ref p]∧((SqL X.K H p ys∧∀ l,H l=none→Q (.ref l) (upd H l (.tup ys)))∨(SqT X.K H p ys∧Q (.ref p) H))):=by
 intro pins s σ H xs us Q I r h
 obtain ⟨p,ys,rfl,h⟩:=h
 obtain ⟨u,rfl,rx⟩:=qp r
 cases rx
 rcases h with ⟨hq,q⟩ | ⟨hq,q⟩
 ·obtain ⟨its,r',pl,hz⟩:=I.list hq
  have hlen:=r'.length
  refine call_tuple_list pl.isList (fun h' kp=>?_) (by simp only [List.size_toArray]<;>omega)
  have I1:Inv X pins σ H {s with heap:=h'}:=I.kept (t':=s.toks) kp
  have I2:Inv X pins σ (upd H h'.objs.size (.tup ys)) {s with heap:=h'.push {cls:= .type "tuple",data:= .seq its.toArray}}:=
   I1.laid (t':=s.toks) (fun b o e=>Heap.get?_push_of_some _ e) (Nat.le_refl _) (show dI X.prog X.w _ _ _ (.tup ys) from ⟨hz,its,r',IsTup.new _ _⟩)
  exact ⟨.ref h'.objs.size,_,I2,rfl,q _ (I1.hok.fresh (Nat.le_refl _))⟩
 ·obtain ⟨its,r',pl,hz⟩:=I.tuple hq
  exact call_tuple_same pl ⟨.ref p,H,I,rfl,q⟩
noncomputable def tyV (K:PySem.W.Frag) (T:String) (x:V) (H:Hp):Prop:=match x with
 | .str _=>T="str"
 | .int _=>T="int"
 | .ref p=>(T="list"∧∃ xs,SqL K H p xs)∨(T="tuple"∧∃ o,K.lookup p=some o∧o.cls= .type "tuple"∧o.dict=none)∨
   (T="dict"∧((∃ kvs,H p=some (.dK kvs))∨∃ kvs,H p=some (.dT kvs)))∨(T="set"∧∃ S n,H p=some (.set S n))
 | _=>False
theorem Fu {pins:List (Addr×Obj)} {σ:St} {H:Hp} {s:Shared} {T:String} {x:V} {v:Value} (I:Inv X pins σ H s) (r:RelV x v) (ty:tyV X.K T x H):
  s.TypeIs v T∧∀ a,v= .ref a→∃ ob,s.heap.get? a=some ob∧ob.dict=none:=by
 cases x with
 | str z=>
   obtain ⟨t,rfl⟩:=r
   cases (show T="str" from ty)
   exact ⟨typeIs_str s z t,fun _ e=>nomatch e⟩
 | int i=>
   obtain ⟨t,rfl⟩:=r
   cases (show T="int" from ty)
   exact ⟨typeIs_int s i t,fun _ e=>nomatch e⟩
 | ref p=>
   cases r
   rcases ty with ⟨rfl,xs,hq⟩ | ⟨rfl,o,hk,hc,hd⟩ | ⟨rfl,hk⟩ | ⟨rfl,S,n,hk⟩
   ·obtain ⟨its,_,pl,_⟩:=I.list hq
    refine ⟨pl.isList.typeIs,fun a e=>?_⟩
    cases e
    obtain ⟨o,n,e,c,hd,_⟩:=pl
    exact ⟨o,e,hd⟩
   ·refine ⟨⟨o,I.kIn p o hk,hc⟩,fun a e=>?_⟩
    cases e
    exact ⟨o,I.kIn _ o hk,hd⟩
   ·have z:∃ o,s.heap.get? p=some o∧o.ExactDict:=by
     rcases hk with ⟨kvs,hk⟩ | ⟨kvs,hk⟩
     ·obtain ⟨_,_,_,_,o,_,_,e,ex,_⟩:=I.hok p _ hk
      exact ⟨o,e,ex⟩
     ·obtain ⟨_,_,_,_,o,_,_,e,ex,_⟩:=I.hok p _ hk
      exact ⟨o,e,ex⟩
    obtain ⟨o,e,ex⟩:=z
    refine ⟨⟨o,e,ex.1⟩,fun a e2=>?_⟩
    cases e2
    exact ⟨o,e,ex.2.1⟩
   ·obtain ⟨o,_,_,_,e,ex,_⟩:=I.hok p _ hk
    refine ⟨⟨o,e,ex.1⟩,fun a e2=>?_⟩
    cases e2
    exact ⟨o,e,ex.2.1⟩
 | _=>exact False.elim ty
noncomputable def tBM (K:PySem.W.Frag) (T:String) (r:V→List V→Hp→VK→Prop) (to:TE) (t:TA):TE:=fun σ H Q=>to σ H fun x H1=>tyV K T x H1∧t σ H1 fun xs H2=>r x xs H2 Q
variable {o e:Expr} {es:List Expr} {to:TE} {t:TA} {name:Str} {apos cpos:Pos} {T id:String} {r:V→List V→Hp→VK→Prop}
theorem HD (pa:PlainAttrs T) (slot:Slot T name id) (hty:typeOf (.builtin id)=pure (.type "method_descriptor")) (hm:MtR X id r) (ho:PE X o to) (ha:PA X (e::es) t)
  (hbase:attributeBase o name X.env (eval o X.env)=eval o X.env:=by rfl)
  (hfew:((backTo cpos (starEach (e::es) X.env)).all (fun x=> !x.1)&&(backToKw cpos (keywordEach [] X.env)).all (fun x=>x.1.isSome)
   &&decide ((e::es).length + ([]:List Keyword).length + (if ([]:List Keyword).isEmpty then 0 else 1) < 30))=true:=by rfl)
  (hline:(apos.endLine == cpos.line)=true:=by rfl) (hs:starEach (e::es) X.env=(false,eval e X.env)::starEach es X.env:=by rfl) (hplain:(backTo cpos (starEach es X.env)).any (·.1)=false:=by rfl):
  PE X (.Call (.Attribute o name apos) (e::es) [] cpos) (tBM X.K T r to t):=by
 intro pins s σ H Q I h
 refine wpAny_Call_method_late hbase hfew hline rfl (thn (ho pins s σ H _ I h) fun v s1 ⟨x,H1,I1,r1,ty,q1⟩=>?_)
 obtain ⟨h1,h2⟩:=Fu I1 r1 ty
 refine ⟨T,id,pa,slot,hty,h1,h2,?_⟩
 have hA:=ha cpos pins s1 σ H1 _ I1 q1
 rw [hs] at hA ⊢
 refine Calls.callWith_builtin (by show (false||(backTo cpos (starEach es X.env)).any (·.1))=false;rw [hplain]<;>rfl) (Calls.evalArgs_plain ?_)
 exact thn hA fun us s2 ⟨vs,H2,I2,r2,q2⟩=>hm pins s2 σ H2 x vs v us Q I2 r1 r2 q2
end
noncomputable def MtM (X:Cx) (id:String) (r:V→List V→Hp→VK→Prop):Prop:=
 ∀ (pins:List (Addr×Obj)) (s:Shared) (σ:St) (H:Hp) (x:V) (xs:List V) (v:Value) (us:List Value) (Q:VK),Inv X pins σ H s→RelV x v→Vals xs us→r x xs H Q→
  wpAny (model X.prog X.w) X.A (call (.builtin id) (v::us)) (EP X pins σ Q) X.xe s
theorem Vals.one:∀ {x:V} {us:List Value},Vals [x] us→∃ u,us=[u]∧RelV x u
 | _,_,.cons r .nil=>⟨_,rfl,r⟩
theorem Vals.two:∀ {x y:V} {us:List Value},Vals [x,y] us→∃ u v,us=[u,v]∧RelV x u∧RelV y v
 | _,_,_,.cons r (.cons q .nil)=>⟨_,_,rfl,r,q⟩
theorem Vals.eraseIdx:∀ {xs:List V} {us:List Value} (i:Nat),Vals xs us→Vals (xs.eraseIdx i) (us.eraseIdx i)
 | _,_,_,.nil=> .nil
 | _,_,0,.cons _ t=>t
 | _,_,i + 1,.cons r t=> .cons r (Vals.eraseIdx i t)
theorem Vals.reverse {xs:List V} {us:List Value} (h:Vals xs us):Vals xs.reverse us.reverse:=by
 induction h with
 | nil=>exact .nil
 | cons r t ih=>rw [List.reverse_cons,List.reverse_cons];exact Vals.append ih (.cons r .nil)
theorem tQ {α:Type}:∀ (l:List α) (i:Nat),(l.eraseIdx i).length≤l.length
 | [],_=>Nat.le_refl _
 | _::_,0=>Nat.le_succ _
 | _::r,i + 1=>Nat.succ_le_succ (tQ r i)
section
variable {X:Cx} {pins:List (Addr×Obj)} {σ:St} {H:Hp} {s:Shared} {l b:Addr} {xs ys zs:List V}
theorem Inv.lset {its its':List Value} {n:Nat} {f:Array Value→Array Value} {t':Nat} (I:Inv X pins σ H s) (hH:H l=some (.lst xs))
  (e:s.heap.get? l=some {cls:= .type "list",data:= .seq its.toArray n}) (hf:f its.toArray=its'.toArray) (hv:Vals ys its') (hz:ys.length≤sizeLine):
  Inv X pins σ (upd H l (.lst ys)) {s with heap:=s.heap.update l (Obj.mapSeq f),toks:=t'}:=by
 have q:=PySem.IsL.update e f
 rw [hf] at q
 refine I.write (x:=l) (e:=l) (by rw [hH];exact trivial) (.inl rfl) (fun b' u hb hu=>(Heap.get?_update_other s.heap (Obj.mapSeq f) (Ne.symm hb)).trans hu) ⟨_,q⟩ ?_
 exact ⟨hz,its',_,hv,q⟩
theorem Inv.lnew {its:List Value} {t':Nat} (I:Inv X pins σ H s) (hv:Vals ys its) (hz:ys.length≤sizeLine):
  Inv X pins σ (upd H s.heap.objs.size (.lst ys)) {s with heap:=s.heap.push {cls:= .type "list",data:= .seq its.toArray},toks:=t'}:=
 I.laid (fun _ _ q=>Heap.get?_push_of_some _ q) (Nat.le_refl _) ⟨hz,its,0,hv,Heap.get?_push_size _ rfl⟩
theorem Inv.fresh (I:Inv X pins σ H s):H s.heap.objs.size=none:=I.hok.fresh (Nat.le_refl _)
theorem Inv.lstM (I:Inv X pins σ H s) (hH:H l=some (.lst xs)):xs.length≤sizeLine∧∃ (its:List Value) (n:Nat),Vals xs its∧xs.length=its.length∧s.heap.get? l=some {cls:= .type "list",data:= .seq its.toArray n}:=by
 obtain ⟨z,its,n,r,e⟩:=I.hok l _ hH
 exact ⟨z,its,n,r,r.length,e⟩
theorem CJ {n:Nat} (h:n≤sizeLine):Builtin.List.listTooLong n=false:=by
 unfold Builtin.List.listTooLong
 exact decide_eq_false (by omega)
end
section
variable {X:Cx}
noncomputable def Aw:V→List V→Hp→VK→Prop:=fun x vs H Q=>∃ l xs y,x= .ref l∧vs=[y]∧H l=some (.lst xs)∧xs.length < sizeLine∧Q .non (upd H l (.lst (xs++[y])))
theorem d9:MtM X "list.append" Aw:=by
 intro pins s σ H x vs v us Q I rx rv h
 obtain ⟨l,xs,y,rfl,rfl,hH,hz,q⟩:=h
 cases rx
 obtain ⟨u,rfl,ru⟩:=rv.one
 obtain ⟨z,its,n,r,hl,e⟩:=I.lstM hH
 refine call_meets F.slot_list_append ⟨_,e,rfl⟩ F.entry_list_append (F.args_list_append_2 _ _) (PySem.list_append l its.toArray n u (by rw [List.size_toArray];omega)) ⟨e,?_⟩
 refine ⟨.non,_,I.lset (its':=its++[u]) hH e (by simp) (r.append (.cons ru .nil)) ?_,rfl,q⟩
 rw [List.length_append,List.length_singleton]
 omega
noncomputable def Av:V→List V→Hp→VK→Prop:=fun x vs H Q=>∃ l b xs zs,x= .ref l∧vs=[.ref b]∧H l=some (.lst xs)∧H b=some (.lst zs)∧xs.length + zs.length≤sizeLine∧Q .non (upd H l (.lst (xs++zs)))
theorem fC:MtM X "list.extend" Av:=by
 intro pins s σ H x vs v us Q I rx rv h
 obtain ⟨l,b,xs,zs,rfl,rfl,hH,hB,hz,q⟩:=h
 cases rx
 obtain ⟨u,rfl,ru⟩:=rv.one
 cases ru
 obtain ⟨z,its,n,r,hl,e⟩:=I.lstM hH
 obtain ⟨z2,its2,n2,r2,hl2,e2⟩:=I.lstM hB
 have hsz:its.toArray.size + its2.toArray.size≤sizeLine:=by rw [List.size_toArray,List.size_toArray];omega
 have hlong:¬ (!its.toArray.isEmpty&&Builtin.List.listTooLong (its.toArray.size + its2.toArray.size))=true:=by
  rw [CJ hsz,Bool.and_false]
  exact Bool.false_ne_true
 refine call_meets F.slot_list_extend ⟨_,e,rfl⟩ F.entry_list_extend (F.args_list_extend_2 _ _)
  (AutoSeq1.list_extend_list_list_0 l its.toArray n b its2.toArray n2 hlong (by rw [List.size_toArray];omega) (by omega)) ⟨e,e2,?_⟩
 refine ⟨.non,_,I.lset (its':=its++its2) hH e (by simp) (r.append r2) ?_,rfl,q⟩
 rw [List.length_append]
 omega
noncomputable def Dx:V→List V→Hp→VK→Prop:=fun x vs H Q=>∃ l xs i k y,x= .ref l∧vs=[.int i]∧H l=some (.lst xs)∧-(2 ^ 63)≤i∧i < 2 ^ 63∧seqIndex? i xs.length=some k∧xs[k]? =some y∧Q y (upd H l (.lst (xs.eraseIdx k)))
theorem CU:MtM X "list.pop" Dx:=by
 intro pins s σ H x vs v us Q I rx rv h
 obtain ⟨l,xs,i,k,y,rfl,rfl,hH,h1,h2,hk,hy,q⟩:=h
 cases rx
 obtain ⟨u,rfl,ru⟩:=rv.one
 obtain ⟨t,rfl⟩:=ru
 obtain ⟨z,its,n,r,hl,e⟩:=I.lstM hH
 obtain ⟨w,hw,rw'⟩:=r.get hy
 refine call_meets F.slot_list_pop ⟨_,e,rfl⟩ F.entry_list_pop (F.args_list_pop_2 _ _)
  (MeetsSeq.list_pop_at l its.toArray n i t k w (fitsIndex_both h1 h2) (by rw [List.size_toArray,← hl];exact hk) (by rw [← Array.getElem?_toList];exact hw) (by rw [List.size_toArray];omega)) ⟨e,?_⟩
 refine ⟨y,_,I.lset (its':=its.eraseIdx k) hH e ?_ (r.eraseIdx k) ?_,rw',q⟩
 ·show its.toArray.eraseIdxIfInBounds k=(its.eraseIdx k).toArray
  rw [List.eraseIdxIfInBounds_toArray]
 ·have:=tQ xs k
  omega
noncomputable def rCat:R2:=fun x y H Q=>∃ l b xs zs,x= .ref l∧y= .ref b∧H l=some (.lst xs)∧H b=some (.lst zs)∧xs.length + zs.length≤sizeLine∧∀ p,H p=none→Q (.ref p) (upd H p (.lst (xs++zs)))
theorem jw:OpR X (binaryOp .Add) rCat:=by
 intro pins s σ H x y v u Q I rx ry h
 obtain ⟨l,b,xs,zs,rfl,rfl,hH,hB,hz,q⟩:=h
 cases rx
 cases ry
 obtain ⟨z,its,n,r,hl,e⟩:=I.lstM hH
 obtain ⟨z2,its2,n2,r2,hl2,e2⟩:=I.lstM hB
 refine PySem.P.add_list e e2 ?_ (by rw [List.size_toArray,List.size_toArray];omega)
 have ea:its.toArray++its2.toArray=(its++its2).toArray:=by simp
 rw [ea]
 exact ⟨.ref _,_,I.lnew (t':=s.toks) (r.append r2) (by rw [List.length_append];omega),rfl,q _ I.fresh⟩
end
end L2
namespace Att
open PySem PySem.W PySem.Calls PyProof.Rows
theorem nU {P:Params} {h:Heap}:∀ (ns:List Int) (vs:List Value),WellAll P h vs (ns.map WData.int)→IntsAre vs ns:=by
 intro ns
 induction ns with
 | nil=>
   intro vs w
   rw [List.map_nil] at w
   cases w
   exact .nil
 | cons n ns ih=>
   intro vs w
   rw [List.map_cons] at w
   cases w with
   | cons a b=>
     cases a
     exact .cons _ _ (ih _ b)
theorem Ao {l:OpenLaw} {n:Nat} (hn:l.most=some n) {P:Params} {h:Heap} {args:List WData} {vals:List Value}
  (hpre:l.row.toRowW.claim.pre args=true) (hwl:WellAll P h vals args):
  ∃ a vs ns,vals=[Value.ref a]∧args=[WData.list (ns.map WData.int)]∧h.get? a=some {cls:= .type "list",data:= .seq vs.toArray}∧IntsAre vs ns∧ns.length≤n:=by
 have hsh:WShape.hasAll [] args [.list .int]=true:=(pre_splitW hpre).1
 have hc:l.pre.holds [] {args:=args}=true:=(pre_splitW hpre).2
 obtain ⟨d,r,rfl,h1,h2⟩:=hasAllW_cons hsh
 obtain rfl:=hasAllW_nil h2
 obtain ⟨xs,rfl,h3⟩:=hasW_list h1
 obtain ⟨ns,rfl⟩:=items_int h3
 have hlen:ns.length≤n:=by
  unfold OpenLaw.pre at hc
  have h4:(WTm.not (.lt (.lit (.int (n:Int))) (.len (.arg 0)))).holds [] {args:=[.list (ns.map .int)]}=true:=by
   have h4:=(holds_andW hc).1
   rw [hn] at h4
   exact h4
  have h5:=condW_of h4 (w_not (w_lt w_lit (w_len_list (w_arg rfl))))
  rw [List.length_map] at h5
  refine Nat.le_of_not_lt fun q=>?_
  have q':(n:Int) < ((ns.length:Nat):Int):=by omega
  first
   | (rw [decide_eq_true q'] at h5;exact absurd h5 (by decide))
   | (simp at h5;omega)
 cases hwl with
 | cons w1 w2=>
   cases w2
   cases w1 with
   | list ho hall=>exact ⟨_,_,ns,rfl,rfl,ho,nU ns _ hall,hlen⟩
theorem AE (l:OpenLaw) (args:List WData):l.row.toRowW.claim.post args (.bool true) args=true:=
 postW_of (r:=l.row.toRowW) (X:=(true == true))
  (show WShape.has [] (.bool true) .bool=true by first | rfl | decide | simp [WShape.has,WShape.arms,WShape.armsAll])
  (show (WTm.eq .res (.lit (.bool true))).value [] {args:=args,res:=some (.bool true),after:=args}=some (.bool (true == true)) from w_eq_bool (w_res rfl) w_lit) rfl
theorem attach_call {l:OpenLaw} {n:Nat} {q:Program} {loose:List Str} {XP:(Str→Option Value)→Heap→Prop} {YP:World→Heap→Prop} {d:DefRec}
  (hn:l.most=some n) (hdf:d.params.defaults=[])
  (call:∀ (w:World) (s₀ s₁:Shared) (mg mb:Str→Option Value) (fa:Addr) (o:Obj) (pm cd doc:Value) (a:Addr) (vs:List Value) (ns:List Int),
   Ground q loose [] XP w s₀ mg mb s₁.heap→YP w s₁.heap→
   s₁.heap.get? fa=some o→o.data= .func (docDef d.name d.params d.body d.scope pm cd doc)→s₁.heap.CodeRec cd d.name→mg d.name=some (.ref fa)→
   s₁.heap.get? a=some {cls:= .type "list",data:= .seq vs.toArray}→IntsAre vs ns→ns.length≤n→s₁.gens=#[]→
   codeAny (model l.prog w) callerA (.call (.ref fa) ⟨[.ref a],[]⟩) (fun r s'=>r= .ok (.ret (.bool true))∧OldK s₁.heap s'.heap∧s'.os=s₁.os∧AllBare s'.gens) s₁):
  WalkO q loose XP YP l.row.toRowW d [] (fun f vs=>PySem.call f vs):=by
 intro w s₀ s₁ mg mb G Y fa o pm cd doc dV kV ho hd hcd hD hmg hg args vals as hpre hlay hrd hwl hlo
 obtain rfl:dV= .none:=Dflts.none hD hdf
 obtain rfl:kV= .none:=Dflts.noKw hD
 obtain ⟨a,vs,ns,rfl,rfl,hobj,hints,hlen⟩:=Ao hn hpre hwl
 refine enter_call (codeAny_mono (call w s₀ s₁ mg mb fa o pm cd doc a vs ns G Y ho (fd_plain hd) hcd hmg hobj hints hlen hg) fun r s' hq=>?_)
 obtain ⟨rfl,h2,h3,h4⟩:=hq
 exact ⟨.inl ⟨.bool true,.bool true,[],rfl,fun _=>rfl,.bool true,AE l _,fun _=>⟨List.Pairwise.nil,fun _ hm=>(nomatch hm)⟩⟩,h2,h3,h4⟩
end Att
namespace L2
open PySem PySem.Spec PyProof.Rows
theorem sw:∀ {vs:List Value} {ns:List Int},IntsAre vs ns→Vals (ns.map V.int) vs
 | _,_,.nil=> .nil
 | _,_,.cons n t h=> .cons ⟨t,rfl⟩ (sw h)
noncomputable def Only (H:Hp):Prop:=∀ b,H b=none∨∃ o xs,H b=some (.frz o (.lst xs))
theorem CW {P:Program} {w:World} {K:PySem.W.Frag} {mg mb:Str→Option Value} {CX:CXT} {k:Nat} {fa a:Addr} {fd:FuncData} {x:Str} {sp:Sp} {s₁:Shared} {vs:List Value} {ns:List Int}
  (KX:K.In s₁.heap) (hns:s₁.heap.Ns mainGlobals mg) (hb:s₁.heap.Ns builtinsNs mb) (hbb:∀ x:Str,x≠"__name__"→mb x=bootBuiltins x) (hlim:s₁.heap.NoLimit) (hg:s₁.gens=#[])
  (ha:s₁.heap.get? a=some {cls:= .type "list",data:= .seq vs.toArray}) (hi:IntsAre vs ns) (hl:ns.length≤sizeLine) (hr:Room k callerA)
  (F:∀ base:Heap,K.In base→base.Ns mainGlobals mg→FnOk P w K mg base CX k fa fd [x] sp) (hbind:∀ (s:Shared) (u:Value),BindsTo s fd ⟨[u],[]⟩ [(x,u)])
  (hsp:∀ H:Hp,Only H→SqL K H a (ns.map V.int)→sp [.ref a] H (fun v _=>v= .bl true) fun _ _ _=>False)
  (hCX:∀ H e s',CX [] H s₁ (fun _ _ _=>False) e s'→False):
  codeAny (model P w) callerA (.call (.ref fa) ⟨[.ref a],[]⟩) (fun r s'=>r= .ok (.ret (.bool true))∧OldK s₁.heap s'.heap∧s'.os=s₁.os∧AllBare s'.gens) s₁:=by
 have rv:=sw hi
 have lenV:=hi.length
 have core:∀ H:Hp,Only H→SqL K H a (ns.map V.int)→HOk P w H s₁.heap→(∀ b,H b≠none→b=a)→(H a≠none→K.lookup a=none)→
   codeAny (model P w) callerA (.call (.ref fa) ⟨[.ref a],[]⟩) (fun r s'=>r= .ok (.ret (.bool true))∧OldK s₁.heap s'.heap∧s'.os=s₁.os∧AllBare s'.gens) s₁:=by
  intro H hO hS hok hA hK
  have base_of:∀ {b:Addr} {o:Obj},s₁.heap.get? b=some o→H b=none→(hidT s₁.heap H).get? b=some o:=fun e n=>C2 e n
  have noA:∀ {b:Addr} {o:Obj} {es:Array DictEntry} {ep:Nat},s₁.heap.get? b=some o→o.data= .dict es ep→H b=none:=fun {b o es ep} e d=>by
   cases q:H b with
   | none=>rfl
   | some u=>
     have e':b=a:=hA b (by rw [q];simp)
     subst e'
     rw [ha] at e;cases e
     have d':Data.seq vs.toArray _=Data.dict es ep:=d
     cases d'
  have nsK:∀ {b:Addr} {m:Str→Option Value},s₁.heap.Ns b m→(hidT s₁.heap H).Ns b m:=fun {b m} ⟨o,es,ep,e,d,r⟩=>⟨o,es,ep,base_of e (noA e d),d,r⟩
  have hKb:K.In (hidT s₁.heap H):=fun b o e=>base_of (KX b o e) (by
   cases q:H b with
   | none=>rfl
   | some u=>
     have e':b=a:=hA b (by rw [q];simp)
     subst e'
     rw [hK (by rw [q];simp)] at e;cases e)
  have hM:Mod K mg (hidT s₁.heap H):=⟨hKb,nsK hns,⟨mb,nsK hb,hbb⟩,let ⟨mc,h1,h2⟩:=hlim;⟨mc,nsK h1,h2⟩⟩
  have e0:Env0 P w K mg (hidT s₁.heap H) callerA [] s₁ H:=⟨rfl,hM,fun b o e=>EG e,Nat.le_of_eq (Be _ _),trivial,fun b hb=>absurd (show b∈([]:List Addr) from hb) (by simp),hok,.of_eq hg⟩
  refine codeAny_mono ((F _ hKb (nsK hns)).run callerA [] s₁ H ⟨[.ref a],[]⟩ [.ref a] [.ref a] _ _ hr e0 (hbind s₁ (.ref a)) (.cons rfl .nil) (hsp H hO hS)) fun r s' h=>?_
  cases r with
  | error e=>exact (hCX H e s' h).elim
  | ok fl=>
    cases fl with
    | next=>exact False.elim h
    | brk=>exact False.elim h
    | cont=>exact False.elim h
    | ret u=>
      obtain ⟨v,H',os,bare,un,hok',r',q⟩:=h
      have q':v= .bl true:=q
      subst q'
      obtain rfl:u=Value.bool true:=r'
      refine ⟨rfl,OldK.of_keep fun b o e=>?_,os,bare⟩
      cases q:H b with
      | none=>exact un.keep b o e q (by intro z;exact absurd (show b∈([]:List Addr) from z) (by simp)) (by simp)
      | some u=>
        rcases hO b with z | ⟨ob,xs,z⟩
        ·rw [q] at z;cases z
        ·have z2:=un.frzs b ob _ z
         obtain ⟨e1,_⟩:=hok b _ z
         obtain ⟨e2,_⟩:=hok' b _ z2
         rw [e] at e1;cases e1
         exact e2
 cases hk:K.lookup a with
 | some o=>
   have e:=KX a o hk
   rw [ha] at e
   cases e
   refine core (fun _=>none) (fun _=> .inl rfl) (.inr ⟨_,vs.toArray,_,hk,rfl,rfl,rfl,by rw [List.size_toArray,lenV];exact hl,by simpa using rv⟩) (fun b u z=>by have z':(none:Option HO)=some u:=z;cases z') (fun b z=>absurd rfl z) fun z=>absurd rfl z
 | none=>
   refine core (fun b=>if b=a then some (.frz {cls:= .type "list",data:= .seq vs.toArray} (.lst (ns.map V.int))) else none) (fun b=>?_) (.inl (.inr ⟨{cls:= .type "list",data:= .seq vs.toArray},if_pos rfl⟩)) (fun b u z=>?_) (fun b z=>?_) fun _=>hk
   ·by_cases hb:b=a
    ·exact .inr ⟨_,_,if_pos hb⟩
    ·exact .inl (if_neg hb)
   ·by_cases hb:b=a
    ·have z':=(if_pos hb).symm.trans z
     cases z'
     subst hb
     exact ⟨ha,by rw [List.length_map];exact hl,vs,_,rv,ha⟩
    ·have z':=(if_neg hb).symm.trans z
     cases z'
   ·by_cases hb:b=a
    ·exact hb
    ·exact absurd (if_neg hb) z
theorem walk_of {l:PySem.W.OpenLaw} {n k:Nat} {q:Program} {loose:List Str} {XP:(Str→Option Value)→Heap→Prop} {YP:World→Heap→Prop} {d:DefRec} {K:Params→PySem.W.Frag} {CX:World→CXT} {sp:World→Sp} {x:Str}
  (hn:l.most=some n) (hn2:n≤sizeLine) (hdf:d.params.defaults=[]) (hr:Room k callerA)
  (hY:∀ (w:World) (h:Heap),YP w h→(K w.params).In h)
  (F:∀ (w:World) (mg:Str→Option Value) (fa:Addr) (h:Heap),(K w.params).In h→h.Ns mainGlobals mg→mg d.name=some (.ref fa)→
   ∃ fd:FuncData,(∀ (s:Shared) (u:Value),BindsTo s fd ⟨[u],[]⟩ [(x,u)])∧
     ∀ base:Heap,(K w.params).In base→base.Ns mainGlobals mg→FnOk l.prog w (K w.params) mg base (CX w) k fa fd [x] (sp w))
  (hsp:∀ (w:World) (H:Hp) (a:Addr) (ns:List Int),ns.length≤n→Only H→SqL (K w.params) H a (ns.map V.int)→sp w [.ref a] H (fun v _=>v= .bl true) fun _ _ _=>False)
  (hCX:∀ (w:World) (H:Hp) (s:Shared) (e:Value) (s':Shared),CX w [] H s (fun _ _ _=>False) e s'→False):
  PySem.W.WalkO q loose XP YP l.row.toRowW d [] (fun f vs=>PySem.call f vs):=by
 refine Att.attach_call hn hdf fun w s₀ s₁ mg mb fa o pm cd doc a vs ns G Y ho hd hcd hmg hobj hints hlen hg=>?_
 have KX:=hY w _ Y
 obtain ⟨fd,hb,hF⟩:=F w mg fa _ KX G.T.g hmg
 exact CW KX G.T.g G.T.b G.T.builtins G.T.nolimit hg hobj hints (Nat.le_trans hlen hn2) hr hF hb (fun H hO hS=>hsp w H a ns hlen hO hS) fun H e s'=>hCX w H s₁ e s'
noncomputable def eX (s:Stmt) (j:Nat):Stmt:=match s with
 | .ClassDef _ _ _ body _ _ _ _ _ _ _=>body.getD j (.Pass ⟨0,0,0,0⟩)
 | _=> .Pass ⟨0,0,0,0⟩
noncomputable def aD (s:Stmt):Arguments:=match s with
 | .FunctionDef _ a _ _ _ _ _ _ _ _=>a
 | _=>{posonlyargs:=[],args:=[],vararg:=none,kwonlyargs:=[],kw_defaults:=[],kwarg:=none,defaults:=[]}
noncomputable def aC (s:Stmt):List Stmt:=match s with
 | .FunctionDef _ _ b _ _ _ _ _ _ _=>b
 | _=>[]
noncomputable def ad (s:Stmt):Scope:=match s with
 | .FunctionDef _ _ _ _ _ _ sc _ _ _=>sc
 | _=>{kind:= .function,names:=[],isGenerator:=false,isCoroutine:=false}
noncomputable abbrev CX0:CXT:=fun _ _ _ _ _ _=>False
noncomputable abbrev E0:XK:=fun _ _ _=>False
theorem aL {X:Cx}:oN CX0 X E0:=fun _ _ _ _ _ _ _ h=>h.elim
structure Fun (K:PySem.W.Frag) (x qual:Str) (st:Stmt) (f:Addr) (fd:FuncData):Prop where
 ex:∃ (oc:Value) (od:Option Addr) (kV doc pm:Value) (an:Option Addr) (cdv ct:Value) (osl:Array (Option Value)),
  fd=PySem.W.fnOf x qual (aD st) (aC st) (ad st) .none kV doc pm an cdv ct∧K.lookup f=some ⟨oc,od,.func fd,osl⟩∧PySem.W.codeIn K cdv qual=true
 kp:PySem.W.keepIn K (.ref f)=true
section
variable {P:Program} {w:World} {K:PySem.W.Frag} {mg:Str→Option Value} {base:Heap}
theorem Fun.ok {x qual:Str} {st:Stmt} {f:Addr} {fd:FuncData} {N ps:List Str} {k:Nat} {sp:Sp} (F:Fun K x qual st f fd) (S:aK N ps (ad st)) (len:∀ vs H Q E,sp vs H Q E→vs.length=ps.length)
  (hbody:∀ (cdv:Value) (A:Around) (outer:List Env) (s:Shared) (H:Hp) (vs:List V) (Q:VK) (E:XK),Room k (A.deeper (envOfC qual (ad st) s.heap.objs.size f cdv))→sp vs H Q E→
   ∃ t,PSs (cxOf CX0 P w K mg base N qual (ad st) f cdv A outer s H E).nox (aC st) t∧t {nx:=fun _ H'=>Q .non H',rt:=Q} (start N vs) H):FnOk P w K mg base CX0 (k + 1) f fd ps sp:=by
 obtain ⟨oc,od,kV,doc,pm,an,cdv,ct,osl,rfl,lk,hcd⟩:=F.ex
 refine HH lk hcd S len fun A outer s H vs Q E hr hsp=>?_
 obtain ⟨t,h,q⟩:=hbody cdv A outer s H vs Q E hr hsp
 exact ⟨t,h.nox,q⟩
theorem Fun.binds {x qual:Str} {st:Stmt} {f:Addr} {fd:FuncData} {ps:List Str} (F:Fun K x qual st f fd)
  (h:∀ (kV doc pm:Value) (an:Option Addr) (cdv ct:Value) (us:List Value),us.length=ps.length→bindArgs (PySem.W.fnOf x qual (aD st) (aC st) (ad st) .none kV doc pm an cdv ct) ⟨us,[]⟩=pure (ps.zip us)):bS K fd ps []:=by
 obtain ⟨oc,od,kV,doc,pm,an,cdv,ct,osl,rfl,lk,hcd⟩:=F.ex
 exact .all (h kV doc pm an cdv ct)
theorem bt {x qual:Str} {st:Stmt} {f:Addr} {oc:Value} {od an:Option Addr} {osl:Array (Option Value)} {kV doc pm cdv ct:Value} (l:K.lookup f=some ⟨oc,od,.func (PySem.W.fnOf x qual (aD st) (aC st) (ad st) .none kV doc pm an cdv ct),osl⟩)
  (c:PySem.W.codeIn K cdv qual=true) (k:PySem.W.keepIn K (.ref f)=true):Fun K x qual st f (PySem.W.fnOf x qual (aD st) (aC st) (ad st) .none kV doc pm an cdv ct):=⟨⟨oc,od,kV,doc,pm,an,cdv,ct,osl,rfl,l,c⟩,k⟩
end
theorem EW {A:Around} {k:Nat} (hr:Room k A):A.units + 1 < cLine:=Nat.lt_of_le_of_lt (Nat.add_le_add_left (by decide:1≤64) _) hr.units
theorem aE {n:Nat} (h:n≤1000):n < sizeLine:=Nat.lt_of_le_of_lt h (by decide)
section
variable {X:Cx}
theorem pv (i:Nat) {x:Str} {pos:Pos} (hN:X.N[i]? =some x:=by rfl) (hv:Vis X.env.scope x:=by first | exact Or.inl rfl | exact Or.inr (Or.inl rfl) | exact Or.inr (Or.inr rfl)) (hd:(x == ("__debug__":Str))=false:=by decide)
  (hcd:(x == ("__classdict__":Str))=false:=by decide):PE X (.Name x pos) (tVar i):=Gj hN hv hd hcd
end
theorem ite2 {c A B:Prop} [Decidable c] (h1:c→A) (h2:¬ c→B):if c then A else B:=by
 by_cases h:c
 ·rw [if_pos h]
  exact h1 h
 ·rw [if_neg h]
  exact h2 h
noncomputable def Same (H H':Hp):Prop:=∀ b o,H b=some o→H' b=some o
theorem Same.refl (H:Hp):Same H H:=fun _ _ h=>h
theorem Same.trans {H H1 H2:Hp} (a:Same H H1) (b:Same H1 H2):Same H H2:=fun c o h=>b c o (a c o h)
theorem Same.free {H H':Hp} (e:Same H H') {l:Addr} (h:H' l=Option.none):H l=Option.none:=by
 cases q:H l with
 | none=>rfl
 | some o=>
   rw [e l o q] at h
   cases h
theorem Same.seq {K:PySem.W.Frag} {H H':Hp} {a:Addr} {xs:List V} (e:Same H H') (h:SqL K H a xs):SqL K H' a xs:=by
 rcases h with (h | ⟨o,h⟩) | h
 ·exact .inl (.inl (e _ _ h))
 ·exact .inl (.inr ⟨o,e _ _ h⟩)
 ·exact .inr h
section
variable {κ:Type} [DecidableEq κ]
noncomputable def valV (kvs:List (κ×V)) (k:κ):Option V:=(kvs.find? fun kv=>decide (kv.1=k)).map (·.2)
noncomputable def putK (kvs:List (κ×V)) (k:κ) (v:V):List (κ×V):=
 if (kvs.any fun kv=>decide (kv.1=k))=true then kvs.map (fun kv=>if kv.1=k then (kv.1,v) else kv) else kvs++[(k,v)]
theorem qq {p:κ×V} {r:List (κ×V)} {k:κ} (e:p.1=k):valV (p::r) k=some p.2:=by simp [valV,List.find?_cons,e]
theorem qr {p:κ×V} {r:List (κ×V)} {k:κ} (e:¬ p.1=k):valV (p::r) k=valV r k:=by simp [valV,List.find?_cons,e]
theorem jl (k:κ):∀ kvs:List (κ×V),(kvs.any fun kv=>decide (kv.1=k))=(valV kvs k).isSome
 | []=>rfl
 | p::r=>by
   rw [List.any_cons]
   by_cases e:p.1=k
   ·simp only [qq e,decide_eq_true e,Bool.true_or,Option.isSome_some]
   ·rw [qr e,decide_eq_false e,Bool.false_or];exact jl k r
theorem nK (kvs:List (κ×V)) (k:κ) (v:V):(putK kvs k v).length≤kvs.length + 1:=by
 unfold putK
 split
 ·rw [List.length_map];omega
 ·rw [List.length_append,List.length_cons,List.length_nil];omega
theorem RelO.isSome_eq {o:Option V} {u:Option Value} (r:RelO o u):o.isSome=u.isSome:=by
 cases o with
 | none=>cases u with
   | none=>rfl
   | some _=>exact (show False from r).elim
 | some _=>cases u with
   | none=>exact (show False from r).elim
   | some _=>rfl
theorem KV.val {kvs:List (κ×V)} {vs:List (κ×Value)} (r:KV kvs vs) (k:κ):RelO (valV kvs k) (valueAt vs k):=by
 unfold KV at r
 induction r with
 | nil=>exact True.intro
 | @cons p q ps qs h t ih=>
   obtain ⟨h1,h2⟩:=h
   by_cases e:p.1=k
   ·have e':q.1=k:=h1.symm.trans e
    have b:valueAt (q::qs) k=some q.2:=by simp [valueAt,List.find?_cons,e']
    rw [qq e,b];exact h2
   ·have e':¬ q.1=k:=fun z=>e (h1.trans z)
    have b:valueAt (q::qs) k=valueAt qs k:=by simp [valueAt,List.find?_cons,e']
    rw [qr e,b];exact ih
theorem KV.any {kvs:List (κ×V)} {vs:List (κ×Value)} (r:KV kvs vs) (k:κ):(kvs.any fun kv=>decide (kv.1=k))=vs.any fun kv=>decide (kv.1=k):=by
 unfold KV at r
 induction r with
 | nil=>rfl
 | cons h t ih=>rw [List.any_cons,List.any_cons,ih,h.1]
theorem KV.repl {kvs:List (κ×V)} {vs:List (κ×Value)} (r:KV kvs vs) (k:κ) {y:V} {u:Value} (ry:RelV y u):
  KV (kvs.map fun kv=>if kv.1=k then (kv.1,y) else kv) (vs.map fun kv=>if kv.1=k then (kv.1,u) else kv):=by
 unfold KV at r ⊢
 induction r with
 | nil=>exact .nil
 | @cons p q ps qs h t ih=>
   rw [List.map_cons,List.map_cons]
   refine .cons ?_ ih
   obtain ⟨h1,h2⟩:=h
   by_cases e:p.1=k
   ·rw [if_pos e,if_pos (h1.symm.trans e)];exact ⟨h1,ry⟩
   ·rw [if_neg e,if_neg (fun z=>e (h1.trans z))];exact ⟨h1,h2⟩
theorem KV.put {kvs:List (κ×V)} {vs:List (κ×Value)} (r:KV kvs vs) (k:κ) {y:V} {u:Value} (ry:RelV y u):KV (putK kvs k y) (stored vs k u):=by
 unfold putK stored
 rw [r.any k]
 by_cases e:(vs.any fun kv=>decide (kv.1=k))=true
 ·rw [if_pos e,if_pos e];exact r.repl k ry
 ·rw [if_neg e,if_neg e];exact Paired.snoc r ⟨rfl,ry⟩
theorem KV.length {kvs:List (κ×V)} {vs:List (κ×Value)} (r:KV kvs vs):kvs.length=vs.length:=Paired.length r
end
theorem Bb {P:Program} {w:World} {k:Key} {u:Value} (r:RelV (kV k) u):(cD P w).is k u=true:=by
 cases k with
 | inl i=>obtain ⟨t,e⟩:=(show ∃ t,u=Value.int i t from r);subst e;exact vY P w i t
 | inr x=>obtain ⟨t,e⟩:=(show ∃ t,u=Value.str x t from r);subst e;exact vX P w x t
theorem t3 {P:Program} {w:World}:∀ {ks:List Key} {us:List Value},Vals (ks.map kV) us→ItemsAre (cD P w) ks us
 | [],_,r=>by rw [List.map_nil] at r;cases r;exact .nil
 | k::ks,_,r=>by
   rw [List.map_cons] at r
   cases r with
   | cons h t=>exact .cons (Bb h) (t3 t)
noncomputable abbrev KT (H:Hp):List (List Key×V)→List (List Key×Addr×Value)→Prop:=Paired fun p q=>p.1=q.1∧H q.2.1=some (.tup (p.1.map kV))∧RelV p.2 q.2.2
theorem KT.val {H:Hp} {kvs:List (List Key×V)} {xs:List (List Key×Addr×Value)} (r:KT H kvs xs) (k:List Key):RelO (valV kvs k) ((atKey xs k).map (·.2)):=by
 induction r with
 | nil=>exact True.intro
 | @cons p q ps qs h t ih=>
   obtain ⟨h1,_,h2⟩:=h
   by_cases e:p.1=k
   ·have e':q.1=k:=h1.symm.trans e
    have b:atKey (q::qs) k=some q.2:=by simp [atKey,List.find?_cons,e']
    rw [qq e,b];exact h2
   ·have e':¬ q.1=k:=fun z=>e (h1.trans z)
    have b:atKey (q::qs) k=atKey qs k:=by simp [atKey,List.find?_cons,e']
    rw [qr e,b];exact ih
theorem KT.repl {H:Hp} {kvs:List (List Key×V)} {xs:List (List Key×Addr×Value)} (r:KT H kvs xs) (k:List Key) {y:V} {u:Value} (ry:RelV y u):
  KT H (kvs.map fun kv=>if kv.1=k then (kv.1,y) else kv) (xs.map (putAt k u)):=by
 induction r with
 | nil=>exact .nil
 | @cons p q ps qs h t ih=>
   rw [List.map_cons,List.map_cons]
   refine .cons ?_ ih
   obtain ⟨h1,h2,h3⟩:=h
   unfold putAt
   by_cases e:p.1=k
   ·rw [if_pos e,if_pos (h1.symm.trans e)];exact ⟨h1,h2,ry⟩
   ·rw [if_neg e,if_neg (fun z=>e (h1.trans z))];exact ⟨h1,h2,h3⟩
theorem KT.put {H:Hp} {kvs:List (List Key×V)} {xs:List (List Key×Addr×Value)} (r:KT H kvs xs) (k:List Key) {b:Addr} {y:V} {u:Value} (hb:H b=some (.tup (k.map kV))) (ry:RelV y u):
  KT H (putK kvs k y) (storedH xs k b u):=by
 have e:(kvs.any fun kv=>decide (kv.1=k))=(atKey xs k).isSome:=by
  rw [jl,(r.val k).isSome_eq,Option.isSome_map]
 unfold putK storedH
 rw [e]
 by_cases q:(atKey xs k).isSome=true
 ·rw [if_pos q,if_pos q];exact r.repl k ry
 ·rw [if_neg q,if_neg q];exact Paired.snoc r ⟨rfl,hb,ry⟩
theorem KT.keeps {H H':Hp} {kvs:List (List Key×V)} {xs:List (List Key×Addr×Value)} (r:KT H kvs xs) (ht:∀ b ys,H b=some (.tup ys)→H' b=some (.tup ys)):KT H' kvs xs:=
 Paired.mapP r fun _ _ z=>⟨z.1,ht _ _ z.2.1,z.2.2⟩
section
variable {P:Program} {w:World} {H:Hp} {h:Heap} {a:Addr}
theorem F8 {u:HO} (ok:HOk P w H h) (e:Rd H a u):dI P w H h a u:=e.ok ok
theorem E5 {kvs:List (Key×V)} (ok:HOk P w H h) (e:Rd H a (.dK kvs)):kvs.length≤sizeLine∧(a == sysModules)=false∧∃ vs,KV kvs vs∧h.DictOf (cD P w) a vs:=
 show dI P w H h a (.dK kvs) from F8 ok e
theorem HJ {kvs:List (Key×V)} (ok:HOk P w H h) (e:H a=some (.dK kvs)):kvs.length≤sizeLine∧(a == sysModules)=false∧∃ vs,KV kvs vs∧h.DictOf (cD P w) a vs:=E5 ok (.inl e)
theorem xD {ks:List Key} (ok:HOk P w H h) (e:H a=some (.tup (ks.map kV))):(tupleKind (cD P w)).is h ks a:=by
 obtain ⟨_,its,r,o,h1,h2,n,h3⟩:=(show dI P w H h a (.tup (ks.map kV)) from ok a _ e)
 exact ⟨o,its.toArray,n,h1,h2,h3,by simpa using t3 r⟩
theorem EZ {kvs:List (List Key×V)} (ok:HOk P w H h) (e:Rd H a (.dT kvs)):kvs.length≤sizeLine∧(a == sysModules)=false∧
  ∃ xs,KT H kvs xs∧h.DictOfH (tupleKind (cD P w)) a xs:=by
 obtain ⟨z,y,xs,r,o,es,ep,h1,h2,h3,h4,h5⟩:=(show dI P w H h a (.dT kvs) from F8 ok e)
 refine ⟨z,y,xs,r,o,es,ep,h1,h2,h3,h4,fun x hx=>?_,h5⟩
 have all:∀ {l:List (List Key×V)} {m:List (List Key×Addr×Value)},KT H l m→∀ x∈m,(tupleKind (cD P w)).is h x.1 x.2.1:=by
  intro l m q
  induction q with
  | nil=>intro x hx;exact nomatch hx
  | @cons p q ps qs hq t ih=>
    intro x hx
    rcases List.mem_cons.mp hx with e | hx
    ·subst e
     exact xD ok (by rw [← hq.1];exact hq.2.1)
    ·exact ih x hx
 exact all r x hx
theorem HI {kvs:List (List Key×V)} (ok:HOk P w H h) (e:H a=some (.dT kvs)):kvs.length≤sizeLine∧(a == sysModules)=false∧
  ∃ xs,KT H kvs xs∧h.DictOfH (tupleKind (cD P w)) a xs:=EZ ok (.inl e)
end
noncomputable def DGet (H:Hp) (a:Addr) (y:V) (r:Option V):Prop:=
 (∃ kvs k,Rd H a (.dK kvs)∧y=kV k∧r=valV kvs k)∨∃ kvs k b,Rd H a (.dT kvs)∧y= .ref b∧H b=some (.tup (k.map kV))∧r=valV kvs k
noncomputable def DPut (H:Hp) (a:Addr) (y v:V) (H':Hp):Prop:=
 (∃ kvs k,H a=some (.dK kvs)∧y=kV k∧kvs.length < sizeLine∧H'=upd H a (.dK (putK kvs k v)))∨
 ∃ kvs k b,H a=some (.dT kvs)∧y= .ref b∧H b=some (.tup (k.map kV))∧kvs.length < sizeLine∧H'=upd H a (.dT (putK kvs k v))
theorem DGet.k {H:Hp} {a:Addr} {kvs:List (Key×V)} {k:Key} (e:H a=some (.dK kvs)):DGet H a (kV k) (valV kvs k):= .inl ⟨kvs,k,.inl e,rfl,rfl⟩
theorem DPut.k {H:Hp} {a:Addr} {kvs:List (Key×V)} {k:Key} {v:V} (e:H a=some (.dK kvs)) (hl:kvs.length < sizeLine):DPut H a (kV k) v (upd H a (.dK (putK kvs k v))):= .inl ⟨kvs,k,e,rfl,hl,rfl⟩
section
variable {X:Cx} {pins:List (Addr×Obj)} {σ:St} {H:Hp} {s:Shared} {a:Addr} {y v:V} {u r:Value} {o:Option V} {A:Around} {E:Value→Shared→Prop}
theorem Inv.big (I:Inv X pins σ H s):sysModules < s.heap.objs.size:=by
 have h:mainGlobals < s.heap.objs.size:=(I.mod.glob.keeps I.bk).lt
 exact Nat.lt_trans (by decide) h
theorem d_in {Q:Value→Shared→Prop} (hu:A.units + 1 < cLine) (I:Inv X pins σ H s) (g:DGet H a y o) (ry:RelV y u) (h:∀ s',Inv X pins σ H s'→Q (.bool o.isSome) s'):
  wpAny (model X.prog X.w) A (compareOp .In u (.ref a)) Q E s:=by
 rcases g with ⟨kvs,k,e,ey,l⟩ | ⟨kvs,k,b,e,ey,eb,l⟩
 ·subst ey
  obtain ⟨z,hd,vs,rel,dd⟩:=E5 I.hok e
  refine wpAny_in_of (Bb ry) hd dd.mapOf ?_
  rw [← (rel.val k).isSome_eq,← l]
  exact h _ (I.tok _)
 ·subst ey
  cases (show u=Value.ref b from ry)
  obtain ⟨z,hd,xs,rel,dd⟩:=EZ I.hok e
  refine wpAny_in_heap (tupleKind_room_in1 hu) (xD I.hok eb) hd dd ?_
  have q:=(rel.val k).isSome_eq
  rw [Option.isSome_map] at q
  rw [← q,← l]
  exact h _ (I.tok _)
theorem E6 {Q:Value→Shared→Prop} (hu:A.units + 1 < cLine) (I:Inv X pins σ H s) (g:DGet H a y o) (ry:RelV y u) (h:∀ s',Inv X pins σ H s'→Q (.bool (!o.isSome)) s'):
  wpAny (model X.prog X.w) A (compareOp .NotIn u (.ref a)) Q E s:=by
 rcases g with ⟨kvs,k,e,ey,l⟩ | ⟨kvs,k,b,e,ey,eb,l⟩
 ·subst ey
  obtain ⟨z,hd,vs,rel,dd⟩:=E5 I.hok e
  refine wpAny_notIn_of (Bb ry) hd dd.mapOf ?_
  rw [← (rel.val k).isSome_eq,← l]
  exact h _ (I.tok _)
 ·subst ey
  cases (show u=Value.ref b from ry)
  obtain ⟨z,hd,xs,rel,dd⟩:=EZ I.hok e
  refine wpAny_notIn_heap (tupleKind_room_in1 hu) (xD I.hok eb) hd dd ?_
  have q:=(rel.val k).isSome_eq
  rw [Option.isSome_map] at q
  rw [← q,← l]
  exact h _ (I.tok _)
theorem Bw {h':Heap} {t':Nat} {ob:HO} (I:Inv X pins σ H s) (mu:Mut (H a)) (hs:Heap.SameBut a s.heap h') (he:∃ q,h'.get? a=some q) (new:dI X.prog X.w (upd H a ob) h' a ob):
  Inv X pins σ (upd H a ob) {s with heap:=h',toks:=t'}:=
 I.write (x:=a) (e:=a) mu (.inl rfl) (fun b q hb z=>(hs.2 b hb).trans z) he new
theorem GR {P:Program} {w:World} {H':Hp} {h':Heap} {kvs:List (Key×V)} {vs:List (Key×Value)} (z:kvs.length≤sizeLine) (hd:(a == sysModules)=false) (rel:KV kvs vs) (dd:h'.DictOf (cD P w) a vs):
  dI P w H' h' a (.dK kvs):=⟨z,hd,vs,rel,dd⟩
theorem Bx {H':Hp} {Q:Unit→Shared→Prop} (hu:A.units + 1 < cLine) (I:Inv X pins σ H s) (g:DPut H a y v H') (ry:RelV y u) (rv:RelV v r) (h:∀ s',Inv X pins σ H' s'→Q () s'):
  wpAny (model X.prog X.w) A (setItem (.ref a) u r) Q E s:=by
 rcases g with ⟨kvs,k,e,ey,l,eH⟩ | ⟨kvs,k,b,e,ey,eb,l,eH⟩
 ·subst ey eH
  obtain ⟨z,hd,vs,rel,dd⟩:=HJ I.hok e
  have hz:vs.length≤sizeLine:=by rw [← rel.length];exact z
  have hl:(putK kvs k v).length≤sizeLine:=by have:=nK kvs k v;omega
  refine wpAny_setItem_pairs (hsz:=hz) (Bb ry) dd fun h' dd' hs=>h _ ?_
  have he:∃ q,h'.get? a=some q:=let ⟨q,_,_,hq,_⟩:=dd';⟨q,hq⟩
  exact Bw I (by rw [e];exact True.intro) hs he (GR hl hd (rel.put k rv) dd')
 ·subst ey eH
  cases (show u=Value.ref b from ry)
  obtain ⟨z,hd,xs,rel,dd⟩:=HI I.hok e
  have hz:xs.length≤sizeLine:=by rw [← Paired.length rel];exact z
  have hl:(putK kvs k v).length≤sizeLine:=by have:=nK kvs k v;omega
  refine wpAny_setItem_heap (hsz:=hz) (tupleKind_room_in1 hu) (xD I.hok eb) dd fun h' dd' hs=>h _ ?_
  obtain ⟨q,es,ep,hq,h2,h3,h4,_,h5⟩:=dd'
  refine Bw I (by rw [e];exact True.intro) hs ⟨q,hq⟩ ⟨hl,hd,_,(rel.put k eb rv).keeps fun c ys ec=>?_,q,es,ep,hq,h2,h3,h4,h5⟩
  rw [aq (fz ec e (fun z=>nomatch z))]
  exact ec
end
noncomputable def tDIn (ty td:TE):TE:=fun σ H Q=>ty σ H fun y H1=>td σ H1 fun x H2=>∃ a o,x= .ref a∧DGet H2 a y o∧Q (.bl o.isSome) H2
noncomputable def Ab (ty td:TE):TE:=fun σ H Q=>ty σ H fun y H1=>td σ H1 fun x H2=>∃ a o,x= .ref a∧DGet H2 a y o∧Q (.bl (!o.isSome)) H2
noncomputable def F6 (td ty tv:TE):TS:=fun D σ H=>tv σ H fun v H1=>td σ H1 fun x H2=>ty σ H2 fun y H3=>∃ a H4,x= .ref a∧DPut H3 a y v H4∧D.nx σ H4
section
variable {X:Cx} {o i e value:Expr} {pos pos' tpos:Pos} {td ty tv:TE}
theorem DF (hu:X.A.units + 1 < cLine) (hi:PE X i ty) (ho:PE X o td):PC X .In i o (tDIn ty td):=by
 intro pins s σ H Q I h
 refine thn (hi pins s σ H _ I h) fun iv s1 ⟨y,H1,I1,ry,q1⟩=>thn (ho pins s1 σ H1 _ I1 q1) fun u s2 ⟨x,H2,I2,rx,a,ov,ex,g,q2⟩=>?_
 subst ex
 obtain rfl:u=Value.ref a:=rx
 exact d_in hu I2 g ry fun s3 I3=>⟨.bl ov.isSome,H2,I3,rfl,q2⟩
theorem AG (hu:X.A.units + 1 < cLine) (hi:PE X i ty) (ho:PE X o td):PC X .NotIn i o (Ab ty td):=by
 intro pins s σ H Q I h
 refine thn (hi pins s σ H _ I h) fun iv s1 ⟨y,H1,I1,ry,q1⟩=>thn (ho pins s1 σ H1 _ I1 q1) fun u s2 ⟨x,H2,I2,rx,a,ov,ex,g,q2⟩=>?_
 subst ex
 obtain rfl:u=Value.ref a:=rx
 exact E6 hu I2 g ry fun s3 I3=>⟨.bl (!ov.isSome),H2,I3,rfl,q2⟩
theorem EA (hu:X.A.units + 1 < cLine) (ho:PE X o td) (hi:PE X i ty) (hv:PE X value tv) (hs:swapsWith value (some (.Subscript o i pos')) pos.line X.env=pure false):
  PS X (.Assign [.Subscript o i pos'] value pos) (F6 td ty tv):=by
 intro pins s σ H D I h
 refine wpAny_Assign_Subscript (thn (hv pins s σ H _ I h) fun r s1 ⟨v,H1,I1,rv,q1⟩=>thn (ho pins s1 σ H1 _ I1 q1) fun u s2 ⟨x,H2,I2,rx,q2⟩=>thn (hi pins s2 σ H2 _ I2 q2) fun iv s3 ⟨y,H3,I3,ry,a,H4,ex,g,q3⟩=>?_) hs
 subst ex
 obtain rfl:u=Value.ref a:=rx
 exact Bx hu I3 g ry rv fun s4 I4=>⟨σ,H4,I4,q3⟩
end
theorem C6 {P:Program} {w:World} {H:Hp} (h:Heap) (hb:sysModules < h.objs.size):dI P w H (h.push {cls:= .type "dict",data:= .dict #[]}) h.objs.size (.dK []):=
 ⟨Nat.zero_le _,beq_eq_false_iff_ne.mpr (Ne.symm (Nat.ne_of_lt hb)),[],.nil,Heap.DictOf.new h⟩
noncomputable def Dm:TE:=fun _ H Q=>∀ p,H p=none→Q (.ref p) (upd H p (.dK []))
section
variable {X:Cx} {pos:Pos}
theorem CD:PE X (.Dict [] [] pos) Dm:=fun pins s σ H Q I h=>
 wpAny_Dict_empty ⟨.ref s.heap.objs.size,_,I.laid (a:=s.heap.objs.size) (o:= .dK []) (t':=s.toks) (fun _ _ q=>Heap.get?_push_of_some _ q) (Nat.le_refl _) (C6 s.heap I.big),rfl,h _ (I.hok.fresh (Nat.le_refl _))⟩
end
structure M1 (X:Cx) (o:Expr) (m:Str) (apos:Pos) (e:Expr) (cpos:Pos):Prop where
 base:attributeBase o m X.env (eval o X.env)=eval o X.env
 few:((backTo cpos (starEach [e] X.env)).all (fun x=> !x.1)&&(backToKw cpos (keywordEach [] X.env)).all (fun x=>x.1.isSome)
  &&decide (([e]:List Expr).length + ([]:List Keyword).length + (if ([]:List Keyword).isEmpty then 0 else 1) < 30))=true
 line:(apos.endLine == cpos.line)=true
 trees:backTo cpos (starEach [e] X.env)=[(false,eval e X.env)]
structure M2 (X:Cx) (o:Expr) (m:Str) (apos:Pos) (e f:Expr) (cpos:Pos):Prop where
 base:attributeBase o m X.env (eval o X.env)=eval o X.env
 few:((backTo cpos (starEach [e,f] X.env)).all (fun x=> !x.1)&&(backToKw cpos (keywordEach [] X.env)).all (fun x=>x.1.isSome)
  &&decide (([e,f]:List Expr).length + ([]:List Keyword).length + (if ([]:List Keyword).isEmpty then 0 else 1) < 30))=true
 line:(apos.endLine == cpos.line)=true
 trees:backTo cpos (starEach [e,f] X.env)=[(false,eval e X.env),(false,eval f X.env)]
section
variable {κ:Type} [DecidableEq κ]
theorem B8 {kvs:List (κ×V)} {k:κ} (h:valV kvs k=none):¬ k∈kvs.map (·.1):=by
 intro m
 obtain ⟨p,hp,e⟩:=List.mem_map.mp m
 have q:(kvs.any fun kv=>decide (kv.1=k))=true:=List.any_eq_true.mpr ⟨p,hp,decide_eq_true e⟩
 rw [jl,h] at q
 exact absurd q (by simp)
theorem D0 {kvs:List (κ×V)} {k:κ} {v:V} (h:valV kvs k=some v):k∈kvs.map (·.1):=by
 have q:(kvs.any fun kv=>decide (kv.1=k))=true:=by
  rw [jl,h]
  all_goals rfl
 obtain ⟨p,hp,e⟩:=List.any_eq_true.mp q
 exact List.mem_map.mpr ⟨p,hp,of_decide_eq_true e⟩
end
end L2
set_option maxHeartbeats 4000000
namespace L2
open PySem PySem.Spec PyProof.Rows
section
variable {P0:Program} {w0:World} {A0:Around} {R0:Result→Shared→Prop} {t0:Shared}
theorem qe {elt tg iter:Expr} {ifs:List Expr} {sc:Scope} {pos:Pos} {it acc:Value} {ce:Env} (J:Nat→Shared→Prop)
  (turn:∀ n s,J n s→wpAny (model P0 w0) A0 (pyNext it) (fun r s₁=>match r with
   | none=>R0 (.ok .next) s₁
   | some v=>wpAny (model P0 w0) A0 (letOwnedTupleGo tg it v) (fun _ s₂=>wpAny (model P0 w0) A0 (assign tg ce v) (fun _ s₃=>
     wpAny (model P0 w0) A0 (forIn ifs true fun c r=>if r=true then do let ok ← isTrue c ce (eval c ce);pure (ForInStep.yield ok) else pure (ForInStep.yield r)) (fun ok s₄=>
      if ok=true then wpAny (model P0 w0) A0 (eval elt ce) (fun x s₅=>
       wpAny (model P0 w0) A0 (call (.builtin "list.append") [acc,x]) (fun _ s₆=>∃ m,m < n∧J m s₆) (fun _ _=>False) s₅) (fun _ _=>False) s₄
      else ∃ m,m < n∧J m s₄) (fun _ _=>False) s₃) (fun _ _=>False) s₂) (fun _ _=>False) s₁) (fun _ _=>False) s)
  (n:Nat) (h:J n t0):
  codeAny (model P0 w0) A0 (.compLoop (.ListComp elt [⟨tg,iter,ifs,0⟩] sc pos) 0 it acc ce) R0 t0:=by
 have no:∀ {α:Type} {t:Sem α} {Q:α→Shared→Prop} {E:Value→Shared→Prop} {s:Shared},wpAny (model P0 w0) A0 t Q (fun _ _=>False) s→wpAny (model P0 w0) A0 t Q E s:=
  fun h=>wpAny_mono h (fun _ _ q=>q) fun _ _ z=>z.elim
 refine codeAny_loop rfl J (fun n s hJ=>?_) n h
 show wpAny _ A0 ((compTurn (.ListComp elt [⟨tg,iter,ifs,0⟩] sc pos) 0 it acc ce).onRaise (fun x=>do noteFrame x ce;theTreesLotGoes x)) _ _ s
 refine wpAny_noted ?_
 rw [compTurn_list]
 refine wpAny_bind (wpAny_standAt (wpAny_bind (thn (no (turn n s hJ)) fun r s₁ h₁=>?_)))
 cases r with
 | none=>exact wpAny_pure h₁
 | some v=>
   refine wpAny_bind (thn (no h₁) fun _ s₂ h₂=>?_)
   refine wpAny_bind (thn (no h₂) fun _ s₃ h₃=>wpAny_bind (thn (no h₃) fun ok s₄ h₄=>?_))
   cases ok with
   | false=>exact wpAny_pure ⟨rfl,h₄⟩
   | true=>
     rw [if_pos rfl] at h₄
     refine wpAny_bind (wpAny_bind (thn (no h₄) fun x s₅ h₅=>?_))
     refine wpAny_bind (thn (no h₅) fun _ s₆ h₆=>?_)
     exact wpAny_pure (wpAny_pure ⟨rfl,h₆⟩)
end
theorem kI (env:Env):∀ (l:List (Str×NameKind)) (cs:List (Str×Addr)),(∀ y∈l,y.2= .free→∃ c,env.cells.lookup y.1=some c)→
  ∃ r:List (Str×Addr),(forIn l cs (fun (x:Str×NameKind) (r:List (Str×Addr))=>if x.2 == NameKind.free then (do let c ← cellOf env x.1;pure (ForInStep.yield ((x.1,c)::r))) else pure (ForInStep.yield r)):Sem (List (Str×Addr)))=pure r∧
   (∀ p∈r,p∈cs∨env.cells.lookup p.1=some p.2)∧(∀ p∈cs,p∈r)∧(∀ y∈l,y.2= .free→∃ c,(y.1,c)∈r)
 | [],cs,_=>⟨cs,rfl,fun p hp=> .inl hp,fun p hp=>hp,fun y hy=>nomatch hy⟩
 | (x,k)::l,cs,h=>by
   by_cases hk:k= .free
   ·subst hk
    obtain ⟨c,hc⟩:=h (x,.free) List.mem_cons_self rfl
    obtain ⟨r,e,h1,h2,h3⟩:=kI env l ((x,c)::cs) fun y hy=>h y (List.mem_cons_of_mem _ hy)
    refine ⟨r,?_,fun p hp=>?_,fun p hp=>h2 p (List.mem_cons_of_mem _ hp),fun y hy hf=>?_⟩
    ·rw [List.forIn_cons]
     have e2:cellOf env x=pure c:=by unfold cellOf;rw [hc]
     simp only [beq_self_eq_true,if_true,e2,pure_bind]
     exact e
    ·rcases h1 p hp with q | q
     ·rcases List.mem_cons.mp q with z | z
      ·subst z;exact .inr hc
      ·exact .inl z
     ·exact .inr q
    ·rcases List.mem_cons.mp hy with z | z
     ·subst z;exact ⟨c,h2 _ List.mem_cons_self⟩
     ·exact h3 y z hf
   ·obtain ⟨r,e,h1,h2,h3⟩:=kI env l cs fun y hy=>h y (List.mem_cons_of_mem _ hy)
    refine ⟨r,?_,h1,h2,fun y hy hf=>?_⟩
    ·rw [List.forIn_cons]
     have hb:(k == NameKind.free)=false:=by cases k<;>first | rfl | exact absurd rfl hk
     simp only [hb,Bool.false_eq_true,if_false,pure_bind]
     exact e
    ·rcases List.mem_cons.mp hy with z | z
     ·subst z;exact absurd hf hk
     ·exact h3 y z hf
theorem kH (sc:Scope) (env:Env) (h:∀ y∈sc.names,y.2= .free→∃ c,env.cells.lookup y.1=some c):
  ∃ cl,closureFor sc env=pure cl∧(∀ p∈cl,env.cells.lookup p.1=some p.2)∧∀ y∈sc.names,y.2= .free→∃ c,(y.1,c)∈cl:=by
 obtain ⟨r,e,h1,h2,h3⟩:=kI env sc.names [] h
 refine ⟨r,?_,fun p hp=>(h1 p hp).resolve_left (fun z=>nomatch z),h3⟩
 unfold closureFor
 have:=e
 simp only [bind_pure] at *
 exact e
theorem jJ {κ β:Type} [BEq κ] [LawfulBEq κ]:∀ {l:List (κ×β)} {x:κ} {c:β},(x,c)∈l→∃ c',l.lookup x=some c'
 | [],_,_,h=>nomatch h
 | (y,d)::l,x,c,h=>by
   by_cases e:x=y
   ·subst e;exact ⟨d,by simp [List.lookup_cons]⟩
   ·have hb:(x == y)=false:=beq_eq_false_iff_ne.mpr e
    rcases List.mem_cons.mp h with z | z
    ·exact absurd (congrArg Prod.fst z) e
    ·obtain ⟨c',q⟩:=jJ z
     exact ⟨c',by rw [List.lookup_cons,hb];exact q⟩
theorem fK {env:Env}:∀ {names:List (Str×NameKind)} {x:Str} {k':NameKind},
  (names.map fun (n,k)=>if (k == NameKind.free&&env.scope.kind == .function&&env.kindOf n == some .cell) then (n,NameKind.cell) else (n,k)).lookup x=some k'→∃ k,(x,k)∈names∧(k'=k∨k= .free)
 | [],_,_,h=>by cases h
 | (y,k)::l,x,k',h=>by
   rw [List.map_cons,List.lookup_cons] at h
   by_cases e:x=y
   ·subst e
    by_cases hc:(k == NameKind.free&&env.scope.kind == .function&&env.kindOf x == some .cell)=true
    ·refine ⟨k,List.mem_cons_self,.inr ?_⟩
     rw [Bool.and_eq_true,Bool.and_eq_true] at hc
     exact eq_of_beq hc.1.1
    ·refine ⟨k,List.mem_cons_self,.inl ?_⟩
     simp only [if_neg hc,beq_self_eq_true] at h
     exact (Option.some.inj h).symm
   ·have hb:(x == y)=false:=beq_eq_false_iff_ne.mpr e
    have h':(l.map fun (n,k)=>if (k == NameKind.free&&env.scope.kind == .function&&env.kindOf n == some .cell) then (n,NameKind.cell) else (n,k)).lookup x=some k':=by
     by_cases hc:(k == NameKind.free&&env.scope.kind == .function&&env.kindOf y == some .cell)=true
     ·simp only [if_pos hc,hb] at h;exact h
     ·simp only [if_neg hc,hb] at h;exact h
    obtain ⟨q,hm,z⟩:=fK h'
    exact ⟨q,List.mem_cons_of_mem _ hm,z⟩
theorem gE {env:Env}:∀ {names:List (Str×NameKind)} {x:Str},names.lookup x=some .free→
  (names.map fun (n,k)=>if (k == NameKind.free&&env.scope.kind == .function&&env.kindOf n == some .cell) then (n,NameKind.cell) else (n,k)).lookup x=some .cell∨
  (names.map fun (n,k)=>if (k == NameKind.free&&env.scope.kind == .function&&env.kindOf n == some .cell) then (n,NameKind.cell) else (n,k)).lookup x=some .free
 | [],_,h=>by cases h
 | (y,k)::l,x,h=>by
   rw [List.lookup_cons] at h
   rw [List.map_cons,List.lookup_cons]
   by_cases e:x=y
   ·subst e
    simp only [beq_self_eq_true] at h
    cases h
    by_cases hc:(NameKind.free == NameKind.free&&env.scope.kind == .function&&env.kindOf x == some .cell)=true
    ·refine .inl ?_
     rw [if_pos hc]
     simp only [beq_self_eq_true]
    ·refine .inr ?_
     rw [if_neg hc]
     simp only [beq_self_eq_true]
   ·have hb:(x == y)=false:=beq_eq_false_iff_ne.mpr e
    simp only [hb] at h
    have q:=gE (env:=env) h
    by_cases hc:(k == NameKind.free&&env.scope.kind == .function&&env.kindOf y == some .cell)=true
    ·simp only [if_pos hc,hb];exact q
    ·simp only [if_neg hc,hb];exact q
structure fH (osc:Scope) (ON N:List Str) (n:Nat) (fx:List Nat) (sc:Scope):Prop where
 kind:sc.kind= .function
 noc:∀ y∈sc.names,y.2≠.cell
 own:∀ y∈sc.names,y.2= .local→sc.names.lookup y.1=some .local
 fre:∀ y∈sc.names,y.2= .free→osc.names.lookup y.1=some .cell∨osc.names.lookup y.1=some .free
 len:N.length=n + fx.length
 frn:∀ k,k < fx.length→∃ x j,N[n + k]? =some x∧fx[k]? =some j∧ON[j]? =some x∧sc.names.lookup x=some .free
noncomputable def Bm (ON:List Str) (sc:Scope):List Str→List Nat→Bool
 | [],[]=>true
 | x::xs,j::js=>decide (ON[j]? =some x)&&decide (sc.names.lookup x=some .free)&&Bm ON sc xs js
 | _,_=>false
theorem nW {ON:List Str} {sc:Scope}:∀ {xs:List Str} {js:List Nat},Bm ON sc xs js=true→xs.length=js.length∧∀ k,k < js.length→∃ x j,xs[k]? =some x∧js[k]? =some j∧ON[j]? =some x∧sc.names.lookup x=some .free
 | [],[],_=>⟨rfl,fun k h=>absurd h (Nat.not_lt_zero k)⟩
 | [],_::_,h=>by cases h
 | _::_,[],h=>by cases h
 | x::xs,j::js,h=>by
   simp only [Bm,Bool.and_eq_true,decide_eq_true_eq] at h
   obtain ⟨l,q⟩:=nW h.2
   refine ⟨congrArg Nat.succ l,fun k hk=>?_⟩
   cases k with
   | zero=>exact ⟨x,j,rfl,rfl,h.1.1,h.1.2⟩
   | succ k=>
     obtain ⟨x',j',a,b,c⟩:=q k (Nat.lt_of_succ_lt_succ hk)
     exact ⟨x',j',by simpa using a,by simpa using b,c⟩
noncomputable def xO (osc:Scope) (ON N:List Str) (n:Nat) (fx:List Nat) (sc:Scope):Bool:=
 decide (sc.kind= .function)&&decide (∀ y∈sc.names,y.2≠.cell)&&decide (∀ y∈sc.names,y.2= .local→sc.names.lookup y.1=some .local)&&
 decide (∀ y∈sc.names,y.2= .free→osc.names.lookup y.1=some .cell∨osc.names.lookup y.1=some .free)&&decide (n≤N.length)&&Bm ON sc (N.drop n) fx
theorem fH.of {osc:Scope} {ON N:List Str} {n:Nat} {fx:List Nat} {sc:Scope} (h:xO osc ON N n fx sc=true):fH osc ON N n fx sc:=by
 simp only [xO,Bool.and_eq_true,decide_eq_true_eq] at h
 obtain ⟨⟨⟨⟨⟨h1,h2⟩,h3⟩,h4⟩,h5⟩,h6⟩:=h
 obtain ⟨l,q⟩:=nW h6
 refine ⟨h1,h2,h3,h4,?_,fun k hk=>?_⟩
 ·rw [List.length_drop] at l;omega
 ·obtain ⟨x,j,a,b⟩:=q k hk
  exact ⟨x,j,by rw [List.getElem?_drop] at a;exact a,b⟩
noncomputable def fD (X:Cx) (N:List Str) (sc:Scope) (cl:List (Str×Addr)) (C:Addr) (fp:List Addr) (s:Shared) (H:Hp):Cx where
 prog:=X.prog
 w:=X.w
 K:=X.K
 mg:=X.mg
 base:=X.base
 A:=X.A
 N:=N
 s₀:=s
 H₀:=H
 env:=compEnvC sc cl C X.env
 outer:=X.stack
 stack:=X.stack
 ex:=fp
 fn:=fun _=>false
 calm:=X.calm
 pn:=[]
 xe:=fun _ _=>False
noncomputable def bH (n:Nat) (fx:List Nat) (σ:St):St:=List.replicate n none++fx.map fun j=>(σ[j]?).join
noncomputable def uQ (n:Nat) (g:TG):Prop:=∀ v σ H (Q Q':St→Hp→Prop),(∀ σ' H',Q σ' H'→σ'.drop n=σ.drop n→σ'.length=σ.length→Q' σ' H')→g v σ H Q→g v σ H Q'
noncomputable def xS (n:Nat) (g:TGs):Prop:=∀ vs σ H (Q Q':St→Hp→Prop),(∀ σ' H',Q σ' H'→σ'.drop n=σ.drop n→σ'.length=σ.length→Q' σ' H')→g vs σ H Q→g vs σ H Q'
theorem aA {n i:Nat} (h:i < n):uQ n (zg i):=fun v σ H Q Q' k q=>k _ _ q (by rw [List.drop_set_of_lt h]) (by rw [List.length_set])
theorem rC {n:Nat}:xS n gNil:=fun vs σ H Q Q' k ⟨e,q⟩=>⟨e,k _ _ q rfl rfl⟩
theorem eL {n:Nat} {t:TG} {u:TGs} (ht:uQ n t) (hu:xS n u):xS n (EX t u):=fun vs σ H Q Q' k ⟨v,r,e,q⟩=>
 ⟨v,r,e,ht v σ H _ _ (fun σ1 H1 q1 e1 l1=>hu r σ1 H1 Q Q' (fun σ2 H2 q2 e2 l2=>k σ2 H2 q2 (e2.trans e1) (l2.trans l1)) q1) q⟩
theorem xG {K:PySem.W.Frag} {n m:Nat} {t:TGs} (h:xS n t):uQ n (gTup K m t):=fun v σ H Q Q' k ⟨a,xs,e,hs,hl,q⟩=>⟨a,xs,e,hs,hl,h xs σ H Q Q' k q⟩
noncomputable def PTs (X:Cx) (ifs:List Expr) (t:TT):Prop:=
 ∀ (pins:List (Addr×Obj)) (s:Shared) (σ:St) (H:Hp) (Q:Bool→Hp→Prop),Inv X pins σ H s→t σ H Q→
  wpAny (model X.prog X.w) X.A (forIn ifs true fun c r=>if r=true then do let ok ← isTrue c X.env (eval c X.env);pure (ForInStep.yield ok) else pure (ForInStep.yield r)) (TP X pins σ Q) X.xe s
noncomputable def tYes:TT:=fun _ H Q=>Q true H
theorem bg {X:Cx}:PTs X [] tYes:=fun _ _ _ H _ I h=>wpAny_tests_nil ⟨H,I,h⟩
theorem fL {X:Cx} {c:Expr} {t:TT} (h:PT X c t):PTs X [c] t:=fun pins s σ H Q I q=>wpAny_tests_one (h pins s σ H Q I q)
noncomputable def ya (n:Nat) (fx:List Nat) (wi:TI) (g:TG) (tc:TT) (te:TE):TE:=fun σ H Q=>wi σ H fun J H1=>∀ D,H1 D=none→
 ∃ W:Nat→Nat→List V→Hp→Prop,(∃ m,W 0 m [] (upd H1 D (.lst [])))∧∀ i m ys H2,W i m ys H2→(J.stop i H2∧Q (.ref D) H2)∨
   (J.go i H2∧∃ N:List V→Hp→Prop,(∀ ys' H',N ys' H'→∃ m',m' < m∧W (i + 1) m' ys' H')∧∀ x H3,J.yld i H2 x H3→g x (bH n fx σ) H3 fun σ4 H4=>tc σ4 H4 fun b H5=>
    if b=true then te σ4 H5 fun v H6=>H6 D=some (.lst ys)∧ys.length < sizeLine∧N (ys++[v]) (upd H6 D (.lst (ys++[v]))) else N ys H5)
section
variable {X:Cx} {pins:List (Addr×Obj)} {σ:St} {H:Hp} {s:Shared}
theorem qg {n:Nat} {fx:List Nat}:(bH n fx σ).length=n + fx.length:=by unfold bH;simp
theorem io {n:Nat} {fx:List Nat} {i:Nat} {v:V} (e:(bH n fx σ)[i]? =some (some v)):∃ k j,i=n + k∧fx[k]? =some j∧σ[j]? =some (some v):=by
 unfold bH at e
 by_cases h:i < n
 ·rw [List.getElem?_append_left (by simpa using h),List.getElem?_replicate,if_pos h] at e
  cases e
 ·rw [List.getElem?_append_right (by simpa using h),List.length_replicate,List.getElem?_map] at e
  cases q:fx[i - n]? with
  | none=>rw [q] at e;cases e
  | some j=>
    rw [q] at e
    have e':(σ[j]?).join=some v:=Option.some.inj e
    refine ⟨i - n,j,by omega,q,?_⟩
    cases z:σ[j]? with
    | none=>rw [z] at e';cases e'
    | some o=>rw [z] at e';have:o=some v:=e';rw [this]
theorem Dc {osc:Scope} {ON N:List Str} {n:Nat} {fx:List Nat} {sc:Scope} {cl:List (Str×Addr)} {fp:List Addr} {h4:Heap} {tk:Nat}
  (ho:X.env.scope=osc) (hN:X.N=ON) (S:fH osc ON N n fx sc)
  (hcl1:∀ p∈cl,X.env.cells.lookup p.1=some p.2) (hcl2:∀ y∈sc.names,y.2= .free→∃ c,(y.1,c)∈cl)
  (I:Inv X pins σ H s) (hf:∀ b∈fp,FpOk X pins H b) (hfo:∀ b∈fp,b < s.heap.objs.size)
  (hns:∃ m,h4.Ns s.heap.objs.size m) (old:∀ b o,s.heap.get? b=some o→h4.get? b=some o):
  Inv (fD X N sc cl s.heap.objs.size fp s H) [] (bH n fx σ) H {s with heap:=h4,toks:=tk}:=by
 have look:∀ {x:Str} {c:Addr},cl.lookup x=some c→X.env.cells.lookup x=some c:=fun {x c} e=>hcl1 (x,c) (PySem.mem_of_lookup e)
 have ok:(fD X N sc cl s.heap.objs.size fp s H).Ok:=by
  refine ⟨I.ok.mod,S.kind,I.ok.glob,I.ok.blt,Nat.le_refl _,fun x y c h1 h2=>I.ok.inj x y c (look h1) (look h2),fun x hx=>?_,fun x c z=>(by cases z),I.ok.hd,I.ok.frames,.inl rfl,fun b hb=>⟨Nat.ne_of_lt (hfo b hb),fun x c e=>(hf b hb).2.2.2.2.1 x c (look e)⟩,
   I.bs,Nat.le_trans I.ok.bsz I.sz,fun b o e hb=>?_,fun b hb z=>?_,I.stack,I.stkFree⟩
  ·have hx':∃ k',(k'=NameKind.cell∨k'=NameKind.free)∧(sc.names.map fun (n,k)=>if (k == NameKind.free&&X.env.scope.kind == .function&&X.env.kindOf n == some .cell) then (n,NameKind.cell) else (n,k)).lookup x=some k':=by
    rcases hx with hx | hx
    ·exact ⟨_,.inl rfl,hx⟩
    ·exact ⟨_,.inr rfl,hx⟩
   obtain ⟨k',hk,e⟩:=hx'
   obtain ⟨k,hm,z⟩:=fK e
   have kf:k= .free:=by
    rcases z with z | z
    ·subst z
     rcases hk with q | q
     ·exact absurd q (S.noc _ hm)
     ·exact q
    ·exact z
   subst kf
   obtain ⟨c,hc⟩:=hcl2 _ hm rfl
   exact jJ hc
  ·rcases (hf b hb).2.2.2.1 with z | z
   ·exact I.ok.noex b o e z
   ·exact absurd (Nat.lt_of_lt_of_le (Heap.lt_size (I.ok.bs b o e).1) z) (Nat.lt_irrefl _)
  ·rcases List.mem_cons.mp (I.stkSub b z) with q | q
   ·exact (hf b hb).2.1 q
   ·exact (hf b hb).2.2.1 q
 obtain ⟨m,hns⟩:=hns
 refine ⟨ok,rfl,I.bare,Un.kept old,⟨m,hns,fun i x v e1 e2 e3=>?_⟩,fun x c e=>?_,I.hok.fresh (Nat.le_refl _),fun x c e=>I.freeC x c (look e),fun p hp=>absurd (show p∈([]:List (Addr×Obj)) from hp) (by simp),I.hok.kept old,?_⟩
 ·obtain ⟨k,j,rfl,hj,hv⟩:=io e2
  obtain ⟨x',j',a1,a2,a3,a4⟩:=S.frn k (List.getElem?_eq_some_iff.mp hj).1
  have ex:x'=x:=Option.some.inj (a1.symm.trans e1)
  have ej:j'=j:=Option.some.inj (a2.symm.trans hj)
  subst ex;subst ej
  obtain ⟨m',_,hl⟩:=I.loc
  have hk:X.env.scope.names.lookup x'=some .cell∨X.env.scope.names.lookup x'=some .free:=by rw [ho];exact S.fre _ (PySem.mem_of_lookup a4) rfl
  have vis:Vis X.env.scope x':=by rcases hk with z | z;exact .inr (.inl z);exact .inr (.inr z)
  obtain ⟨u,r,q⟩:=hl j' x' v (by rw [hN];exact a3) hv vis
  rcases q with ⟨z,_⟩ | ⟨_,c,ec,ic⟩
  ·have z':X.env.scope.names.lookup x'=some .local:=z
   rcases hk with q | q<;>(rw [q] at z';cases z')
  ·refine ⟨u,r,.inr ⟨gE a4,c,?_,ic.keeps old⟩⟩
   obtain ⟨c0,hc0⟩:=hcl2 _ (PySem.mem_of_lookup a4) rfl
   obtain ⟨c1,hc1⟩:=jJ hc0
   have:=look hc1
   rw [ec] at this
   cases this
   exact hc1
 ·obtain ⟨v,q⟩:=I.cell x c (look e)
  exact ⟨v,q.keeps old⟩
 ·show _=N.length
  rw [qg,S.len]
theorem uq {osc:Scope} {ON N:List Str} {n:Nat} {fx:List Nat} {sc:Scope} {cl:List (Str×Addr)} {elt tg iter:Expr} {ifs:List Expr} {pos:Pos} {wi:TI} {g:TG} {tc:TT} {te:TE} {Q:VK} {RR:Value→Addr→Result→Shared→Prop}
  (hcalm:X.calm=true) (ho:X.env.scope=osc) (hN:X.N=ON) (S:fH osc ON N n fx sc)
  (hcl1:∀ p∈cl,X.env.cells.lookup p.1=some p.2) (hcl2:∀ y∈sc.names,y.2= .free→∃ c,(y.1,c)∈cl)
  (hi:PI X tg iter wi) (gk:uQ n g) (hb:∀ cl C fp s H,PG (fD X N sc cl C fp s H) tg g∧PTs (fD X N sc cl C fp s H) ifs tc∧PE (fD X N sc cl C fp s H) elt te)
  (I:Inv X pins σ H s) (h:ya n fx wi g tc te σ H Q)
  (hRR:∀ D C H' s',Inv X pins σ H' s'→(∃ m,s'.heap.Ns C m)→FpOk X pins H' C→Q (.ref D) H'→RR (.ref D) C (.ok .next) s'):
  wpAny (model X.prog X.w) X.A (eval iter X.env) (fun x s₁=>wpAny (model X.prog X.w) X.A (pyIter x) (fun it s₂=>wpAny (model X.prog X.w) X.A (newList []) (fun acc s₃=>
   wpAny (model X.prog X.w) X.A (newFunctionEnv sc X.env.globals cl [] X.env.qual none .none (some X.env)) (fun cenv s₄=>
    codeAny (model X.prog X.w) X.A (.compStart (.ListComp elt [⟨tg,iter,ifs,0⟩] sc pos) 0 it acc {cenv with scope:=relabel sc X.env}) (RR acc cenv.locals) s₄) X.xe s₃) X.xe s₂) X.xe s₁) X.xe s:=by
 refine thn (hi pins s σ H _ I h) fun v s1 h1=>thn h1 fun itv s2 h2=>?_
 obtain ⟨it,fp,tn,J,H2,e2,I2,T,st2,f2,hW⟩:=h2
 subst e2
 obtain ⟨W,⟨m0,w0⟩,hturn⟩:=hW s2.heap.objs.size I2.fresh
 refine wpAny_newObj_type ?_
 have I3:Inv X pins σ (upd H2 s2.heap.objs.size (.lst [])) {s2 with heap:=s2.heap.push {cls:= .type "list",data:= .seq ([]:List Value).toArray}}:=I2.lnew (t':=s2.toks) (its:=[]) .nil (Nat.zero_le _)
 have f3:∀ b∈fp,FpOk X pins (upd H2 s2.heap.objs.size (.lst [])) b∧b < s2.heap.objs.size:=fun b hb=>by
  obtain ⟨o,e,_⟩:=T.obj _ _ st2 b hb
  have l:=Heap.lt_size e
  obtain ⟨a1,a2⟩:=f2 b hb
  exact ⟨⟨by rw [aq (Nat.ne_of_lt l)];exact a1,a2⟩,l⟩
 have sz:({s2 with heap:=s2.heap.push {cls:= .type "list",data:= .seq ([]:List Value).toArray}}:Shared).heap.objs.size=s2.heap.objs.size + 1:=Heap.size_push ..
 generalize hs3:({s2 with heap:=s2.heap.push {cls:= .type "list",data:= .seq ([]:List Value).toArray}}:Shared)=s3 at I3 sz ⊢
 generalize hH3:upd H2 s2.heap.objs.size (.lst [])=H3 at I3 f3 w0
 have old3:∀ b o,s2.heap.get? b=some o→s3.heap.get? b=some o:=fun b o e=>by rw [← hs3];exact Heap.get?_push_of_some _ e
 refine wpAny_newFunctionEnv (fun y hy=>S.noc y hy) (fun y hy=>nomatch hy) (fun h4 hns hsb=>?_) S.kind
 have old4:∀ b o,s3.heap.get? b=some o→h4.get? b=some o:=fun b o e=>hsb.extBut b o (Nat.ne_of_lt (Heap.lt_size e)) (Heap.get?_push_of_some _ e)
 have I4:=Dc (tk:=s3.toks + ([]:List (Str×Value)).length) ho hN S hcl1 hcl2 I3 (fun b hb=>(f3 b hb).1) (fun b hb=>by rw [sz];exact Nat.lt_succ_of_lt (f3 b hb).2) ⟨_,hns⟩ old4
 have hb':=hb cl s3.heap.objs.size fp s3 H3
 generalize hY:fD X N sc cl s3.heap.objs.size fp s3 H3=Y at I4 hb'
 have stat:∀ {H':Hp},(∀ b∈fp,H' b=none)→∀ b∈fp,FpOk Y [] H' b:=fun {H'} hn b hb=>by
  subst hY
  obtain ⟨⟨a1,a2,a3,a4,a5,a6⟩,l⟩:=f3 b hb
  refine ⟨hn b hb,Nat.ne_of_lt (show b < s3.heap.objs.size by rw [sz];exact Nat.lt_succ_of_lt l),fun z=>?_,.inl hb,fun x c e=>a5 x c (hcl1 (x,c) (PySem.mem_of_lookup e)),fun p hp=>absurd (show p∈([]:List (Addr×Obj)) from hp) (by simp)⟩
  rcases List.mem_cons.mp (I3.stkSub b z) with q | q
  ·exact a2 q
  ·exact a3 q
 have fin:∀ {σ6:St} {H6:Hp} {s6:Shared},Inv Y [] σ6 H6 s6→Q (.ref s2.heap.objs.size) H6→RR (.ref s2.heap.objs.size) s3.heap.objs.size (.ok .next) s6:=fun {σ6 H6 s6} I6 q=>by
  subst hY
  refine hRR _ _ H6 s6 ?_ (let ⟨m,hm,_⟩:=I6.loc;⟨m,hm⟩) (I3.fpOk (Nat.le_refl _) I6.free) q
  obtain ⟨hh,gg,dd,tt,os'⟩:=s6
  obtain rfl:os'=s3.os:=I6.os
  exact I3.call (h':=hh) (g':=gg) (d':=dd) (t':=tt) (ch:=fp) I6.base I6.hok I6.bare fun b hb=>by
   obtain ⟨⟨a1,a2,a3,a4,a5,a6⟩,l⟩:=f3 b hb
   exact ⟨a4,a2,a5,a6⟩
 have pY:Y.prog=X.prog:=by subst hY;rfl
 have wY:Y.w=X.w:=by subst hY;rfl
 have kY:Y.K=X.K:=by subst hY;rfl
 have aY:Y.A=X.A:=by subst hY;rfl
 have cY:Y.calm=true:=by subst hY;exact hcalm
 have eY:Y.env=compEnvC sc cl s3.heap.objs.size X.env:=by subst hY;rfl
 have xY:Y.xe=fun _ _=>False:=by subst hY;rfl
 have T':Turn Y.prog Y.w Y.K tg J fp it tn:=by rw [pY,wY,kY];exact T
 have tn4:tn 0 h4:=T.keep _ _ _ st2 fun b hb o e=>old4 b o (old3 b o e)
 have loop:codeAny (model X.prog X.w) X.A (.compLoop (.ListComp elt [⟨tg,iter,ifs,0⟩] sc pos) 0 (.ref it) (.ref s2.heap.objs.size) (compEnvC sc cl s3.heap.objs.size X.env)) (RR (.ref s2.heap.objs.size) s3.heap.objs.size)
   {s3 with heap:=h4,toks:=s3.toks + ([]:List (Str×Value)).length}:=by
  rw [← pY,← wY,← aY,← eY]
  refine qe (fun k s'=>∃ i ys σ' H',Inv Y [] σ' H' s'∧σ'.drop n=(bH n fx σ).drop n∧σ'.length=(bH n fx σ).length∧tn i s'.heap∧(∀ b∈fp,H' b=none)∧W i k ys H') ?_ m0 ⟨0,[],_,H3,I4,rfl,rfl,tn4,fun b hb=>(f3 b hb).1.1,w0⟩
  rintro k s5 ⟨i,ys,σ5,H5,I5,ed,el,st5,fr5,w5⟩
  have I5:Inv Y [] (bH n fx σ) H5 s5:=I5.weak el.symm fun j v e=>by
   obtain ⟨k',j',rfl,_,_⟩:=io e
   have q:=congrArg (fun l=>l[k']?) ed
   simp only [List.getElem?_drop] at q
   rw [q];exact e
  rcases hturn i k ys H5 w5 with ⟨stop,q⟩ | ⟨go,N',hN',step⟩
  ·refine wpAny_mono (T'.done Y rfl rfl rfl cY i [] s5 _ H5 (fun _ _=>False) I5 (stat fr5) st5 stop) (fun r s6 ⟨hr,I6⟩=>?_) fun _ _ z=>z
   subst hr
   exact fin I6 q
  ·rw [← xY]
   refine thn (T'.item Y rfl rfl rfl cY i [] s5 _ H5 Y.xe I5 (stat fr5) st5 go) fun r s6 ⟨u,hr,h6⟩=>?_
   subst hr
   show wpAny _ _ _ _ _ _
   refine thn h6 fun _ s7 ⟨x,H7,I7,r7,y7,st7,fr7⟩=>?_
   have I7':=I7.pinned (stat fr7) (T.obj _ _ st7)
   refine thn (hb'.1 _ s7 _ H7 x u _ I7' r7 (gk _ _ _ _ _ (fun σ' H' q e l=>(⟨q,e,l⟩:_∧_∧_)) (step x H7 y7))) fun _ s8 ⟨σ8,H8,I8,q8,ed8,el8⟩=>?_
   refine thn (hb'.2.1 _ s8 σ8 H8 _ I8 q8) fun ok s9 ⟨H9,I9,q9⟩=>?_
   have again:∀ {H10:Hp} {s10:Shared} {zs:List V},Inv Y ([]++p3 fp s7.heap) σ8 H10 s10→N' zs H10→
     ∃ m,m < k∧∃ i ys σ' H',Inv Y [] σ' H' s10∧σ'.drop n=(bH n fx σ).drop n∧σ'.length=(bH n fx σ).length∧tn i s10.heap∧(∀ b∈fp,H' b=none)∧W i m ys H':=fun {H10 s10 zs} I10 n10=>by
    obtain ⟨m',hm,w10⟩:=hN' _ _ n10
    refine ⟨m',hm,i + 1,zs,σ8,H10,I10.unpinned,ed8,el8,T.keep _ _ _ st7 fun b hb o e=>(I10.pin (b,o) (List.mem_append_right _ (List.mem_append_right _ (dW hb e)))).1,fun b hb=>?_,w10⟩
    obtain ⟨o,e,d⟩:=T.obj _ _ st7 b hb
    exact (I10.pin (b,o) (List.mem_append_right _ (List.mem_append_right _ (dW hb e)))).2.1
   cases ok with
   | false=>exact again I9 q9
   | true=>
     rw [if_pos rfl]
     refine thn (hb'.2.2 _ s9 σ8 H9 _ I9 q9) fun y s10 ⟨v',H10,I10,r10,hD10,hl10,n10⟩=>?_
     refine thn (d9 (X:=Y) _ s10 σ8 H10 (.ref s2.heap.objs.size) [v'] (.ref s2.heap.objs.size) [y] (fun _ H'=>H'=upd H10 s2.heap.objs.size (.lst (ys++[v']))) I10 rfl (.cons r10 .nil) ⟨_,ys,v',rfl,rfl,hD10,hl10,rfl⟩) fun _ s11 ⟨_,H11,I11,_,e11⟩=>?_
     subst e11
     exact again I11 n10
 exact codeAny_compStart_list loop (T.self X.A 0 _ _ _ tn4 loop)
theorem bO {osc:Scope} {ON N:List Str} {n:Nat} {fx:List Nat} {sc:Scope} {elt tg iter:Expr} {ifs:List Expr} {pos:Pos} {wi:TI} {g:TG} {tc:TT} {te:TE}
  (hcalm:X.calm=true) (ho:X.env.scope=osc) (hN:X.N=ON) (S:xO osc ON N n fx sc=true) (hi:PI X tg iter wi) (gk:uQ n g)
  (hb:∀ cl C fp s H,PG (fD X N sc cl C fp s H) tg g∧PTs (fD X N sc cl C fp s H) ifs tc∧PE (fD X N sc cl C fp s H) elt te)
  (hs:∀ x,foldedSetIterable iter X.env x=pure x:=by intro _;rfl):PE X (.ListComp elt [⟨tg,iter,ifs,0⟩] sc pos) (ya n fx wi g tc te):=by
 intro pins s σ H Q I h
 have S:=fH.of S
 obtain ⟨cl,hcl,hcl1,hcl2⟩:=kH sc X.env fun y hy hf=>I.ok.has y.1 (by show X.env.scope.names.lookup y.1=some .cell∨X.env.scope.names.lookup y.1=some .free;rw [ho];exact S.fre y hy hf)
 rw [eval_ListComp]
 refine wpAny_comprehension_free (use:=none) rfl hs hcl S.kind S.own (uq (RR:=fun acc C=>compPost (model X.prog X.w) X.A X.xe none (EP X pins σ Q) acc C) hcalm ho hN S hcl1 hcl2 hi gk hb I h ?_)
 intro D C H' s' I' hm hf q
 obtain ⟨m,hm⟩:=hm
 obtain ⟨f0,f1,f2,f3,f4,f5⟩:=hf
 exact ⟨m,hm,fun h' hsb=>⟨.ref D,H',I'.turned (t':=s'.toks) (fun b o hb e=>(hsb.2 b hb).trans e) f0 f1 f3 f4 f5,rfl,q⟩⟩
theorem cO {i:Nat} {x:Str} {px:Pos} {spos:Pos} {osc:Scope} {ON N:List Str} {n:Nat} {fx:List Nat} {sc:Scope} {elt tg iter:Expr} {ifs:List Expr} {pos:Pos} {wi:TI} {g:TG} {tc:TT} {te:TE}
  (hnd:X.N.Nodup) (hx:X.N[i]? =some x) (hl:X.env.scope.names.lookup x=some .local) (hsw:swapsWith (.ListComp elt [⟨tg,iter,ifs,0⟩] sc pos) (some (.Name x px)) spos.line X.env=pure true)
  (hcalm:X.calm=true) (ho:X.env.scope=osc) (hN:X.N=ON) (S:xO osc ON N n fx sc=true) (hi:PI X tg iter wi) (gk:uQ n g)
  (hb:∀ cl C fp s H,PG (fD X N sc cl C fp s H) tg g∧PTs (fD X N sc cl C fp s H) ifs tc∧PE (fD X N sc cl C fp s H) elt te)
  (hs:∀ x,foldedSetIterable iter X.env x=pure x:=by intro _;rfl):PS X (.Assign [.Name x px] (.ListComp elt [⟨tg,iter,ifs,0⟩] sc pos) spos) (tAsg (ya n fx wi g tc te) (zg i)):=by
 intro pins s σ H D I h
 have S:=fH.of S
 obtain ⟨cl,hcl,hcl1,hcl2⟩:=kH sc X.env fun y hy hf=>I.ok.has y.1 (by show X.env.scope.names.lookup y.1=some .cell∨X.env.scope.names.lookup y.1=some .free;rw [ho];exact S.fre y hy hf)
 rw [exec_Assign_Name_used _ _ _ _ hsw]
 refine wpAny_bind (wpAny_standAt (wpAny_bind ?_))
 show wpAny _ X.A (do let _ ← comprehension (.ListComp elt [⟨tg,iter,ifs,0⟩] sc pos) sc X.env _ (newList []) false (eval iter X.env) (some (assign (.Name x px) X.env))) _ _ s
 refine wpAny_bind (thn (wpAny_comprehension_free (use:=some (assign (.Name x px) X.env)) (Q:=fun _ s'=>SP X pins D .next s') rfl hs hcl S.kind S.own
  (uq (RR:=fun acc C=>compPost (model X.prog X.w) X.A X.xe (some (assign (.Name x px) X.env)) (fun _ s'=>SP X pins D .next s') acc C) hcalm ho hN S hcl1 hcl2 hi gk hb I h ?_)) fun _ s' q=>wpAny_pure (wpAny_pure q))
 intro D' C H' s' I' hm hf q
 obtain ⟨m,hm⟩:=hm
 obtain ⟨f0,f1,f2,f3,f4,f5⟩:=hf
 show wpAny _ X.A (assign (.Name x px) X.env (.ref D')) _ _ _
 refine wpAny_assign_Name (mI I' hnd hx (.inl hl) (v:= .ref D') rfl (fun s2 I2 hch=>?_) (.inr hl))
 obtain ⟨a,hsb,ha⟩:=hch
 have hCa:C≠a:=by
  rcases ha with z | z
  ·rw [z];exact f1
  ·exact fun e=>f4 _ _ z e.symm
 exact ⟨m,hm.sameBut hsb hCa,fun h' hsb'=>⟨_,H',I2.turned (t':=s2.toks) (fun b o hb e=>(hsb'.2 b hb).trans e) f0 f1 f3 f4 f5,q⟩⟩
end
section
variable {K:PySem.W.Frag} {n:Nat} {fx:List Nat} {g:TG} {tc:TT} {te:TE} {σ:St} {H1:Hp} {D:Addr} {Q:Hp→Prop}
theorem im {lo:Int} {k:Nat} (Pv:Nat→List V→Hp→Prop) (h0:Pv 0 [] (upd H1 D (.lst [])))
  (hs:∀ i ys H,i < k→Pv i ys H→g (.int (lo + i)) (bH n fx σ) H fun σ4 H4=>tc σ4 H4 fun b H5=>if b=true then te σ4 H5 fun v H6=>H6 D=some (.lst ys)∧ys.length < sizeLine∧Pv (i + 1) (ys++[v]) (upd H6 D (.lst (ys++[v]))) else Pv (i + 1) ys H5)
  (hd:∀ ys H,Pv k ys H→Q H):
  ∃ W:Nat→Nat→List V→Hp→Prop,(∃ m,W 0 m [] (upd H1 D (.lst [])))∧∀ i m ys H2,W i m ys H2→((Itr lo k).stop i H2∧Q H2)∨
    ((Itr lo k).go i H2∧∃ N:List V→Hp→Prop,(∀ ys' H',N ys' H'→∃ m',m' < m∧W (i + 1) m' ys' H')∧∀ x H3,(Itr lo k).yld i H2 x H3→g x (bH n fx σ) H3 fun σ4 H4=>tc σ4 H4 fun b H5=>
      if b=true then te σ4 H5 fun v H6=>H6 D=some (.lst ys)∧ys.length < sizeLine∧N (ys++[v]) (upd H6 D (.lst (ys++[v]))) else N ys H5):=by
 refine ⟨fun i m ys H=>m=k - i∧i≤k∧Pv i ys H,⟨k,by simp,Nat.zero_le _,h0⟩,?_⟩
 rintro i m ys H ⟨rfl,hi,p⟩
 by_cases hlt:i < k
 ·refine .inr ⟨hlt,Pv (i + 1),fun ys' H' p'=>⟨k - (i + 1),by omega,rfl,hlt,p'⟩,fun x H' y=>?_⟩
  obtain ⟨e,y⟩:=y
  subst e;subst y
  exact hs i ys _ hlt p
 ·have e:i=k:=by omega
  subst e
  exact .inl ⟨Nat.le_refl _,hd ys H p⟩
theorem ay {a:Addr} {xs:List V} (Pv:Nat→List V→Hp→Prop) (h0:Pv 0 [] (upd H1 D (.lst []))) (hl:∀ i ys H,i≤xs.length→Pv i ys H→SqL K H a xs)
  (hs:∀ i x ys H,xs[i]? =some x→Pv i ys H→g x (bH n fx σ) H fun σ4 H4=>tc σ4 H4 fun b H5=>if b=true then te σ4 H5 fun v H6=>H6 D=some (.lst ys)∧ys.length < sizeLine∧Pv (i + 1) (ys++[v]) (upd H6 D (.lst (ys++[v]))) else Pv (i + 1) ys H5)
  (hd:∀ ys H,Pv xs.length ys H→Q H):
  ∃ W:Nat→Nat→List V→Hp→Prop,(∃ m,W 0 m [] (upd H1 D (.lst [])))∧∀ i m ys H2,W i m ys H2→((Itl K a).stop i H2∧Q H2)∨
    ((Itl K a).go i H2∧∃ N:List V→Hp→Prop,(∀ ys' H',N ys' H'→∃ m',m' < m∧W (i + 1) m' ys' H')∧∀ x H3,(Itl K a).yld i H2 x H3→g x (bH n fx σ) H3 fun σ4 H4=>tc σ4 H4 fun b H5=>
      if b=true then te σ4 H5 fun v H6=>H6 D=some (.lst ys)∧ys.length < sizeLine∧N (ys++[v]) (upd H6 D (.lst (ys++[v]))) else N ys H5):=by
 refine ⟨fun i m ys H=>m=xs.length - i∧i≤xs.length∧Pv i ys H,⟨xs.length,by simp,Nat.zero_le _,h0⟩,?_⟩
 rintro i m ys H ⟨rfl,hi,p⟩
 have q:=hl i ys H hi p
 by_cases hlt:i < xs.length
 ·refine .inr ⟨⟨xs,xs[i],q,by simp [hlt]⟩,Pv (i + 1),fun ys' H' p'=>⟨xs.length - (i + 1),by omega,rfl,hlt,p'⟩,fun x H' y=>?_⟩
  obtain ⟨e,y⟩:=y
  subst e
  exact hs i x ys _ (y xs q) p
 ·have e:i=xs.length:=by omega
  subst e
  exact .inl ⟨⟨xs,q,Nat.le_refl _⟩,hd ys H p⟩
theorem xN {a:Addr} {xs:List V} (Pv:Nat→List V→Hp→Prop) (h0:Pv 0 [] (upd H1 D (.lst []))) (hl:∀ i ys H,i≤xs.length→Pv i ys H→SqT K H a xs)
  (hs:∀ i x ys H,xs[i]? =some x→Pv i ys H→g x (bH n fx σ) H fun σ4 H4=>tc σ4 H4 fun b H5=>if b=true then te σ4 H5 fun v H6=>H6 D=some (.lst ys)∧ys.length < sizeLine∧Pv (i + 1) (ys++[v]) (upd H6 D (.lst (ys++[v]))) else Pv (i + 1) ys H5)
  (hd:∀ ys H,Pv xs.length ys H→Q H):
  ∃ W:Nat→Nat→List V→Hp→Prop,(∃ m,W 0 m [] (upd H1 D (.lst [])))∧∀ i m ys H2,W i m ys H2→((Itt K a).stop i H2∧Q H2)∨
    ((Itt K a).go i H2∧∃ N:List V→Hp→Prop,(∀ ys' H',N ys' H'→∃ m',m' < m∧W (i + 1) m' ys' H')∧∀ x H3,(Itt K a).yld i H2 x H3→g x (bH n fx σ) H3 fun σ4 H4=>tc σ4 H4 fun b H5=>
      if b=true then te σ4 H5 fun v H6=>H6 D=some (.lst ys)∧ys.length < sizeLine∧N (ys++[v]) (upd H6 D (.lst (ys++[v]))) else N ys H5):=by
 refine ⟨fun i m ys H=>m=xs.length - i∧i≤xs.length∧Pv i ys H,⟨xs.length,by simp,Nat.zero_le _,h0⟩,?_⟩
 rintro i m ys H ⟨rfl,hi,p⟩
 have q:=hl i ys H hi p
 by_cases hlt:i < xs.length
 ·refine .inr ⟨⟨xs,xs[i],q,by simp [hlt]⟩,Pv (i + 1),fun ys' H' p'=>⟨xs.length - (i + 1),by omega,rfl,hlt,p'⟩,fun x H' y=>?_⟩
  obtain ⟨e,y⟩:=y
  subst e
  exact hs i x ys _ (y xs q) p
 ·have e:i=xs.length:=by omega
  subst e
  exact .inl ⟨⟨xs,q,Nat.le_refl _⟩,hd ys H p⟩
end
noncomputable def AY (K:PySem.W.Frag) (H:Hp) (x:V) (k:String):Prop:=match x with
 | .non=>k="NoneType"
 | .bl _=>k="bool"
 | .int _=>k="int"
 | .str _=>k="str"
 | .ref p=>(k="list"∧∃ xs,SqL K H p xs)∨(k="tuple"∧∃ xs,SqT K H p xs)∨(k="dict"∧∃ kvs,Rd H p (.dK kvs))
 | _=>False
noncomputable def subB (k T:String):Bool:=k == T||(k == "bool"&&T == "int")
noncomputable def rIsi (K:PySem.W.Frag):List V→Hp→VK→Prop:=fun xs H Q=>∃ x k T,xs=[x,.ty T]∧AY K H x k∧T∈["int","bool","str","list","tuple","dict"]∧Q (.bl (subB k T)) H
section
variable {X:Cx}
theorem De:jZ X (.builtin "isinstance") (rIsi X.K):=by
 intro pins s σ H xs us Q I r h
 obtain ⟨x,k,T,rfl,hk,hT,q⟩:=h
 obtain ⟨u,v,rfl,rx,rt⟩:=Hf r
 cases rt
 have f0:∀ b,b=subB k T→EP X pins σ Q (.bool b) s:=fun b e=>⟨.bl b,H,I,rfl,by rw [e];exact q⟩
 have f1:∀ b,b=subB k T→EP X pins σ Q (.bool b) {s with toks:=s.toks + 1}:=fun b e=>⟨.bl b,H,I.tok _,rfl,by rw [e];exact q⟩
 simp only [List.mem_cons,List.not_mem_nil,or_false] at hT
 cases x with
 | non=>
   cases rx;cases hk
   rcases hT with rfl | rfl | rfl | rfl | rfl | rfl
   ·exact IsiPair.NoneType_int (f1 _ (by decide))
   ·exact IsiPair.NoneType_bool (f1 _ (by decide))
   ·exact IsiPair.NoneType_str (f1 _ (by decide))
   ·exact IsiPair.NoneType_list (f1 _ (by decide))
   ·exact IsiPair.NoneType_tuple (f1 _ (by decide))
   ·exact IsiPair.NoneType_dict (f1 _ (by decide))
 | bl b=>
   cases rx;cases hk
   rcases hT with rfl | rfl | rfl | rfl | rfl | rfl
   ·exact IsiPair.bool_int (f0 _ (by decide))
   ·exact IsiPair.bool_bool (f0 _ (by decide))
   ·exact IsiPair.bool_str (f1 _ (by decide))
   ·exact IsiPair.bool_list (f1 _ (by decide))
   ·exact IsiPair.bool_tuple (f1 _ (by decide))
   ·exact IsiPair.bool_dict (f1 _ (by decide))
 | int i=>
   obtain ⟨t,rfl⟩:=rx;cases hk
   rcases hT with rfl | rfl | rfl | rfl | rfl | rfl
   ·exact IsiPair.int_int (f0 _ (by decide))
   ·exact IsiPair.int_bool (f1 _ (by decide))
   ·exact IsiPair.int_str (f1 _ (by decide))
   ·exact IsiPair.int_list (f1 _ (by decide))
   ·exact IsiPair.int_tuple (f1 _ (by decide))
   ·exact IsiPair.int_dict (f1 _ (by decide))
 | str z=>
   obtain ⟨t,rfl⟩:=rx;cases hk
   rcases hT with rfl | rfl | rfl | rfl | rfl | rfl
   ·exact IsiPair.str_int (f1 _ (by decide))
   ·exact IsiPair.str_bool (f1 _ (by decide))
   ·exact IsiPair.str_str (f0 _ (by decide))
   ·exact IsiPair.str_list (f1 _ (by decide))
   ·exact IsiPair.str_tuple (f1 _ (by decide))
   ·exact IsiPair.str_dict (f1 _ (by decide))
 | ref p=>
   cases rx
   rcases hk with ⟨rfl,xs,hq⟩ | ⟨rfl,xs,hq⟩ | ⟨rfl,kvs,hq⟩
   ·obtain ⟨its,_,pl,_⟩:=I.list hq
    obtain ⟨o,ho,hc,_⟩:=pl.isList
    rcases hT with rfl | rfl | rfl | rfl | rfl | rfl
    ·exact IsiPair.list_int ho hc (f1 _ (by decide))
    ·exact IsiPair.list_bool ho hc (f1 _ (by decide))
    ·exact IsiPair.list_str ho hc (f1 _ (by decide))
    ·exact IsiPair.list_list ho hc (f0 _ (by decide))
    ·exact IsiPair.list_tuple ho hc (f1 _ (by decide))
    ·exact IsiPair.list_dict ho hc (f1 _ (by decide))
   ·obtain ⟨its,_,pl,_⟩:=I.tuple hq
    obtain ⟨o,ho,hc,_⟩:=pl
    rcases hT with rfl | rfl | rfl | rfl | rfl | rfl
    ·exact IsiPair.tuple_int ho hc (f1 _ (by decide))
    ·exact IsiPair.tuple_bool ho hc (f1 _ (by decide))
    ·exact IsiPair.tuple_str ho hc (f1 _ (by decide))
    ·exact IsiPair.tuple_list ho hc (f1 _ (by decide))
    ·exact IsiPair.tuple_tuple ho hc (f0 _ (by decide))
    ·exact IsiPair.tuple_dict ho hc (f1 _ (by decide))
   ·obtain ⟨_,_,_,_,o,_,_,ho,ex,_⟩:=hq.ok I.hok
    have hc:o.cls= .type "dict":=ex.1
    rcases hT with rfl | rfl | rfl | rfl | rfl | rfl
    ·exact IsiPair.dict_int ho hc (f1 _ (by decide))
    ·exact IsiPair.dict_bool ho hc (f1 _ (by decide))
    ·exact IsiPair.dict_str ho hc (f1 _ (by decide))
    ·exact IsiPair.dict_list ho hc (f1 _ (by decide))
    ·exact IsiPair.dict_tuple ho hc (f1 _ (by decide))
    ·exact IsiPair.dict_dict ho hc (f0 _ (by decide))
 | _=>exact False.elim hk
theorem qo {xs:List V} {us:List Value} (r:Vals xs us) {j:Nat} (h:j < us.toArray.size):RelV (xs.getD j .non) (us.toArray[j]):=by
 have hl:=r.length
 have h':j < us.length:=by simpa using h
 obtain ⟨u,e,ru⟩:=r.get (i:=j) (x:=xs.getD j .non) (by rw [List.getD_eq_getElem?_getD,List.getElem?_eq_getElem (by omega)];rfl)
 have e2:us.toArray[j]=u:=by
  rw [List.getElem?_eq_getElem h'] at e
  have:=Option.some.inj e
  simpa using this
 rw [e2];exact ru
end
theorem AO:typeLookup (.type "list_reverseiterator") "__len__"=pure none:=by rw [typeLookup_type,builtinLookup_eq_fast];kernel_rfl
theorem C1:typeLookup (.type "list_reverseiterator") "__length_hint__"=pure (some (.builtin "list_reverseiterator.__length_hint__")):=by rw [typeLookup_type,builtinLookup_eq_fast];kernel_rfl
section
variable {P0:Program} {w0:World} {A0:Around} {E0':Value→Shared→Prop} {t0:Shared}
theorem zh {R:Result→Shared→Prop} {it l:Addr} {items:Array Value} (hh:A0.handled=none) (hne:l≠it) (hit:t0.heap.IsRevIter it l ((items.size:Int) - 1)) (hl:t0.heap.IsList l items) (hz:items.size≤sizeLine)
  (S:Addr) (res:Value) (c₀:Nat) (hS:t0.heap.get? S=some {cls:= .type "list",data:= .seq #[] c₀}) (hSi:S≠it) (hSl:S≠l)
  (hR:∀ h' tk acc' c',(∀ b o,b≠S→b≠it→t0.heap.get? b=some o→h'.get? b=some o)→h'.get? S=some {cls:= .type "list",dict:=none,data:= .seq acc' c',slots:=#[]}→
   ItemsOf (fun i v=>items[items.size - 1 - i]? =some v) acc' items.size→R (.ok (.ret res)) {t0 with heap:=h',toks:=tk}):
  wpAny (model P0 w0) A0.in1 (Builtin.List.listExtendWith (.ref S) (.ref it) res)
   (fun fin s'=>match fin with | .done f=>R (.ok f) s' | .again c'=>c'.quiet=true∧codeAny (model P0 w0) A0 c' R s') (fun e s'=>R (.error e) s') t0:=by
 have W:=(Walks.listRev (prog:=P0) (w:=w0) (A:=A0.in1) hh it l hne items).toS
 have st0:(0:Nat)≤items.size∧t0.heap.IsRevIter it l ((items.size:Int) - 1 - ((0:Nat):Int))∧t0.heap.IsList l items:=⟨Nat.zero_le _,by simpa using hit,hl⟩
 have h1:Builtin.List.listSameRef (.ref S) (.ref it)=false:=by simp [Builtin.List.listSameRef,hSi]
 have hSf:S∉[it,l]:=by simp [hSi,hSl]
 unfold Builtin.List.listExtendWith
 refine wpAny_bind (wpAny_typeOf hit.typeIs ?_)
 rw [if_neg (by rw [h1];decide)]
 refine wpAny_bind (wpAny_pyIter_revIter hit ?_)
 refine wpAny_bind (wpAny_holding ?_)
 unfold Builtin.List.listLengthHint
 refine wpAny_bind (wpAny_specialOf hit.typeIs AO ?_)
 show wpAny _ A0.in1 (specialOf (Value.ref it) (Str.ofString "__length_hint__") >>=_) _ _ _
 refine wpAny_bind (wpAny_specialOf hit.typeIs C1 ?_)
 (generalize hid:("list_reverseiterator.__length_hint__":String)=id0;wp_delta;rw [show splitId id0=some ("list_reverseiterator","__length_hint__") from by subst hid;decide +kernel];subst hid)
 refine wpAny_bind (wpAny_isInstance (b:=true) hit.typeIs (by rw [isSubtype_type];kernel_rfl) ?_)
 refine wpAny_pure ?_
 rw [if_neg (by decide)]
 refine wpAny_pure ⟨plainId_quiet F.plain_extend_loop _,codeAny_extend_loopS W hz S hSf res items.size 0 t0 #[] c₀ rfl (Nat.zero_le _) st0 hS (ItemsOf.nil _) fun s' acc' c' hm hS' hacc=>?_⟩
 rw [Moved.eq_with hm]
 refine hR s'.heap s'.toks acc' c' (fun b o hb hb2 e=>hm.heap b o (fun hmem=>?_) e) hS' hacc
 rcases List.mem_cons.mp hmem with z | z
 ·exact hb z
 ·exact hb2 (List.mem_singleton.mp z)
theorem C0 {R:Result→Shared→Prop} {it l:Addr} {items:Array Value} (hh:A0.handled=none) (hne:l≠it) (hit:t0.heap.IsRevIter it l ((items.size:Int) - 1)) (hl:t0.heap.IsList l items) (hz:items.size≤sizeLine)
  (S:Addr) (hS:t0.heap.get? S=some {cls:= .type "list",data:= .seq #[]}) (hSi:S≠it) (hSl:S≠l)
  (hR:∀ h' tk acc' c',(∀ b o,b≠S→b≠it→t0.heap.get? b=some o→h'.get? b=some o)→h'.get? S=some {cls:= .type "list",dict:=none,data:= .seq acc' c',slots:=#[]}→
   ItemsOf (fun i v=>items[items.size - 1 - i]? =some v) acc' items.size→R (.ok (.ret .none)) {t0 with heap:=h',toks:=tk}):
  wpAny (model P0 w0) A0.in1 (Builtin.«list.__init__» ⟨[.ref S,.ref it],[]⟩)
   (fun fin s'=>match fin with | .done f=>R (.ok f) s' | .again c'=>c'.quiet=true∧codeAny (model P0 w0) A0 c' R s') (fun e s'=>R (.error e) s') t0:=by
 show wpAny _ _ (do let old ← Builtin.List.listItems (.ref S);Builtin.List.listUpdate (.ref S) (fun _=>#[]);letGo old.toList.reverse;Builtin.List.listExtendWith (.ref S) (.ref it) .none) _ _ t0
 refine wpAny_bind ?_
 unfold Builtin.List.listItems
 refine wpAny_bind (wpAny_seqItems hS rfl (wpAny_pure ?_))
 show wpAny _ _ (updateSeq S (fun _=>#[]) >>=fun _=>letGo (#[]:Array Value).toList.reverse >>=fun _=>Builtin.List.listExtendWith (.ref S) (.ref it) .none) _ _ t0
 refine wpAny_bind (wpAny_updateSeq hS rfl ?_)
 have hS2:=Heap.get?_update_self (Obj.mapSeq (fun _=>(#[]:Array Value))) hS rfl
 have oth:∀ b o,b≠S→t0.heap.get? b=some o→(t0.heap.update S (Obj.mapSeq (fun _=>(#[]:Array Value)))).get? b=some o:=fun b o hb e=>(Heap.get?_update_other _ _ (Ne.symm hb)).trans e
 refine wpAny_bind (wpAny_letGo ?_)
 refine zh hh hne (hit.at fun o e=>oth it o (Ne.symm hSi) e) (let ⟨o,e,c⟩:=hl;⟨o,oth l o (Ne.symm hSl) e,c⟩) hz S .none _ hS2 hSi hSl fun h' tk acc' c' hk hS' hacc=>?_
 exact hR h' tk acc' c' (fun b o hb hb2 e=>hk b o hb hb2 (oth b o hb e)) hS' hacc
theorem rT {Q:Value→Shared→Prop} {it l:Addr} {items:Array Value} (hh:A0.handled=none) (hne:l≠it) (hit:t0.heap.IsRevIter it l ((items.size:Int) - 1)) (hl:t0.heap.IsList l items) (hz:items.size≤sizeLine)
  (hQ:∀ h' tk acc' c',(∀ b o,b≠it→t0.heap.get? b=some o→h'.get? b=some o)→h'.get? t0.heap.objs.size=some {cls:= .type "list",dict:=none,data:= .seq acc' c',slots:=#[]}→
   ItemsOf (fun i v=>items[items.size - 1 - i]? =some v) acc' items.size→Q (.ref t0.heap.objs.size) {t0 with heap:=h',toks:=tk}):
  wpAny (model P0 w0) A0 (call (.type "list") [.ref it]) Q E0' t0:=by
 have lt1:it < t0.heap.objs.size:=let ⟨o,e,_⟩:=hit;Heap.lt_size e
 have lt2:l < t0.heap.objs.size:=let ⟨o,e,_⟩:=hl;Heap.lt_size e
 refine callType_codes (Q₁:=fun obj s₁=>obj= .ref t0.heap.objs.size∧s₁={t0 with heap:=t0.heap.push {cls:= .type "list",data:= .seq #[]}}) F.called_list (F.typeCall_list_1 _) F.entry_list_init (code_list_new _ ⟨rfl,rfl⟩) fun obj s₁ h₁=>?_
 obtain ⟨rfl,rfl⟩:=h₁
 have hS:(t0.heap.push {cls:= .type "list",data:= .seq #[]}).get? t0.heap.objs.size=some {cls:= .type "list",data:= .seq #[]}:=Heap.get?_push_size _ rfl
 refine ⟨⟨_,hS,rfl⟩,F.args_list_init_2 _ _,C0 (A0:=A0.in1) hh hne (hit.at fun o e=>Heap.get?_push_of_some _ e) (let ⟨o,e,c⟩:=hl;⟨o,Heap.get?_push_of_some _ e,c⟩) hz _ hS (Ne.symm (Nat.ne_of_lt lt1)) (Ne.symm (Nat.ne_of_lt lt2)) fun h' tk acc' c' hk hS' hacc=>?_⟩
 exact ⟨rfl,hQ h' tk acc' c' (fun b o hb e=>hk b o (Nat.ne_of_lt (Heap.lt_size e)) hb (Heap.get?_push_of_some _ e)) hS' hacc⟩
end
theorem Inv.laidT {X:Cx} {pins:List (Addr×Obj)} {σ:St} {H:Hp} {s:Shared} {h':Heap} {a it:Addr} {o:HO} {t':Nat} (I:Inv X pins σ H s) (k:∀ b u,b≠it→s.heap.get? b=some u→h'.get? b=some u) (hp:s.heap.objs.size≤a)
  (new:dI X.prog X.w (upd H a o) h' a o) (fp:FpOk X pins H it):Inv X pins σ (upd H a o) {s with heap:=h',toks:=t'}:=by
 obtain ⟨f0,f1,f2,f3,f4,f5⟩:=fp
 have fr:H a=none:=I.hok.fresh hp
 have nit:∀ b u,H b=some u→b≠it:=fun b u e z=>by rw [z,f0] at e;cases e
 have nci:∀ {b:Addr},b∉[it]→b≠it:=fun hb z=>hb (by rw [z];exact List.mem_singleton.mpr rfl)
 refine I.step (g':=s.gens) (d':=s.drawn) (ch:=[it]) (fun b hb=>?_) (fun b ob _ _ hc e _=>k b ob (nci hc) e) (fun b ob _ _ hc e _=>⟨ob.slots,k b ob (nci hc) e⟩) (fun b ob _ e n=>?_) (fun b ob hc e=>⟨ob,k b ob (nci hc) e⟩)
  (fun b xs e=>by rw [aq (ah e fr)];exact e) (fun b ob u e=>by rw [aq (ah e fr)];exact e) (fun b ps e=>⟨#[],by rw [aq (ah e fr),e];simp⟩) (fun m hm=>?_) (fun b u e=>?_) I.bare
 ·have e:b=it:=List.mem_singleton.mp hb
  subst e
  exact ⟨f3,f1,f4,f5⟩
 ·rw [aq (Nat.ne_of_lt (Nat.lt_of_lt_of_le (Heap.lt_size e) hp))];exact n
 ·obtain ⟨ob,es,ep,ho,r⟩:=hm
  exact ⟨ob,es,ep,k _ ob (Ne.symm f1) ho,r⟩
 ·by_cases hb:b=a
  ·subst hb;rw [al] at e;cases e;exact new
  ·rw [aq hb] at e
   refine (I.hok b u e).stay (fun c v hc q=>k c v ?_ q) (fun c q=>by rw [aq (ah q fr)];exact q) fun c xs q=>by rw [aq (ah q fr)];exact q
   rcases hc with z | z
   ·rw [z];exact nit b u e
   ·exact nit c _ z
theorem Bc {its:List Value} {acc:Array Value} (h:ItemsOf (fun i v=>its.toArray[its.toArray.size - 1 - i]? =some v) acc its.toArray.size):acc=its.reverse.toArray:=by
 obtain ⟨h1,h2⟩:=h
 apply Array.ext_getElem?
 intro i
 have hs:its.toArray.size=its.length:=by simp
 by_cases hi:i < acc.size
 ·have e:=h2 i acc[i] (Array.getElem?_eq_getElem hi)
  rw [Array.getElem?_eq_getElem hi,← e]
  rw [List.getElem?_toArray,List.getElem?_toArray,List.getElem?_reverse (by omega),hs]
 ·rw [Array.getElem?_eq_none (by omega),Array.getElem?_eq_none (by simp;omega)]
noncomputable def tRev (K:PySem.W.Frag) (te:TE):TE:=fun σ H Q=>te σ H fun x H1=>∃ a xs,x= .ref a∧SqL K H1 a xs∧∀ l,H1 l=none→Q (.ref l) (upd H1 l (.lst xs.reverse))
section
variable {X:Cx}
theorem yv {e:Expr} {te:TE} {p1 p2 q1 q2:Pos} (g1:Gl X "list") (g2:Gl X "reversed") (n1:X.mg "list"=none) (n2:X.mg "reversed"=none) (hc:X.calm=true) (he:PE X e te)
  (h1:starEach [Expr.Call (.Name "reversed" p1) [e] [] p2] X.env=[(false,eval (.Call (.Name "reversed" p1) [e] [] p2) X.env)]:=by rfl) (h2:starEach [e] X.env=[(false,eval e X.env)]:=by rfl):
  PE X (.Call (.Name "list" q1) [.Call (.Name "reversed" p1) [e] [] p2] [] q2) (tRev X.K te):=by
 intro pins s σ H Q I h
 have inner:∀ Q':Value→Shared→Prop,(∀ v s1,(∃ a xs its H1 r,v= .ref r∧SqL X.K H1 a xs∧Vals xs its∧a≠r∧Inv X pins σ H1 s1∧s1.heap.IsRevIter r a ((its.toArray.size:Int) - 1)∧s1.heap.IsList a its.toArray∧its.length≤sizeLine∧H1 r=none∧FpOk X pins H1 r∧(∀ l,H1 l=none→Q (.ref l) (upd H1 l (.lst xs.reverse))))→Q' v s1)→
   wpAny (model X.prog X.w) X.A (eval (.Call (.Name "reversed" p1) [e] [] p2) X.env) Q' X.xe s:=fun Q' hQ'=>by
  refine Call_ (k8 I g2 n2 PyProof.Rows.boot_reversed (PyProof.Rows.callWith_type1 (thn (aa he ae h2 p2 pins s σ H (fun vs H1=>match vs with | [x]=>∃ a xs,x= .ref a∧SqL X.K H1 a xs∧∀ l,H1 l=none→Q (.ref l) (upd H1 l (.lst xs.reverse)) | _=>False) I h) fun us s1 ⟨vs,H1,I1,r1,q1⟩=>?_) h2 rfl))
  match vs,r1,q1 with
  | [x],r1,⟨a,xs,e1,hq,q⟩=>
  obtain ⟨u,rfl,ru⟩:=r1.one
  subst e1
  cases ru
  obtain ⟨its,rv,pl,hz⟩:=I1.list hq
  have lt:a < s1.heap.objs.size:=let ⟨o,e,_⟩:=pl.isList;Heap.lt_size e
  refine call_reversed_list pl.isList (hQ' _ _ ⟨a,xs,its,H1,s1.heap.objs.size,rfl,hq,rv,Nat.ne_of_lt lt,I1.kept (t':=s1.toks) fun b o e=>Heap.get?_push_of_some _ e,⟨_,Heap.get?_push_size _ rfl,rfl,rfl⟩,let ⟨o,e,c⟩:=pl.isList;⟨o,Heap.get?_push_of_some _ e,c⟩,by rw [← rv.length];exact hz,I1.fresh,I1.fpOk (Nat.le_refl _) I1.fresh,q⟩)
 refine Call_ (k8 I g1 n1 PyProof.Rows.boot_list (PyProof.Rows.callWith_type1 (Q:=EP X pins σ Q) ?_ h1 rfl))
 rw [h1]
 show wpAny _ _ (spliced ((false,eval (.Call (.Name "reversed" p1) [e] [] p2) X.env)::backTo q2 [])) _ _ s
 refine Calls.spliced_cons (inner _ fun v s1 hv=>Calls.spliced_nil ?_)
 obtain ⟨a,xs,its,H1,r,rfl,hq,rv,hne,I1,hit,hl,hz,hf,fp,q⟩:=hv
 refine rT (I1.ok.hd hc) hne hit hl (by simpa using hz) fun h' tk acc c hk hS hacc=>?_
 have e:=Bc hacc
 subst e
 exact ⟨.ref s1.heap.objs.size,upd H1 s1.heap.objs.size (.lst xs.reverse),I1.laidT hk (Nat.le_refl _) ⟨by rw [List.length_reverse,rv.length];exact hz,its.reverse,c,rv.reverse,hS⟩ fp,rfl,q _ I1.fresh⟩
end
section
variable {X:Cx} {K:PySem.W.Frag}
theorem aO (h:X.K=K):IxR X (rIxL K):=by subst h;exact ET
theorem bW (h:X.K=K):IxR X (rIxT K):=by subst h;exact GG
theorem mB (h:X.K=K):SlR X (rSlL K):=by subst h;exact Eg
theorem uv (h:X.K=K):jZ X (.builtin "isinstance") (rIsi K):=by subst h;exact De
noncomputable def rLen (K:PySem.W.Frag):List V→Hp→VK→Prop:=fun xs H Q=>∃ x n,xs=[x]∧LenV K x H n∧Q (.int n) H
theorem aN (h:X.K=K):jZ X (.builtin "len") (rLen K):=by subst h;exact Dd
noncomputable def vf (K:PySem.W.Frag):List V→Hp→VK→Prop:=fun xs H Q=>∃ p ys,xs=[.ref p]∧(SqL K H p ys∨SqT K H p ys)∧∀ l,H l=none→Q (.ref l) (upd H l (.lst ys))
theorem bQ (h:X.K=K):jZ X (.type "list") (vf K):=by subst h;exact uu
noncomputable def Au (K:PySem.W.Frag):List V→Hp→VK→Prop:=fun xs H Q=>∃ p ys,xs=[.ref p]∧((SqL K H p ys∧∀ l,H l=none→Q (.ref l) (upd H l (.tup ys)))∨(SqT K H p ys∧Q (.ref p) H))
theorem cc (h:X.K=K):jZ X (.type "tuple") (Au K):=by subst h;exact rS
theorem aG {tg l:Expr} {tl:TE} (h:X.K=K) (hl:PE X l tl):PI X tg l (EV K tl):=by subst h;exact EB hl
theorem j9 {tg l:Expr} {tl:TE} (h:X.K=K) (hl:PE X l tl):PI X tg l (iTup K tl):=by subst h;exact Gh hl
theorem cB {o e:Expr} {es:List Expr} {to:TE} {t:TA} {name:Str} {apos cpos:Pos} {T id:String} {r:V→List V→Hp→VK→Prop} (h:X.K=K) (pa:PlainAttrs T) (slot:Slot T name id) (hty:typeOf (.builtin id)=pure (.type "method_descriptor")) (hm:MtR X id r) (ho:PE X o to) (ha:PA X (e::es) t)
  (hbase:attributeBase o name X.env (eval o X.env)=eval o X.env:=by rfl)
  (hfew:((backTo cpos (starEach (e::es) X.env)).all (fun x=> !x.1)&&(backToKw cpos (keywordEach [] X.env)).all (fun x=>x.1.isSome)
   &&decide ((e::es).length + ([]:List Keyword).length + (if ([]:List Keyword).isEmpty then 0 else 1) < 30))=true:=by rfl)
  (hline:(apos.endLine == cpos.line)=true:=by rfl) (hs:starEach (e::es) X.env=(false,eval e X.env)::starEach es X.env:=by rfl) (hplain:(backTo cpos (starEach es X.env)).any (·.1)=false:=by rfl):
  PE X (.Call (.Attribute o name apos) (e::es) [] cpos) (tBM K T r to t):=by subst h;exact HD pa slot hty hm ho ha hbase hfew hline hs hplain
end
noncomputable def Its (x:Str):It:=⟨fun i _=>i < x.cps.size,fun i H v H'=>H'=H∧∃ c,x.cps[i]? =some c∧v= .str ⟨#[c]⟩,fun i _=>i=x.cps.size⟩
theorem xt {P:Program} {w:World} {K:PySem.W.Frag} {tg:Expr} {it:Addr} {x:Str} {t:Tok} {n:String}
  (hn:["enumerate","zip","dict_itemiterator","dict_reverseitemiterator","odict_iterator","itertools.zip_longest","itertools.pairwise"].contains n=false)
  (W:∀ A:Around,A.handled=none→Walks P w A it [it] [it] x.cps.size (SignAt x) (fun i h=>h.IsStrIter it n x t i))
  (hself:∀ (A:Around) (i:Nat) (s:Shared) (Q:Value→Shared→Prop) (E:Value→Shared→Prop),s.heap.IsStrIter it n x t i→Q (.ref it) s→wpAny (model P w) A (pyIter (.ref it)) Q E s):
  Turn P w K tg (Its x) [it] it (fun i h=>h.IsStrIter it n x t i) where
 mem:=by simp
 obj:=fun i h st b hb=>by
  have e:b=it:=by simpa using hb
  subst e
  obtain ⟨o,e,c,d⟩:=st
  exact ⟨o,e,fun v z=>by rw [d] at z;cases z⟩
 keep:=fun i h h' st k=>let ⟨o,e,r⟩:=st;⟨o,k it (by simp) o e,r⟩
 item:=by
  intro X hP hw hK hc i pins s σ H E I hf st hg
  subst hP hw hK
  obtain ⟨f0,f1,f2,f3,f4,f5⟩:=hf it (by simp)
  refine (W X.A (I.ok.hd hc)).item i s _ _ hg st fun v h' tk hv st' kk=>?_
  obtain ⟨c,u,hx,rfl⟩:=hv
  have I1:Inv X pins σ H {s with heap:=h',toks:=tk}:=I.turned (fun b o hb e=>kk b o (by simpa using hb) e) f0 f1 f3 f4 f5
  obtain ⟨o,e,c',d⟩:=id st'
  exact ⟨_,rfl,C3 (s:={s with heap:=h',toks:=tk}) (n:=n) e c' d hn ⟨.str ⟨#[c]⟩,H,I1,⟨u,rfl⟩,⟨rfl,c,hx,rfl⟩,st',fun b hb=>(hf b hb).1⟩⟩
 done:=by
  intro X hP hw hK hc i pins s σ H E I hf st hg
  subst hP hw hK
  obtain ⟨f0,f1,f2,f3,f4,f5⟩:=hf it (by simp)
  have hg:i=x.cps.size:=hg
  subst hg
  exact (W X.A (I.ok.hd hc)).done s _ _ st fun h' tk kk=>⟨rfl,I.turned (fun b o hb e=>kk b o (by simpa using hb) e) f0 f1 f3 f4 f5⟩
 self:=hself
noncomputable def iStr (tl:TE):TI:=fun σ H R=>tl σ H fun x H1=>∃ z,x= .str z∧R (Its z) H1
section
variable {X:Cx} {tg:Expr}
theorem Gi {l:Expr} {tl:TE} (hl:PE X l tl):PI X tg l (iStr tl):=by
 intro pins s σ H R I h
 refine thn (hl pins s σ H _ I h) fun v s1 ⟨x,H1,I1,r1,q1⟩=>?_
 obtain ⟨z,e,q⟩:=q1
 subst e
 obtain ⟨t,rfl⟩:=r1
 have fp:∀ (o:Obj),∀ b∈[s1.heap.objs.size],FpOk X pins H1 b:=fun o b hb=>by
  have e:b=s1.heap.objs.size:=by simpa using hb
  subst e
  exact I1.fpOk (Nat.le_refl _) (I1.hok.fresh (Nat.le_refl _))
 cases ha:z.cps.all (· < 128)
 ·refine wpAny_pyIter_wide ha ⟨s1.heap.objs.size,[s1.heap.objs.size],_,_,H1,rfl,I1.kept (t':=s1.toks) fun b o e=>Heap.get?_push_of_some _ e,
   xt (n:="str_iterator") (t:=t) (by decide) (fun A hA=>Walks.strWide hA _ z t) (fun _ _ _ _ _ st h=>wpAny_pyIter_striter_wide st h),⟨_,Heap.get?_push_size _ rfl,rfl,rfl⟩,fp default,q⟩
 ·refine wpAny_pyIter_ascii ha ⟨s1.heap.objs.size,[s1.heap.objs.size],_,_,H1,rfl,I1.kept (t':=s1.toks) fun b o e=>Heap.get?_push_of_some _ e,
   xt (n:="str_ascii_iterator") (t:=t) (by decide) (fun A hA=>Walks.strAscii hA _ z t) (fun _ _ _ _ _ st h=>wpAny_pyIter_striter_ascii st h),⟨_,Heap.get?_push_size _ rfl,rfl,rfl⟩,fp default,q⟩
end
section
variable {n:Nat} {fx:List Nat} {g:TG} {tc:TT} {te:TE} {σ:St} {H1:Hp} {D:Addr} {Q:Hp→Prop}
theorem Da {z:Str} (Pv:Nat→List V→Hp→Prop) (h0:Pv 0 [] (upd H1 D (.lst [])))
  (hs:∀ i c ys H,z.cps[i]? =some c→Pv i ys H→g (.str ⟨#[c]⟩) (bH n fx σ) H fun σ4 H4=>tc σ4 H4 fun b H5=>if b=true then te σ4 H5 fun v H6=>H6 D=some (.lst ys)∧ys.length < sizeLine∧Pv (i + 1) (ys++[v]) (upd H6 D (.lst (ys++[v]))) else Pv (i + 1) ys H5)
  (hd:∀ ys H,Pv z.cps.size ys H→Q H):
  ∃ W:Nat→Nat→List V→Hp→Prop,(∃ m,W 0 m [] (upd H1 D (.lst [])))∧∀ i m ys H2,W i m ys H2→((Its z).stop i H2∧Q H2)∨
    ((Its z).go i H2∧∃ N:List V→Hp→Prop,(∀ ys' H',N ys' H'→∃ m',m' < m∧W (i + 1) m' ys' H')∧∀ x H3,(Its z).yld i H2 x H3→g x (bH n fx σ) H3 fun σ4 H4=>tc σ4 H4 fun b H5=>
      if b=true then te σ4 H5 fun v H6=>H6 D=some (.lst ys)∧ys.length < sizeLine∧N (ys++[v]) (upd H6 D (.lst (ys++[v]))) else N ys H5):=by
 refine ⟨fun i m ys H=>m=z.cps.size - i∧i≤z.cps.size∧Pv i ys H,⟨z.cps.size,by simp,Nat.zero_le _,h0⟩,?_⟩
 rintro i m ys H ⟨rfl,hi,p⟩
 by_cases hlt:i < z.cps.size
 ·refine .inr ⟨hlt,Pv (i + 1),fun ys' H' p'=>⟨z.cps.size - (i + 1),by omega,rfl,hlt,p'⟩,fun x H' y=>?_⟩
  obtain ⟨e,c,hc,y⟩:=y
  subst e;subst y
  exact hs i c ys _ hc p
 ·have e:i=z.cps.size:=by omega
  subst e
  exact .inl ⟨rfl,hd ys H p⟩
end
theorem yb {ns:List Str}:∀ {us:List Value},Vals (ns.map V.str) us→StrsAre us ns:=by
 induction ns with
 | nil=>intro us r;rw [List.map_nil] at r;cases r;exact .nil
 | cons n ns ih=>
   intro us r
   rw [List.map_cons] at r
   cases r with
   | cons r1 r2=>
     obtain ⟨t,e⟩:=r1
     subst e
     exact .cons n t (ih r2)
noncomputable def F9 (K:PySem.W.Frag):V→List V→Hp→VK→Prop:=fun x xs H Q=>∃ z D ys,x= .str z∧xs=[.ref D]∧SqL K H D (ys.map V.str)∧(ys.map (·.length)).sum + ys.length * z.length≤16777216∧Q (.str (Txt.join z ys)) H
noncomputable def Gb (K:PySem.W.Frag):List V→Hp→VK→Prop:=fun xs H Q=>∃ (a:Addr) (bs:List Bool),xs=[.ref a]∧SqL K H a (bs.map V.bl)∧Q (.bl (bs.all id)) H
noncomputable def Ga (K:PySem.W.Frag):List V→Hp→VK→Prop:=fun xs H Q=>∃ (a:Addr) (bs:List Bool),xs=[.ref a]∧SqL K H a (bs.map V.bl)∧Q (.bl (bs.any id)) H
section
variable {X:Cx} {K:PySem.W.Frag}
theorem jI (h:X.K=K):MtR X "str.join" (F9 K):=by
 subst h
 intro pins s σ H x xs v us Q I rx rs h
 obtain ⟨z,D,ys,rfl,rfl,hq,hz,q⟩:=h
 obtain ⟨t,rfl⟩:=rx
 obtain ⟨u,rfl,ru⟩:=qp rs
 cases ru
 obtain ⟨its,rv,pl,_⟩:=I.list hq
 exact join_list pl.isList (yb (by simpa using rv)) hz fun t' k=>⟨.str (Txt.join z ys),H,I.tok k,⟨t',rfl⟩,q⟩
theorem BD {bs:List Bool} {its:List Value} (rv:Vals (bs.map V.bl) its) {i:Nat} {v:Value} (h:its.toArray[i]? =some v):v= .bool (bs.getD i false):=by
 have h':its[i]? =some v:=by simpa using h
 have hi:i < its.length:=(List.getElem?_eq_some_iff.mp h').1
 have hl:=rv.length
 rw [List.length_map] at hl
 obtain ⟨u,e,r⟩:=rv.get (i:=i) (x:= .bl (bs.getD i false)) (by rw [List.getElem?_map,List.getElem?_eq_getElem (by omega),List.getD_eq_getElem?_getD,List.getElem?_eq_getElem (by omega)];rfl)
 rw [h'] at e
 cases e
 exact r
theorem GX (bs:List Bool):(List.range bs.length).all (fun i=>bs.getD i false)=bs.all id:=by
 rw [Bool.eq_iff_iff,List.all_eq_true,List.all_eq_true]
 constructor
 ·intro h x hx
  obtain ⟨i,hi,e⟩:=List.mem_iff_getElem.mp hx
  have:=h i (List.mem_range.mpr hi)
  rw [List.getD_eq_getElem?_getD,List.getElem?_eq_getElem hi,e] at this
  exact this
 ·intro h i hi
  have hi:=List.mem_range.mp hi
  rw [List.getD_eq_getElem?_getD,List.getElem?_eq_getElem hi]
  exact h _ (List.getElem_mem hi)
theorem GV (bs:List Bool):(List.range bs.length).any (fun i=>bs.getD i false)=bs.any id:=by
 rw [Bool.eq_iff_iff,List.any_eq_true,List.any_eq_true]
 constructor
 ·rintro ⟨i,hi,h⟩
  have hi:=List.mem_range.mp hi
  rw [List.getD_eq_getElem?_getD,List.getElem?_eq_getElem hi] at h
  exact ⟨_,List.getElem_mem hi,h⟩
 ·rintro ⟨x,hx,h⟩
  obtain ⟨i,hi,e⟩:=List.mem_iff_getElem.mp hx
  refine ⟨i,List.mem_range.mpr hi,?_⟩
  rw [List.getD_eq_getElem?_getD,List.getElem?_eq_getElem hi,e]
  exact h
theorem ux (h:X.K=K) (hc:X.calm=true):jZ X (.builtin "all") (Gb K):=by
 subst h
 intro pins s σ H xs us Q I r h
 obtain ⟨a,bs,rfl,hq,q⟩:=h
 obtain ⟨u,rfl,ru⟩:=qp r
 cases ru
 obtain ⟨its,rv,pl,hz⟩:=I.list hq
 have lt:a < s.heap.objs.size:=let ⟨o,e,_⟩:=pl.isList;Heap.lt_size e
 have hl:its.toArray.size=bs.length:=by have:=rv.length;rw [List.length_map] at this;simp [this]
 refine call_all_walk (wpAny_pyIter_list pl.isList ⟨s.heap.objs.size,_,_,its.toArray.size,_,_,fun i=>bs.getD i false,rfl,Walks.list (A:=X.A.in1) (I.ok.hd hc) s.heap.objs.size a (Nat.ne_of_lt lt) its.toArray,⟨⟨_,Heap.get?_push_size _ rfl,rfl,rfl⟩,let ⟨o,e,c⟩:=pl.isList;⟨o,Heap.get?_push_of_some _ e,c⟩⟩,fun i v s Q E hv hQ=>by rw [BD rv hv];exact wpAny_truthy_bool hQ,fun h' tk kk=>?_⟩)
 rw [hl,GX]
 exact ⟨.bl _,H,I.kept (fun b o e=>kk b o (fun hm=>by have:=Heap.lt_size e;rw [List.mem_singleton.mp hm] at this;exact absurd this (Nat.lt_irrefl _)) (Heap.get?_push_of_some _ e)),rfl,q⟩
theorem uw (h:X.K=K) (hc:X.calm=true):jZ X (.builtin "any") (Ga K):=by
 subst h
 intro pins s σ H xs us Q I r h
 obtain ⟨a,bs,rfl,hq,q⟩:=h
 obtain ⟨u,rfl,ru⟩:=qp r
 cases ru
 obtain ⟨its,rv,pl,hz⟩:=I.list hq
 have lt:a < s.heap.objs.size:=let ⟨o,e,_⟩:=pl.isList;Heap.lt_size e
 have hl:its.toArray.size=bs.length:=by have:=rv.length;rw [List.length_map] at this;simp [this]
 refine call_any_walk (wpAny_pyIter_list pl.isList ⟨s.heap.objs.size,_,_,its.toArray.size,_,_,fun i=>bs.getD i false,rfl,Walks.list (A:=X.A.in1) (I.ok.hd hc) s.heap.objs.size a (Nat.ne_of_lt lt) its.toArray,⟨⟨_,Heap.get?_push_size _ rfl,rfl,rfl⟩,let ⟨o,e,c⟩:=pl.isList;⟨o,Heap.get?_push_of_some _ e,c⟩⟩,fun i v s Q E hv hQ=>by rw [BD rv hv];exact wpAny_truthy_bool hQ,fun h' tk kk=>?_⟩)
 rw [hl,GV]
 exact ⟨.bl _,H,I.kept (fun b o e=>kk b o (fun hm=>by have:=Heap.lt_size e;rw [List.mem_singleton.mp hm] at this;exact absurd this (Nat.lt_irrefl _)) (Heap.get?_push_of_some _ e)),rfl,q⟩
end
inductive Dt where
 | non | bl (b:Bool) | int (i:Int) | str (x:Str) | lst (xs:List Dt) | tup (xs:List Dt)
inductive Rep (K:PySem.W.Frag) (H:Hp):V→Dt→Prop where
 | non:Rep K H .non .non
 | bl (b:Bool):Rep K H (.bl b) (.bl b)
 | int (i:Int):Rep K H (.int i) (.int i)
 | str (x:Str):Rep K H (.str x) (.str x)
 | lst {p:Addr} {xs:List V} {ds:List Dt} (h:SqL K H p xs) (l:xs.length=ds.length) (r:∀ (i:Nat) x d,xs[i]? =some x→ds[i]? =some d→Rep K H x d):Rep K H (.ref p) (.lst ds)
 | tup {p:Addr} {xs:List V} {ds:List Dt} (h:SqT K H p xs) (l:xs.length=ds.length) (r:∀ (i:Nat) x d,xs[i]? =some x→ds[i]? =some d→Rep K H x d):Rep K H (.ref p) (.tup ds)
mutual
noncomputable def eqD:Dt→Dt→Bool
 | .non,.non=>true
 | .bl a,.bl b=>a == b
 | .bl a,.int b=>(if a then 1 else 0) == b
 | .int a,.bl b=>a == (if b then 1 else 0)
 | .int a,.int b=>a == b
 | .str a,.str b=>a == b
 | .lst xs,.lst ys=>eqDs xs ys
 | .tup xs,.tup ys=>eqDs xs ys
 | _,_=>false
noncomputable def eqDs:List Dt→List Dt→Bool
 | [],[]=>true
 | x::xs,y::ys=>eqD x y&&eqDs xs ys
 | _,_=>false
end
mutual
noncomputable def depD:Dt→Nat
 | .lst xs=>dM xs + 1
 | .tup xs=>dM xs + 1
 | _=>0
noncomputable def dM:List Dt→Nat
 | []=>0
 | x::xs=>max (depD x) (dM xs)
end
theorem Br {ds:List Dt} {d:Dt} (h:d∈ds):depD d≤dM ds:=by
 induction ds with
 | nil=>cases h
 | cons x xs ih=>
   rw [dM]
   rcases List.mem_cons.mp h with rfl | h
   ·omega
   ·have:=ih h;omega
theorem rJ:∀ {xs ys:List Dt},xs.length≠ys.length→eqDs xs ys=false
 | [],[],h=>absurd rfl h
 | [],_::_,_=>rfl
 | _::_,[],_=>rfl
 | x::xs,y::ys,h=>by rw [eqDs,rJ (fun z=>h (by simp [z])),Bool.and_false]
theorem rK:∀ {xs ys:List Dt},xs.length=ys.length→eqDs xs ys=(List.range xs.length).all fun i=>eqD (xs.getD i .non) (ys.getD i .non)
 | [],[],_=>rfl
 | [],_::_,h=>by cases h
 | _::_,[],h=>by cases h
 | x::xs,y::ys,h=>by
   rw [eqDs,rK (by simpa using h),List.length_cons,List.range_succ_eq_map,List.all_cons,List.all_map]
   rfl
theorem xJ:∀ d:Dt,eqD d d=true:=by
 intro d
 refine Dt.rec (motive_1:=fun d=>eqD d d=true) (motive_2:=fun ds=>eqDs ds ds=true) ?_ ?_ ?_ ?_ ?_ ?_ ?_ ?_ d
 ·rfl
 ·intro b;simp [eqD]
 ·intro b;simp [eqD]
 ·intro b;simp [eqD]
 ·intro xs h;rw [eqD];exact h
 ·intro xs h;rw [eqD];exact h
 ·rfl
 ·intro x xs h1 h2;rw [eqDs,h1,h2];rfl
theorem DO:∀ {d e:Dt},d=e→eqD d e=true:=fun h=>by subst h;exact xJ _
section
variable {X:Cx} {pins:List (Addr×Obj)} {σ:St} {H:Hp} {s:Shared}
theorem Inv.notBoth (I:Inv X pins σ H s) {p:Addr} {xs ys:List V} (h1:SqL X.K H p xs) (h2:SqT X.K H p ys):False:=by
 obtain ⟨_,_,pl,_⟩:=I.list h1
 obtain ⟨_,_,⟨o,ho,hc,_⟩,_⟩:=I.tuple h2
 obtain ⟨o',n,ho',hc',_⟩:=pl
 rw [ho] at ho';cases ho'
 rw [hc] at hc'
 exact absurd hc' (by decide)
theorem Rep.fun (I:Inv X pins σ H s) {x:V} {d:Dt} (r:Rep X.K H x d):∀ {e:Dt},Rep X.K H x e→d=e:=by
 induction r with
 | non=>intro e q;cases q;rfl
 | bl b=>intro e q;cases q;rfl
 | int i=>intro e q;cases q;rfl
 | str z=>intro e q;cases q;rfl
 | lst h l r ih=>
   intro e q
   cases q with
   | lst h' l' r'=>
     have ex:=I.list_inj h h'
     subst ex
     congr 1
     refine List.ext_getElem? fun i=>?_
     rename_i xs ds ds'
     by_cases hi:i < ds.length
     ·rw [List.getElem?_eq_getElem hi,List.getElem?_eq_getElem (by omega)]
      have hx:i < xs.length:=by omega
      rw [ih i _ _ (List.getElem?_eq_getElem hx) (List.getElem?_eq_getElem hi) (r' i _ _ (List.getElem?_eq_getElem hx) (List.getElem?_eq_getElem (by omega)))]
     ·rw [List.getElem?_eq_none (by omega),List.getElem?_eq_none (by omega)]
   | tup h' l' r'=>exact (I.notBoth h h').elim
 | tup h l r ih=>
   intro e q
   cases q with
   | tup h' l' r'=>
     have ex:=I.tuple_inj h h'
     subst ex
     congr 1
     refine List.ext_getElem? fun i=>?_
     rename_i xs ds ds'
     by_cases hi:i < ds.length
     ·rw [List.getElem?_eq_getElem hi,List.getElem?_eq_getElem (by omega)]
      have hx:i < xs.length:=by omega
      rw [ih i _ _ (List.getElem?_eq_getElem hx) (List.getElem?_eq_getElem hi) (r' i _ _ (List.getElem?_eq_getElem hx) (List.getElem?_eq_getElem (by omega)))]
     ·rw [List.getElem?_eq_none (by omega),List.getElem?_eq_none (by omega)]
   | lst h' l' r'=>exact (I.notBoth h' h).elim
open SeqAt in
theorem rc_D (I:Inv X pins σ H s) {x:V} {d:Dt} (r:Rep X.K H x d):∀ {A:Around} {e:Dt} {y:V} {u v:Value} (n:Nat),Rep X.K H y e→RelV x u→RelV y v→depD d≤n→A.units + n < cLine→
  EqAt A s u v (eqD d e)∧RcAt A s u v (eqD d e)∧RcNeAt A s u v (!eqD d e):=by
 induction r with
 | non=>
   intro A e y u v n q ru rv hd hu
   cases ru
   cases q with
   | non=>cases rv;exact ⟨EqAt.same _,RcAt.none_none,RcNeAt.none_none⟩
   | bl b=>cases rv;exact ⟨EqAt.none_bool b,RcAt.none_bool b,RcNeAt.none_bool b⟩
   | int b=>obtain ⟨t,rfl⟩:=rv;exact ⟨EqAt.none_int b t,RcAt.none_int b t,RcNeAt.none_int b t⟩
   | str b=>obtain ⟨t,rfl⟩:=rv;exact ⟨EqAt.none_str b t,RcAt.none_str b t,RcNeAt.none_str b t⟩
   | lst h l r=>cases rv;obtain ⟨_,_,pl,_⟩:=I.list h;exact ⟨EqAt.none_list pl.isList (by omega),RcAt.none_list pl.isList (by omega),RcNeAt.none_list pl.isList (by omega)⟩
   | tup h l r=>cases rv;obtain ⟨_,_,pl,_⟩:=I.tuple h;exact ⟨EqAt.none_tuple pl (by omega),RcAt.none_tuple pl (by omega),RcNeAt.none_tuple pl (by omega)⟩
 | bl a=>
   intro A e y u v n q ru rv hd hu
   cases ru
   cases q with
   | non=>cases rv;exact ⟨EqAt.bool_none a,RcAt.bool_none a,RcNeAt.bool_none a⟩
   | bl b=>cases rv;exact ⟨EqAt.bool_bool a b,RcAt.bool_bool a b,RcNeAt.bool_bool a b⟩
   | int b=>obtain ⟨t,rfl⟩:=rv;exact ⟨EqAt.bool_int a b t,RcAt.bool_int a b t,RcNeAt.bool_int a b t⟩
   | str b=>obtain ⟨t,rfl⟩:=rv;exact ⟨EqAt.bool_str a b t,RcAt.bool_str a b t,RcNeAt.bool_str a b t⟩
   | lst h l r=>cases rv;obtain ⟨_,_,pl,_⟩:=I.list h;exact ⟨EqAt.bool_list a pl.isList (by omega),RcAt.bool_list a pl.isList (by omega),RcNeAt.bool_list a pl.isList (by omega)⟩
   | tup h l r=>cases rv;obtain ⟨_,_,pl,_⟩:=I.tuple h;exact ⟨EqAt.bool_tuple a pl (by omega),RcAt.bool_tuple a pl (by omega),RcNeAt.bool_tuple a pl (by omega)⟩
 | int a=>
   intro A e y u v n q ru rv hd hu
   obtain ⟨t',rfl⟩:=ru
   cases q with
   | non=>cases rv;exact ⟨EqAt.int_none a t',RcAt.int_none a t',RcNeAt.int_none a t'⟩
   | bl b=>cases rv;exact ⟨EqAt.int_bool a t' b,RcAt.int_bool a t' b,RcNeAt.int_bool a t' b⟩
   | int b=>obtain ⟨t,rfl⟩:=rv;exact ⟨EqAt.int_int a t' b t,RcAt.int_int a t' b t,RcNeAt.int_int a t' b t⟩
   | str b=>obtain ⟨t,rfl⟩:=rv;exact ⟨EqAt.int_str a t' b t,RcAt.int_str a t' b t,RcNeAt.int_str a t' b t⟩
   | lst h l r=>cases rv;obtain ⟨_,_,pl,_⟩:=I.list h;exact ⟨EqAt.int_list a t' pl.isList (by omega),RcAt.int_list a t' pl.isList (by omega),RcNeAt.int_list a t' pl.isList (by omega)⟩
   | tup h l r=>cases rv;obtain ⟨_,_,pl,_⟩:=I.tuple h;exact ⟨EqAt.int_tuple a t' pl (by omega),RcAt.int_tuple a t' pl (by omega),RcNeAt.int_tuple a t' pl (by omega)⟩
 | str a=>
   intro A e y u v n q ru rv hd hu
   obtain ⟨t',rfl⟩:=ru
   cases q with
   | non=>cases rv;exact ⟨EqAt.str_none a t',RcAt.str_none a t',RcNeAt.str_none a t'⟩
   | bl b=>cases rv;exact ⟨EqAt.str_bool a t' b,RcAt.str_bool a t' b,RcNeAt.str_bool a t' b⟩
   | int b=>obtain ⟨t,rfl⟩:=rv;exact ⟨EqAt.str_int a t' b t,RcAt.str_int a t' b t,RcNeAt.str_int a t' b t⟩
   | str b=>obtain ⟨t,rfl⟩:=rv;exact ⟨EqAt.str_str a t' b t,RcAt.str_str a t' b t,RcNeAt.str_str a t' b t⟩
   | lst h l r=>cases rv;obtain ⟨_,_,pl,_⟩:=I.list h;exact ⟨EqAt.str_list a t' pl.isList (by omega),RcAt.str_list a t' pl.isList (by omega),RcNeAt.str_list a t' pl.isList (by omega)⟩
   | tup h l r=>cases rv;obtain ⟨_,_,pl,_⟩:=I.tuple h;exact ⟨EqAt.str_tuple a t' pl (by omega),RcAt.str_tuple a t' pl (by omega),RcNeAt.str_tuple a t' pl (by omega)⟩
 | @lst p xs ds h l r ih=>
   intro A e y u v n q ru rv hd hu
   cases ru
   obtain ⟨its,rw1,pl,_⟩:=I.list h
   rw [depD] at hd
   cases q with
   | non=>cases rv;exact ⟨EqAt.list_none pl.isList (by omega),RcAt.list_none pl.isList (by omega),RcNeAt.list_none pl.isList (by omega)⟩
   | bl b=>cases rv;exact ⟨EqAt.list_bool b pl.isList (by omega),RcAt.list_bool b pl.isList (by omega),RcNeAt.list_bool b pl.isList (by omega)⟩
   | int b=>obtain ⟨t,rfl⟩:=rv;exact ⟨EqAt.list_int b t pl.isList (by omega),RcAt.list_int b t pl.isList (by omega),RcNeAt.list_int b t pl.isList (by omega)⟩
   | str b=>obtain ⟨t,rfl⟩:=rv;exact ⟨EqAt.list_str b t pl.isList (by omega),RcAt.list_str b t pl.isList (by omega),RcNeAt.list_str b t pl.isList (by omega)⟩
   | tup h' l' r'=>
     cases rv;obtain ⟨_,_,pl',_⟩:=I.tuple h'
     exact ⟨EqAt.list_tuple pl.isList pl' (by omega),RcAt.list_tuple pl.isList pl' (by omega),RcNeAt.list_tuple pl.isList pl' (by omega)⟩
   | @lst p' xs' ds' h' l' r'=>
     cases rv
     obtain ⟨its',rw2,pl',_⟩:=I.list h'
     have n1:=rw1.length
     have n2:=rw2.length
     have core:RcAt A s (.ref p) (.ref p') (eqDs ds ds')∧RcNeAt A s (.ref p) (.ref p') (!eqDs ds ds'):=by
      by_cases hl:ds.length=ds'.length
      ·have e:eqDs ds ds'=(List.range its.toArray.size).all fun i=>eqD (ds.getD i .non) (ds'.getD i .non):=by
        rw [rK hl,List.size_toArray,← n1,l]
       rw [e]
       have hz:its.toArray.size=its'.toArray.size:=by simp;omega
       have he:∀ j (h1:j < its.toArray.size) (h2:j < its'.toArray.size),EqAt A.in1 s its.toArray[j] its'.toArray[j] (eqD (ds.getD j .non) (ds'.getD j .non)):=fun j h1 h2=>by
        have h1':j < its.length:=by simpa using h1
        have h2':j < its'.length:=by simpa using h2
        have hx:j < xs.length:=by omega
        have hx':j < xs'.length:=by omega
        have hds:j < ds.length:=by omega
        have hds':j < ds'.length:=by omega
        have g1:xs[j]? =some (xs.getD j .non):=by rw [List.getD_eq_getElem?_getD,List.getElem?_eq_getElem hx];rfl
        have g2:ds[j]? =some (ds.getD j .non):=by rw [List.getD_eq_getElem?_getD,List.getElem?_eq_getElem hds];rfl
        have g3:xs'[j]? =some (xs'.getD j .non):=by rw [List.getD_eq_getElem?_getD,List.getElem?_eq_getElem hx'];rfl
        have g4:ds'[j]? =some (ds'.getD j .non):=by rw [List.getD_eq_getElem?_getD,List.getElem?_eq_getElem hds'];rfl
        have hn:n≠0:=by omega
        exact (ih j _ _ g1 g2 (n - 1) (r' j _ _ g3 g4) (qo rw1 h1) (qo rw2 h2) (by have:=Br (List.mem_of_getElem? g2);omega) (by show A.units + 1 + (n - 1) < cLine;omega)).1
       exact ⟨RcAt.lists pl.isList pl'.isList hz (by omega) he,RcNeAt.lists pl.isList pl'.isList hz (by omega) he⟩
      ·rw [rJ hl]
       have hz:(its.toArray.size != its'.toArray.size)=true:=by simp;omega
       exact ⟨RcAt.lists_lengths pl.isList pl'.isList hz (by omega),RcNeAt.lists_lengths pl.isList pl'.isList hz (by omega)⟩
     rw [eqD]
     refine ⟨?_,core⟩
     by_cases hp:p=p'
     ·subst hp
      have e:Dt.lst ds=Dt.lst ds':=(Rep.lst h l r).fun I (.lst h' l' r')
      have e2:eqDs ds ds'=true:=by have:=DO e;rw [eqD] at this;exact this
      rw [e2]
      exact EqAt.same _
     ·exact EqAt.of_refs hp core.1
 | @tup p xs ds h l r ih=>
   intro A e y u v n q ru rv hd hu
   cases ru
   obtain ⟨its,rw1,pl,_⟩:=I.tuple h
   rw [depD] at hd
   cases q with
   | non=>cases rv;exact ⟨EqAt.tuple_none pl (by omega),RcAt.tuple_none pl (by omega),RcNeAt.tuple_none pl (by omega)⟩
   | bl b=>cases rv;exact ⟨EqAt.tuple_bool b pl (by omega),RcAt.tuple_bool b pl (by omega),RcNeAt.tuple_bool b pl (by omega)⟩
   | int b=>obtain ⟨t,rfl⟩:=rv;exact ⟨EqAt.tuple_int b t pl (by omega),RcAt.tuple_int b t pl (by omega),RcNeAt.tuple_int b t pl (by omega)⟩
   | str b=>obtain ⟨t,rfl⟩:=rv;exact ⟨EqAt.tuple_str b t pl (by omega),RcAt.tuple_str b t pl (by omega),RcNeAt.tuple_str b t pl (by omega)⟩
   | lst h' l' r'=>
     cases rv;obtain ⟨_,_,pl',_⟩:=I.list h'
     exact ⟨EqAt.tuple_list pl pl'.isList (by omega),RcAt.tuple_list pl pl'.isList (by omega),RcNeAt.tuple_list pl pl'.isList (by omega)⟩
   | @tup p' xs' ds' h' l' r'=>
     cases rv
     obtain ⟨its',rw2,pl',_⟩:=I.tuple h'
     have n1:=rw1.length
     have n2:=rw2.length
     have core:RcAt A s (.ref p) (.ref p') (eqDs ds ds')∧RcNeAt A s (.ref p) (.ref p') (!eqDs ds ds'):=by
      have e:eqDs ds ds'=((List.range (min its.toArray.size its'.toArray.size)).all (fun i=>eqD (ds.getD i .non) (ds'.getD i .non))&&its.toArray.size == its'.toArray.size):=by
       by_cases hl:ds.length=ds'.length
       ·have z1:its.toArray.size=ds.length:=by simp;omega
        have z2:its'.toArray.size=ds.length:=by simp;omega
        rw [rK hl,z1,z2,Nat.min_self,beq_self_eq_true,Bool.and_true]
       ·have z:(its.toArray.size == its'.toArray.size)=false:=by rw [beq_eq_false_iff_ne];simp;omega
        rw [rJ hl,z,Bool.and_false]
      rw [e]
      have he:∀ j (h1:j < its.toArray.size) (h2:j < its'.toArray.size),EqAt A.in1 s its.toArray[j] its'.toArray[j] (eqD (ds.getD j .non) (ds'.getD j .non)):=fun j h1 h2=>by
       have h1':j < its.length:=by simpa using h1
       have h2':j < its'.length:=by simpa using h2
       have hx:j < xs.length:=by omega
       have hx':j < xs'.length:=by omega
       have hds:j < ds.length:=by omega
       have hds':j < ds'.length:=by omega
       have g1:xs[j]? =some (xs.getD j .non):=by rw [List.getD_eq_getElem?_getD,List.getElem?_eq_getElem hx];rfl
       have g2:ds[j]? =some (ds.getD j .non):=by rw [List.getD_eq_getElem?_getD,List.getElem?_eq_getElem hds];rfl
       have g3:xs'[j]? =some (xs'.getD j .non):=by rw [List.getD_eq_getElem?_getD,List.getElem?_eq_getElem hx'];rfl
       have g4:ds'[j]? =some (ds'.getD j .non):=by rw [List.getD_eq_getElem?_getD,List.getElem?_eq_getElem hds'];rfl
       have hn:n≠0:=by omega
       exact (ih j _ _ g1 g2 (n - 1) (r' j _ _ g3 g4) (qo rw1 h1) (qo rw2 h2) (by have:=Br (List.mem_of_getElem? g2);omega) (by show A.units + 1 + (n - 1) < cLine;omega)).1
      exact ⟨RcAt.tuples pl pl' (by omega) he,RcNeAt.tuples pl pl' (by omega) he⟩
     rw [eqD]
     refine ⟨?_,core⟩
     by_cases hp:p=p'
     ·subst hp
      have e:Dt.tup ds=Dt.tup ds':=(Rep.tup h l r).fun I (.tup h' l' r')
      have e2:eqDs ds ds'=true:=by have:=DO e;rw [eqD] at this;exact this
      rw [e2]
      exact EqAt.same _
     ·exact EqAt.of_refs hp core.1
end
noncomputable def rEqD (K:PySem.W.Frag) (neg:Bool):R2:=fun x y H Q=>∃ d e,Rep K H x d∧Rep K H y e∧depD d≤100∧Q (.bl (if neg then !eqD d e else eqD d e)) H
section
variable {X:Cx} {K:PySem.W.Frag}
theorem AL (h:X.K=K) (hu:X.A.units + 100 < cLine):OpR X (compareOp .Eq) (rEqD K false):=by
 subst h
 intro pins s σ H x y v u Q I rx ry h
 obtain ⟨d,e,r1,r2,hd,q⟩:=h
 exact (rc_D I r1 100 r2 rx ry hd hu).2.1 X.prog X.w X.xe _ ⟨.bl _,H,I,rfl,q⟩
theorem qL (h:X.K=K) (hu:X.A.units + 100 < cLine):OpR X (compareOp .NotEq) (rEqD K true):=by
 subst h
 intro pins s σ H x y v u Q I rx ry h
 obtain ⟨d,e,r1,r2,hd,q⟩:=h
 exact (rc_D I r1 100 r2 rx ry hd hu).2.2 X.prog X.w X.xe _ ⟨.bl _,H,I,rfl,q⟩
end
inductive zM:St→Nat→Option V→St→Prop where
 | z {a v:Option V} {l:St}:zM (a::l) 0 v (v::l)
 | s {a v:Option V} {l l':St} {i:Nat}:zM l i v l'→zM (a::l) (i + 1) v (a::l')
theorem zM.eq {l l':St} {i:Nat} {v:Option V} (h:zM l i v l'):l.set i v=l':=by
 induction h with
 | z=>rfl
 | s _ ih=>rw [List.set_cons_succ,ih]
inductive zN:St→Nat→V→Prop where
 | z {v:V} {l:St}:zN (some v::l) 0 v
 | s {a:Option V} {v:V} {l:St} {i:Nat}:zN l i v→zN (a::l) (i + 1) v
theorem zN.eq {l:St} {i:Nat} {v:V} (h:zN l i v):l[i]? =some (some v):=by
 induction h with
 | z=>rfl
 | s _ ih=>rw [List.getElem?_cons_succ];exact ih
section
variable {σ σ':St} {H:Hp} {Q:VK} {D:Ends} {ta tb tc te:TE} {t u:TS} {tt tt':TT} {r r':R2} {x y v:V}
theorem aQ {N:List Str} {vs:List V} {t:TS} (e:start N vs=σ') (h:t D σ' H):t D (start N vs) H:=by rw [e];exact h
theorem Hh {i:Nat} (e:zN σ i v) (h:Q v H):tVar i σ H Q:=⟨v,e.eq,h⟩
theorem s_c (h:Q v H):tC v σ H Q:=h
theorem s_op (h:ta σ H fun x H1=>tb σ H1 fun y H2=>r x y H2 Q):tOp r ta tb σ H Q:=h
theorem s_rI {C:Int→Int→Prop} {g:Int→Int→V} {i j:Int} (c:C i j) (h:Q (g i j) H):rI C g (.int i) (.int j) H Q:=⟨i,j,rfl,rfl,c,h⟩
theorem Hn {g:Int→Int→V} {i j:Int} (h:Q (g i j) H):rI0 g (.int i) (.int j) H Q:=⟨i,j,rfl,rfl,h⟩
theorem Ho (e:scal x y=true) (h:Q (.bl (decide (x=y))) H):rEq x y H Q:=⟨e,h⟩
theorem Hm (e:scal x y=true) (h:Q (.bl (!decide (x=y))) H):rNe x y H Q:=⟨e,h⟩
theorem FJ {Q:Bool→Hp→Prop} (h:te σ H fun x H'=>∃ k,x= .bl k∧Q k H'):Fw te σ H Q:=h
theorem s_tB {Q:Bool→Hp→Prop} (h:te σ H fun x H'=>∃ k,x= .bl k∧Q k H'):tB te σ H Q:=h
theorem HA {Q:Bool→Hp→Prop} (h:tt σ H fun c H1=>if c=true then tt' σ H1 Q else Q false H1):tAnd tt tt' σ H Q:=h
theorem s_or {Q:Bool→Hp→Prop} (h:tt σ H fun c H1=>if c=true then Q true H1 else tt' σ H1 Q):tOr tt tt' σ H Q:=h
theorem Hq {Q:Bool→Hp→Prop} (h:tt σ H fun c H1=>Q (!c) H1):tNot tt σ H Q:=h
theorem F5 (h:ta σ H fun x H1=>∃ c,x= .bl c∧if c=true then tb σ H1 Q else Q (.bl false) H1):FD ta tb σ H Q:=h
theorem Hv (h:tt σ H fun c H1=>if c=true then ta σ H1 Q else tb σ H1 Q):tIf tt ta tb σ H Q:=h
theorem FN (h:D.nx σ H):Fy D σ H:=h
theorem Hk (h:t {D with nx:=u D} σ H):tSeq t u D σ H:=h
theorem FZ (h:te σ H fun _ H1=>D.nx σ H1):FB te D σ H:=h
theorem Hl (h:te σ H D.rt):tRet te D σ H:=h
theorem s_if (h:tt σ H fun b H1=>if b=true then t D σ H1 else u D σ H1):tIfS tt t u D σ H:=h
theorem Hz {g:TG} (h:te σ H fun x H1=>g x σ H1 D.nx):tAsg te g D σ H:=h
theorem Em {i:Nat} {Q:St→Hp→Prop} (e:zM σ i (some v) σ') (h:Q σ' H):zg i v σ H Q:=by show Q (σ.set i (some v)) H;rw [e.eq];exact h
theorem FY {Q:St→Hp→Prop} (h:Q σ H):gNil [] σ H Q:=⟨rfl,h⟩
theorem Eo {g:TG} {gs:TGs} {vs:List V} {Q:St→Hp→Prop} (h:g v σ H fun σ' H'=>gs vs σ' H' Q):EX g gs (v::vs) σ H Q:=⟨v,vs,rfl,h⟩
theorem FX {K:PySem.W.Frag} {n:Nat} {gs:TGs} {p:Addr} {xs:List V} {Q:St→Hp→Prop} (e:SqT K H p xs) (l:xs.length=n) (h:gs xs σ H Q):gTup K n gs (.ref p) σ H Q:=⟨p,xs,rfl,e,l,h⟩
theorem Hr {Q:List V→Hp→Prop} (h:Q [] H):tNil σ H Q:=h
theorem F3 {tr:TA} {Q:List V→Hp→Prop} (h:ta σ H fun x H1=>tr σ H1 fun xs H2=>Q (x::xs) H2):FC ta tr σ H Q:=h
noncomputable def NewT (Q:VK) (xs:List V) (H:Hp):Prop:=xs.length≤sizeLine∧∀ p,H p=none→Q (.ref p) (upd H p (.tup xs))
noncomputable def NewL (Q:VK) (xs:List V) (H:Hp):Prop:=xs.length≤sizeLine∧∀ p,H p=none→Q (.ref p) (upd H p (.lst xs))
theorem Hi {tr:TA} (h:tr σ H (NewT Q)):tTup tr σ H Q:=h
theorem Hs {tr:TA} (h:tr σ H (NewL Q)):tLst tr σ H Q:=h
theorem a9 {H:Hp} {D:Addr} {o:HO} (h:H D=none):Same H (upd H D o):=fun b u e=>by rw [aq (ah e h)];exact e
theorem eT {o:HO} (h:∀ p H2,H p=none→Same H H2→H2 p=some o→Q (.ref p) H2):∀ p,H p=none→Q (.ref p) (upd H p o):=fun p hp=>h p _ hp (a9 hp) al
theorem Same.get {H H':Hp} (e:Same H H') {b:Addr} {o:HO} (h:H b=some o):H' b=some o:=e b o h
theorem FO {xs:List V} (l:xs.length≤sizeLine) (h:∀ p H2,H p=none→Same H H2→H2 p=some (.tup xs)→Q (.ref p) H2):NewT Q xs H:=⟨l,eT h⟩
theorem FP {xs:List V} (l:xs.length≤sizeLine) (h:∀ p H2,H p=none→Same H H2→H2 p=some (.lst xs)→Q (.ref p) H2):NewL Q xs H:=⟨l,eT h⟩
theorem Eu {sp:Sp} {E:XK} {tr:TA} (h:tr σ H fun vs H1=>sp vs H1 Q E):B9 sp [] E tr σ H Q:=by unfold B9;simp only [List.append_nil];exact h
theorem s_cb {r:List V→Hp→VK→Prop} {tr:TA} (h:tr σ H fun vs H1=>r vs H1 Q):tCB r tr σ H Q:=h
theorem Cm {Q:Option Int→Hp→Prop} (h:Q none H):Aa σ H Q:=h
theorem FM {Q:Option Int→Hp→Prop} (h:te σ H fun x H1=>∃ i,x= .int i∧Q (some i) H1):Fx te σ H Q:=h
theorem s_sl {r:V→Option Int→Option Int→Hp→VK→Prop} {tl th:TO} (h:te σ H fun x H1=>tl σ H1 fun l H2=>th σ H2 fun u H3=>r x l u H3 Q):tSl r te tl th σ H Q:=h
theorem Hj {K:PySem.W.Frag} {p:Addr} {xs:List V} {lo hi:Option Int} (e:SqL K H p xs) (h:∀ q H2,H q=none→Same H H2→H2 q=some (.lst (cutV xs lo hi))→Q (.ref q) H2):rSlL K (.ref p) lo hi H Q:=⟨p,xs,rfl,e,eT h⟩
theorem Ap {K:PySem.W.Frag} {p:Addr} {xs:List V} {i:Int} (e:SqL K H p xs) (a:atI xs i=some v) (h:Q v H):rIxL K (.ref p) (.int i) H Q:=⟨p,xs,i,v,rfl,rfl,e,a,h⟩
theorem Ht {K:PySem.W.Frag} {p:Addr} {xs:List V} {i:Int} (e:SqT K H p xs) (a:atI xs i=some v) (h:Q v H):rIxT K (.ref p) (.int i) H Q:=⟨p,xs,i,v,rfl,rfl,e,a,h⟩
theorem FU {z:Str} {i:Int} {c:Nat} (e:z.length≤sizeLine) (a:atI z.cps.toList i=some c) (h:Q (.str ⟨#[c]⟩) H):rIxS (.str z) (.int i) H Q:=⟨z,i,c,rfl,rfl,e,a,h⟩
theorem s_bm {K:PySem.W.Frag} {T:String} {r:V→List V→Hp→VK→Prop} {tr:TA} (h:te σ H fun x H1=>tyV K T x H1∧tr σ H1 fun xs H2=>r x xs H2 Q):tBM K T r te tr σ H Q:=h
theorem AU {n:Nat} (h:n≤1000):n≤sizeLine:=Nat.le_of_lt (aE h)
theorem yn {K:PySem.W.Frag} {neg:Bool} {d e:Dt} (r1:Rep K H x d) (r2:Rep K H y e) (hd:depD d≤100) (h:Q (.bl (if neg then !eqD d e else eqD d e)) H):rEqD K neg x y H Q:=⟨d,e,r1,r2,hd,h⟩
theorem s_ty {K:PySem.W.Frag} {T:String} {A:Prop} (e:tyV K T x H) (h:A):tyV K T x H∧A:=⟨e,h⟩
theorem sI {K:PySem.W.Frag} {z:Str} {p:Addr} {ys:List Str} (e:SqL K H p (ys.map V.str)) (l:(ys.map (·.length)).sum + ys.length * z.length≤16777216) (h:Q (.str (Txt.join z ys)) H):F9 K (.str z) [.ref p] H Q:=⟨z,p,ys,rfl,rfl,e,l,h⟩
theorem FT {K:PySem.W.Frag} {p:Addr} {xs:List V} (e:SqL K H p xs) (h:Q (.int xs.length) H):rLen K [.ref p] H Q:=⟨_,_,rfl,.inl ⟨xs,e,rfl⟩,h⟩
theorem FS {K:PySem.W.Frag} {z:Str} (e:z.length≤sizeLine) (h:Q (.int z.length) H):rLen K [.str z] H Q:=⟨_,_,rfl,⟨e,rfl⟩,h⟩
theorem Hu {K:PySem.W.Frag} {T k:String} (e:AY K H x k) (m:T∈["int","bool","str","list","tuple","dict"]) (h:Q (.bl (subB k T)) H):rIsi K [x,.ty T] H Q:=⟨x,k,T,rfl,e,m,h⟩
theorem F2 (h:∀ p H2,H p=none→Same H H2→H2 p=some (.dK [])→Q (.ref p) H2):Dm σ H Q:=eT h
theorem Hw {wi:TI} {g:TG} {tb:TS} (h:wi σ H fun J H1=>∃ W:Nat→Nat→St→Hp→Prop,(∃ m,W 0 m σ H1)∧∀ i m σ H,W i m σ H→(J.stop i H∧D.nx σ H)∨(J.go i H∧∃ N:St→Hp→Prop,(∀ σ' H',N σ' H'→∃ m',m' < m∧W (i + 1) m' σ' H')∧∀ x H',J.yld i H x H'→g x σ H' fun σ2 H2=>tb {D with nx:=N,ct:=N,bk:=D.nx} σ2 H2)):tFor wi g tb D σ H:=h
theorem Ek {K:PySem.W.Frag} {R:It→Hp→Prop} (h:te σ H fun x H1=>∃ a,x= .ref a∧(∃ xs,SqL K H1 a xs)∧R (Itl K a) H1):EV K te σ H R:=h
theorem FV {K:PySem.W.Frag} {R:It→Hp→Prop} (h:te σ H fun x H1=>∃ a,x= .ref a∧(∃ xs,SqT K H1 a xs)∧R (Itt K a) H1):iTup K te σ H R:=h
theorem FW {R:It→Hp→Prop} (h:te σ H fun x H1=>∃ z,x= .str z∧R (Its z) H1):iStr te σ H R:=h
theorem FK {tr:TA} {R:It→Hp→Prop} (h:tr σ H fun vs H1=>∃ j:Int,vs=[.int j]∧-(2 ^ 62)≤j∧j < 2 ^ 62∧R (Itr 0 j.toNat) H1):GH tr σ H R:=h
theorem Hg {Q:Bool→Hp→Prop} (h:Q true H):tYes σ H Q:=h
theorem FI {A B:Prop} (h:A):if true=true then A else B:=by rw [if_pos rfl];exact h
theorem Ep {A B:Prop} (h:B):if false=true then A else B:=by rw [if_neg Bool.false_ne_true];exact h
theorem j7 {c:Bool} {A B:Prop} (e:c=true) (h:A):if c=true then A else B:=by rw [if_pos e];exact h
theorem fJ {c:Bool} {A B:Prop} (e:c=false) (h:B):if c=true then A else B:=by rw [e,if_neg Bool.false_ne_true];exact h
theorem F4 {n:Nat} {fx:List Nat} {wi:TI} {g:TG} (h:wi σ H fun J H1=>∀ D,H1 D=none→
 ∃ W:Nat→Nat→List V→Hp→Prop,(∃ m,W 0 m [] (upd H1 D (.lst [])))∧∀ i m ys H2,W i m ys H2→(J.stop i H2∧Q (.ref D) H2)∨
   (J.go i H2∧∃ N:List V→Hp→Prop,(∀ ys' H',N ys' H'→∃ m',m' < m∧W (i + 1) m' ys' H')∧∀ x H3,J.yld i H2 x H3→g x (bH n fx σ) H3 fun σ4 H4=>tt σ4 H4 fun b H5=>
    if b=true then te σ4 H5 fun v H6=>H6 D=some (.lst ys)∧ys.length < sizeLine∧N (ys++[v]) (upd H6 D (.lst (ys++[v]))) else N ys H5)):ya n fx wi g tt te σ H Q:=h
theorem Ar {K:PySem.W.Frag} {p:Addr} {bs:List Bool} (e:SqL K H p (bs.map V.bl)) (h:Q (.bl (bs.all id)) H):Gb K [.ref p] H Q:=⟨p,bs,rfl,e,h⟩
theorem Dq {K:PySem.W.Frag} {p:Addr} {bs:List Bool} (e:SqL K H p (bs.map V.bl)) (h:Q (.bl (bs.any id)) H):Ga K [.ref p] H Q:=⟨p,bs,rfl,e,h⟩
theorem Co {j:Int} {A:Prop} (h1: -(2 ^ 62)≤j) (h2:j < 2 ^ 62) (h:A): -(2 ^ 62)≤j∧j < 2 ^ 62∧A:=⟨h1,h2,h⟩
end
noncomputable def tCut (t u:TS):TS:=fun D σ H=>∃ P:St→Hp→Prop,t {D with nx:=P} σ H∧∀ σ' H',P σ' H'→u D σ' H'
theorem vh {X:Cx} {st:Stmt} {rest:List Stmt} {t u:TS} (h1:PS X st t) (h2:PSs X rest u):PSs X (st::rest) (tCut t u):=by
 intro pins s σ H D I ⟨P,a,b⟩
 refine wpAny_execs_cons (thn (h1 pins s σ H {D with nx:=P} I a) fun f s1 q=>?_)
 cases f with
 | next=>obtain ⟨σ1,H1,I1,q1⟩:=q;exact h2 pins s1 σ1 H1 D I1 (b σ1 H1 q1)
 | brk=>exact q
 | cont=>exact q
 | ret v=>exact q
theorem Et {t u:TS} {D:Ends} {σ:St} {H:Hp} (P:St→Hp→Prop) (h:t {D with nx:=P} σ H) (k:∀ σ' H',P σ' H'→u D σ' H'):tCut t u D σ H:=⟨P,h,k⟩
section
variable {K:PySem.W.Frag} {n:Nat} {fx:List Nat} {g:TG} {tc:TT} {te:TE} {σ:St} {H1:Hp} {D:Addr} {Q:Hp→Prop}
structure Cs (Pv:Nat→List V→Prop) (H1:Hp) (D:Addr) (i:Nat) (ys:List V) (H:Hp):Prop where
 pv:Pv i ys
 same:Same H1 H
 at':H D=some (.lst ys)
 len:ys.length≤i
theorem Cs.put {Pv:Nat→List V→Prop} {i:Nat} {ys:List V} {v:V} {H6:Hp} (f:H1 D=none) (s:Same H1 H6) (e:H6 D=some (.lst ys)) (l:ys.length≤i) (hi:i < 16777216) (p:Pv (i + 1) (ys++[v])):
  H6 D=some (.lst ys)∧ys.length < sizeLine∧Cs Pv H1 D (i + 1) (ys++[v]) (upd H6 D (.lst (ys++[v]))):=
 ⟨e,by rw [sizeLine_eq];omega,p,fun b o h=>by rw [aq (ah h f)];exact s b o h,al,by rw [List.length_append];simpa using l⟩
theorem Cs.skip {Pv:Nat→List V→Prop} {i:Nat} {ys:List V} {H6:Hp} (s:Same H1 H6) (e:H6 D=some (.lst ys)) (l:ys.length≤i) (p:Pv (i + 1) ys):Cs Pv H1 D (i + 1) ys H6:=⟨p,s,e,by omega⟩
theorem Cs.zero {Pv:Nat→List V→Prop} (f:H1 D=none) (p:Pv 0 []):Cs Pv H1 D 0 [] (upd H1 D (.lst [])):=⟨p,a9 f,al,Nat.le_refl _⟩
end
structure DX (K:PySem.W.Frag) (C:Addr) (m:Str) (f:Addr):Prop where
 ga:PySem.W.specialIn K (.ref C) "__getattribute__"=some (some (.builtin "type.__getattribute__"))
 rd:PySem.W.readsIn K C (.type "type")=true
 fd:PySem.W.findCls K (.ref C) (.type "type") m=some (.val (.ref f))
 hd:PySem.W.handedIn (.ref f)=true
 kp:PySem.W.keepIn K (.ref f)=true
section
variable {X:Cx} {CX:CXT} {k:Nat} {f C:Addr} {fd:FuncData} {ps:List Str} {sp:Sp} {dvs:List V} {ds:List Value} {E:XK} {x m:Str} {p pos apos:Pos} {e o:Expr} {es:List Expr} {ta:TE} {t:TA}
theorem mY {pl:Sem Bool} (hg:Gl X x) (hx:X.mg x=some (.ref C)) (c:DX X.K C m f) (F:FnOk X.prog X.w X.K X.mg X.base CX k f fd ps sp) (hr:Room k X.A) (hb:bS X.K fd ps ds) (hd:Vals dvs ds) (hpass:oN CX X E) (ha:PA X (e::es) t)
  (hdb:(x == ("__debug__":Str))=false:=by decide) (hst:starEach (e::es) X.env=(false,eval e X.env)::starEach es X.env:=by rfl) (hpl:(backTo pos (starEach es X.env)).any (·.1)=false:=by rfl)
  (ht:eval (.Call (.Attribute (.Name x p) m apos) (e::es) [] pos) X.env=(do
   let ov ← eval (.Name x p) X.env
   standAt apos.atName
   let (f,first) ← holding [ov] (getMethod ov m pl)
   callWith pos f first (backTo pos (starEach (e::es) X.env)) (backToKw pos (keywordEach [] X.env))):=by rfl):
  PE X (.Call (.Attribute (.Name x p) m apos) (e::es) [] pos) (B9 sp dvs E t):=by
 intro pins s σ H Q I h
 refine PySem.W.methodCall_KW (pl:=pl) (ri I hg hx ?_ hdb) ht
 refine PySem.W.method_cls I.kIn c.ga (PySem.W.cls_value I.kIn c.rd c.fd c.hd ?_)
 have I1:=I.tok (s.toks + 1)
 refine PySem.W.callWith_K (first:=[]) (h₀:=X.base) I1.ok.mod.kin c.kp (thn (ha pos pins _ σ H _ I1 h) fun us s2 ⟨vs,H2,I2,r,q2⟩=>⟨I2.kIn,?_⟩) hst hpl
 exact As (us:=us) (vs:=vs) F hr hb hd hpass I2 r q2
end
structure BM (K:PySem.W.Frag) (D:Addr):Prop where
 cls:Cls K D
 ha:PySem.W.findIn K (.ref D) "__class__"=some (some (.builtin "object.__class__"))
 hn:PySem.W.specialIn K (.builtin "object.__class__") "__get__"=some (some (.builtin "getset_descriptor.__get__"))
 tk:PySem.W.takesIn K (.builtin "object.__class__")=some true
 hm:PySem.W.mroIn K D (.type "object")=some true
section
variable {X:Cx} {K:PySem.W.Frag}
theorem df {e:Expr} {ta:TE} {f:Str} {pos:Pos} (h:X.K=K) (he:PE X e ta) (hb:attributeBase e f X.env (eval e X.env)=eval e X.env):PE X (.Attribute e f pos) (tFld K ta f):=by subst h;exact Gk he hb
theorem d5 {o value:Expr} {ta tv:TE} {f:Str} {pos pos':Pos} (h:X.K=K) (ha:PE X o ta) (hv:PE X value tv) (hs:swapsWith value (some (.Attribute o f pos')) pos.line X.env=pure false):PS X (.Assign [.Attribute o f pos'] value pos) (sFld K ta tv f):=by subst h;exact Ge ha hv hs
end
section
variable {σ:St} {H:Hp} {Q:VK} {D:Ends} {te tv ta:TE} {x y v:V}
noncomputable def Ff (K:PySem.W.Frag) (f:Str) (Q:VK) (x:V) (H:Hp):Prop:=∃ a C dx fs v,x= .ref a∧H a=some (.ins C dx fs)∧Cls K C∧ar K C f∧fs.lookup f=some v∧Q v H
theorem Hx {K:PySem.W.Frag} {f:Str} (h:te σ H (Ff K f Q)):tFld K te f σ H Q:=h
theorem cJ {K:PySem.W.Frag} {f:Str} {p C dx:Addr} {fs:List (Str×V)} (e:H p=some (.ins C dx fs)) (c:Cls K C) (n:ar K C f) (l:fs.lookup f=some v) (h:Q v H):Ff K f Q (.ref p) H:=⟨p,C,dx,fs,v,rfl,e,c,n,l,h⟩
structure Upd (H H':Hp) (p:Addr) (o:HO):Prop where
 at':H' p=some o
 oth:∀ b u,b≠p→H b=some u→H' b=some u
 non:∀ b,b≠p→H b=none→H' b=none
theorem Upd.of {H:Hp} {p:Addr} {o:HO}:Upd H (upd H p o) p o:=⟨al,fun b u n h=>by rw [aq n];exact h,fun b n h=>by rw [aq n];exact h⟩
noncomputable def G2 (K:PySem.W.Frag) (f:Str) (y:V) (D:Ends) (σ:St) (x:V) (H:Hp):Prop:=∃ a C dx fs,x= .ref a∧H a=some (.ins C dx fs)∧Cls K C∧ar K C f∧fs.length < 1000∧D.nx σ (upd H a (.ins C dx (putF f y fs)))
theorem Cl {K:PySem.W.Frag} {f:Str} (h:tv σ H fun y H1=>te σ H1 (G2 K f y D σ)):sFld K te tv f D σ H:=h
theorem dY {K:PySem.W.Frag} {f:Str} {p C dx:Addr} {fs fs':List (Str×V)} (e:H p=some (.ins C dx fs)) (c:Cls K C) (n:ar K C f) (l:fs.length < 1000) (ef:putF f y fs=fs') (h:∀ H2,Upd H H2 p (.ins C dx fs')→D.nx σ H2):
  G2 K f y D σ (.ref p) H:=⟨p,C,dx,fs,rfl,e,c,n,l,by rw [ef];exact h _ Upd.of⟩
noncomputable def DU (C:Addr) (sp:Sp) (E:XK) (Q:VK) (vs:List V) (H:Hp):Prop:=∀ x dx,H x=none→H dx=none→dx≠x→sp (.ref x::(vs++[])) (upd (upd H dx (.own x)) x (.ins C dx [])) (fun v H2=>v= .non∧Q (.ref x) H2) E
theorem FR {C:Addr} {sp:Sp} {E:XK} {tr:TA} (h:tr σ H (DU C sp E Q)):FA C sp [] E tr σ H Q:=h
theorem Cn {C:Addr} {sp:Sp} {E:XK} {vs:List V} (h:∀ x dx H2,H x=none→Same H H2→H2 x=some (.ins C dx [])→sp (.ref x::vs) H2 (fun v H2=>v= .non∧Q (.ref x) H2) E):DU C sp E Q vs H:=by
 intro x dx f1 f2 n
 rw [List.append_nil]
 exact h x dx _ f1 (fun b o e=>by rw [aq (ah e f1),aq (ah e f2)];exact e) al
theorem Upd.same {H0 H2:Hp} {p:Addr} {o:HO} (u:Upd H H2 p o) (f:H0 p=none) (s:Same H0 H):Same H0 H2:=fun b q e=>u.oth b q (ah e f) (s b q e)
theorem Upd.trans {H2 H3:Hp} {p:Addr} {o o':HO} (u:Upd H H2 p o) (w:Upd H2 H3 p o'):Upd H H3 p o':=⟨w.at',fun b q n e=>w.oth b q n (u.oth b q n e),fun b n e=>w.non b n (u.non b n e)⟩
end
theorem Inv.laidCh {X:Cx} {pins:List (Addr×Obj)} {σ:St} {H:Hp} {s:Shared} {h':Heap} {a:Addr} {o:HO} {t':Nat} {ch:List Addr} (I:Inv X pins σ H s) (k:∀ b u,b∉ch→s.heap.get? b=some u→h'.get? b=some u) (hp:s.heap.objs.size≤a)
  (new:dI X.prog X.w (upd H a o) h' a o) (fp:∀ b∈ch,FpOk X pins H b):Inv X pins σ (upd H a o) {s with heap:=h',toks:=t'}:=by
 have fr:H a=none:=I.hok.fresh hp
 have nit:∀ b u,H b=some u→b∉ch:=fun b u e z=>by rw [(fp b z).1] at e;cases e
 refine I.step (g':=s.gens) (d':=s.drawn) (ch:=ch) (fun b hb=>?_) (fun b ob _ _ hc e _=>k b ob hc e) (fun b ob _ _ hc e _=>⟨ob.slots,k b ob hc e⟩) (fun b ob _ e n=>?_) (fun b ob hc e=>⟨ob,k b ob hc e⟩)
  (fun b xs e=>by rw [aq (ah e fr)];exact e) (fun b ob u e=>by rw [aq (ah e fr)];exact e) (fun b ps e=>⟨#[],by rw [aq (ah e fr),e];simp⟩) (fun m hm=>?_) (fun b u e=>?_) I.bare
 ·obtain ⟨f0,f1,f2,f3,f4,f5⟩:=fp b hb
  exact ⟨f3,f1,f4,f5⟩
 ·rw [aq (Nat.ne_of_lt (Nat.lt_of_lt_of_le (Heap.lt_size e) hp))];exact n
 ·obtain ⟨ob,es,ep,ho,r⟩:=hm
  exact ⟨ob,es,ep,k _ ob (fun z=>(fp _ z).2.1 rfl) ho,r⟩
 ·by_cases hb:b=a
  ·subst hb;rw [al] at e;cases e;exact new
  ·rw [aq hb] at e
   refine (I.hok b u e).stay (fun c v hc q=>k c v ?_ q) (fun c q=>by rw [aq (ah q fr)];exact q) fun c xs q=>by rw [aq (ah q fr)];exact q
   rcases hc with z | z
   ·rw [z];exact nit b u e
   ·exact nit c _ z
theorem Inv.turnedCh {X:Cx} {pins:List (Addr×Obj)} {σ:St} {H:Hp} {s:Shared} {h':Heap} {t':Nat} {ch:List Addr} (I:Inv X pins σ H s) (k:∀ b u,b∉ch→s.heap.get? b=some u→h'.get? b=some u)
  (fp:∀ b∈ch,FpOk X pins H b):Inv X pins σ H {s with heap:=h',toks:=t'}:=by
 have nit:∀ b u,H b=some u→b∉ch:=fun b u e z=>by rw [(fp b z).1] at e;cases e
 refine I.step (g':=s.gens) (d':=s.drawn) (ch:=ch) (fun b hb=>?_) (fun b ob _ _ hc e _=>k b ob hc e) (fun b ob _ _ hc e _=>⟨ob.slots,k b ob hc e⟩) (fun b ob _ e n=>n) (fun b ob hc e=>⟨ob,k b ob hc e⟩)
  (fun b xs e=>e) (fun b ob u e=>e) (fun b ps e=>⟨#[],by rw [e];simp⟩) (fun m hm=>?_) (fun b u e=>?_) I.bare
 ·obtain ⟨f0,f1,f2,f3,f4,f5⟩:=fp b hb
  exact ⟨f3,f1,f4,f5⟩
 ·obtain ⟨ob,es,ep,ho,r⟩:=hm
  exact ⟨ob,es,ep,k _ ob (fun z=>(fp _ z).2.1 rfl) ho,r⟩
 ·refine (I.hok b u e).stay (fun c v hc q=>k c v ?_ q) (fun c q=>q) fun c xs q=>q
  rcases hc with z | z
  ·rw [z];exact nit b u e
  ·exact nit c _ z
noncomputable def Ite (K:PySem.W.Frag) (a:Addr):It:=
 ⟨fun i H=>∃ xs x,SqL K H a xs∧xs[i]? =some x,fun i H x H'=>∃ p v,H p=none∧x= .ref p∧H'=upd H p (.tup [.int i,v])∧∀ xs,SqL K H a xs→xs[i]? =some v,fun i H=>∃ xs,SqL K H a xs∧xs.length=i⟩
noncomputable def Itz (x:Str):It:=⟨fun i _=>i < x.cps.size,fun i H v H'=>∃ p c,H p=none∧v= .ref p∧H'=upd H p (.tup [.int i,.str ⟨#[c]⟩])∧x.cps[i]? =some c,fun i _=>i=x.cps.size⟩
theorem z8:(2:Nat)≤sizeLine:=by rw [sizeLine_eq];decide
theorem pP {P:Program} {w:World} {K:PySem.W.Frag} {elts:List Expr} {k:Nat} {pos:Pos} (a e it:Addr) (hei:e≠it):
  Turn P w K (.Tuple elts k pos) (Ite K a) [e,it] e (fun i h=>(∃ old,IsEnum h e it i old)∧h.IsListIter it a i) where
 mem:=by simp
 obj:=fun i h st b hb=>by
  obtain ⟨⟨old,he⟩,⟨o,ho,hc,hd⟩⟩:=st
  rcases List.mem_cons.mp hb with z | z
  ·subst z;exact ⟨_,he,fun v z=>by cases z⟩
  ·rw [List.mem_singleton.mp z];exact ⟨o,ho,fun v z=>by rw [hd] at z;cases z⟩
 keep:=fun i h h' st k=>⟨let ⟨old,he⟩:=st.1;⟨old,k e (by simp) _ he⟩,st.2.at fun o z=>k it (by simp) o z⟩
 item:=by
  intro X hP hw hK hc i pins s σ H E I hf st hg
  subst hP hw hK
  obtain ⟨xs,x,hq,hx⟩:=hg
  obtain ⟨its,rv,p,hz⟩:=I.list hq
  obtain ⟨⟨old,he⟩,hl⟩:=st
  have hai:a≠it:=fun z=>by
   obtain ⟨o,ho,hcl,_⟩:=hl
   obtain ⟨o',n,ho',hcl',_⟩:=p
   rw [z,ho] at ho';cases ho';rw [hcl] at hcl';exact absurd hcl' (by decide)
  have hae:a≠e:=fun z=>by
   obtain ⟨o',n,ho',hcl',_⟩:=p
   rw [z,he] at ho';cases ho';exact absurd (show Value.type "enumerate"= .type "list" from hcl') (by decide)
  have W:=WalksT.enumerateD (prog:=X.prog) (w:=X.w) (A:=X.A) (Draws.list (A:=X.A.in1) (I.ok.hd hc) it a hai its.toArray) e hei (by simp [hei,Ne.symm hae]) (by simp)
  have hi:i < its.toArray.size:=by have:=rv.length;have:=(List.getElem?_eq_some_iff.mp hx).1;simp;omega
  refine W.item i s _ _ hi ⟨⟨old,he⟩,hl,p.isList⟩ fun T vals h' tk hPt hT htup hmid hk=>⟨_,rfl,W.go elts k pos i T _ _ _ hmid fun h'' hst hk2=>?_⟩
  obtain ⟨t,x',hx',rfl⟩:=hPt
  have hap:=W.apart i T h' hmid
  have ru:RelV x x':=by
   obtain ⟨u,hu,r⟩:=rv.get hx
   have hx'':its[i]? =some x':=by simpa using hx'
   rw [hu] at hx'';cases hx'';exact r
  have kk:∀ b u,b∉[e,it]→s.heap.get? b=some u→h''.get? b=some u:=fun b u hb q=>hk2 b u hb (hk b u hb q)
  have fr:H T=none:=I.hok.fresh hT
  refine ⟨.ref T,upd H T (.tup [.int i,x]),I.laidCh (t':=tk) kk hT ⟨z8,[.int i t,x'],.cons ⟨t,rfl⟩ (.cons ru .nil),?_⟩ hf,rfl,⟨T,x,fr,rfl,rfl,fun ys hy=>by rw [I.list_inj hy hq];exact hx⟩,⟨hst.1,hst.2.1⟩,fun b hb=>?_⟩
  ·obtain ⟨o,ho,r⟩:=htup
   exact ⟨o,hk2 T o hap ho,r⟩
  ·have fb:=(hf b hb)
   rw [aq (fun z=>?_)]
   ·exact fb.1
   ·have lt:b < s.heap.objs.size:=by
     rcases List.mem_cons.mp hb with z | z
     ·subst z;exact Heap.lt_size he
     ·rw [List.mem_singleton.mp z];obtain ⟨o,ho,_⟩:=hl;exact Heap.lt_size ho
    rw [z] at lt
    exact absurd (Nat.lt_of_lt_of_le lt hT) (Nat.lt_irrefl _)
 done:=by
  intro X hP hw hK hc i pins s σ H E I hf st hg
  subst hP hw hK
  obtain ⟨xs,hq,hx⟩:=hg
  obtain ⟨its,rv,p,hz⟩:=I.list hq
  obtain ⟨⟨old,he⟩,hl⟩:=st
  have hai:a≠it:=fun z=>by
   obtain ⟨o,ho,hcl,_⟩:=hl
   obtain ⟨o',n,ho',hcl',_⟩:=p
   rw [z,ho] at ho';cases ho';rw [hcl] at hcl';exact absurd hcl' (by decide)
  have hae:a≠e:=fun z=>by
   obtain ⟨o',n,ho',hcl',_⟩:=p
   rw [z,he] at ho';cases ho';exact absurd (show Value.type "enumerate"= .type "list" from hcl') (by decide)
  have W:=WalksT.enumerateD (prog:=X.prog) (w:=X.w) (A:=X.A) (Draws.list (A:=X.A.in1) (I.ok.hd hc) it a hai its.toArray) e hei (by simp [hei,Ne.symm hae]) (by simp)
  have hn:its.toArray.size=i:=by have:=rv.length;simp;omega
  subst hn
  exact W.done s _ _ ⟨⟨old,he⟩,hl,p.isList⟩ fun h' tk hk=>⟨rfl,I.turnedCh hk hf⟩
 self:=fun _ _ _ _ _ st h=>let ⟨_,he⟩:=st.1;wpAny_pyIter_enum he h
theorem x9 {P:Program} {w:World} {K:PySem.W.Frag} {elts:List Expr} {k:Nat} {pos:Pos} {x:Str} {t:Tok} {n:String} (e it:Addr) (hei:e≠it)
  (D:∀ A:Around,A.handled=none→Draws P w A it [it] x.cps.size (fun i v=>∃ c u,x.cps[i]? =some c∧v= .str ⟨#[c]⟩ u) (fun i h=>h.IsStrIter it n x t i)):
  Turn P w K (.Tuple elts k pos) (Itz x) [e,it] e (fun i h=>(∃ old,IsEnum h e it i old)∧h.IsStrIter it n x t i) where
 mem:=by simp
 obj:=fun i h st b hb=>by
  obtain ⟨⟨old,he⟩,⟨o,ho,hc,hd⟩⟩:=st
  rcases List.mem_cons.mp hb with z | z
  ·subst z;exact ⟨_,he,fun v z=>by cases z⟩
  ·rw [List.mem_singleton.mp z];exact ⟨o,ho,fun v z=>by rw [hd] at z;cases z⟩
 keep:=fun i h h' st k=>⟨let ⟨old,he⟩:=st.1;⟨old,k e (by simp) _ he⟩,let ⟨o,ho,r⟩:=st.2;⟨o,k it (by simp) o ho,r⟩⟩
 item:=by
  intro X hP hw hK hc i pins s σ H E I hf st hg
  subst hP hw hK
  obtain ⟨⟨old,he⟩,hl⟩:=st
  have W:=WalksT.enumerateD (prog:=X.prog) (w:=X.w) (A:=X.A) (D X.A.in1 (I.ok.hd hc)) e hei (by simp [hei]) (by simp)
  refine W.item i s _ _ hg ⟨⟨old,he⟩,hl⟩ fun T vals h' tk hPt hT htup hmid hk=>⟨_,rfl,W.go elts k pos i T _ _ _ hmid fun h'' hst hk2=>?_⟩
  obtain ⟨t1,x',⟨c,u,hx',rfl⟩,rfl⟩:=hPt
  have hap:=W.apart i T h' hmid
  have kk:∀ b u,b∉[e,it]→s.heap.get? b=some u→h''.get? b=some u:=fun b u hb q=>hk2 b u hb (hk b u hb q)
  have fr:H T=none:=I.hok.fresh hT
  refine ⟨.ref T,upd H T (.tup [.int i,.str ⟨#[c]⟩]),I.laidCh (t':=tk) kk hT ⟨z8,[.int i t1,.str ⟨#[c]⟩ u],.cons ⟨t1,rfl⟩ (.cons ⟨u,rfl⟩ .nil),?_⟩ hf,rfl,⟨T,c,fr,rfl,rfl,hx'⟩,⟨hst.1,hst.2⟩,fun b hb=>?_⟩
  ·obtain ⟨o,ho,r⟩:=htup
   exact ⟨o,hk2 T o hap ho,r⟩
  ·have fb:=(hf b hb)
   rw [aq (fun z=>?_)]
   ·exact fb.1
   ·have lt:b < s.heap.objs.size:=by
     rcases List.mem_cons.mp hb with z | z
     ·subst z;exact Heap.lt_size he
     ·rw [List.mem_singleton.mp z];obtain ⟨o,ho,_⟩:=hl;exact Heap.lt_size ho
    rw [z] at lt
    exact absurd (Nat.lt_of_lt_of_le lt hT) (Nat.lt_irrefl _)
 done:=by
  intro X hP hw hK hc i pins s σ H E I hf st hg
  subst hP hw hK
  obtain ⟨⟨old,he⟩,hl⟩:=st
  have W:=WalksT.enumerateD (prog:=X.prog) (w:=X.w) (A:=X.A) (D X.A.in1 (I.ok.hd hc)) e hei (by simp [hei]) (by simp)
  have hg:i=x.cps.size:=hg
  subst hg
  exact W.done s _ _ ⟨⟨old,he⟩,hl⟩ fun h' tk hk=>⟨rfl,I.turnedCh hk hf⟩
 self:=fun _ _ _ _ _ st h=>let ⟨_,he⟩:=st.1;wpAny_pyIter_enum he h
noncomputable def GI (K:PySem.W.Frag) (tl:TE):TI:=fun σ H R=>tl σ H fun x H1=>(∃ a,x= .ref a∧(∃ xs,SqL K H1 a xs)∧R (Ite K a) H1)∨∃ z,x= .str z∧R (Itz z) H1
section
variable {X:Cx} {K:PySem.W.Frag}
theorem EC {l:Expr} {tl:TE} {elts:List Expr} {k:Nat} {tpos p pos:Pos} (h:X.K=K) (hg:Gl X "enumerate") (hm:X.mg "enumerate"=none) (hl:PE X l tl) (hs:starEach [l] X.env=[(false,eval l X.env)]:=by rfl):
  PI X (.Tuple elts k tpos) (.Call (.Name "enumerate" p) [l] [] pos) (GI K tl):=by
 subst h
 intro pins s σ H R I h
 refine Call_ (k8 I hg hm boot_enumerate (PyProof.Rows.callWith_type1 (thn (aa hl ae hs pos pins s σ H (fun vs H1=>match vs with | [x]=>(∃ a,x= .ref a∧(∃ xs,SqL X.K H1 a xs)∧R (Ite X.K a) H1)∨∃ z,x= .str z∧R (Itz z) H1 | _=>False) I h) fun us s1 ⟨vs,H1,I1,r1,q1⟩=>?_) hs rfl))
 match vs,r1,q1 with
 | [x],r1,q1=>
 obtain ⟨u,rfl,ru⟩:=r1.one
 rcases q1 with ⟨a,rfl,⟨xs,hq⟩,q⟩ | ⟨z,rfl,q⟩
 ·cases ru
  obtain ⟨its,rv,pl,hz⟩:=I1.list hq
  refine call_enumerate_list pl.isList fun h' he hit hsz hk=>wpAny_pyIter_enum he ?_
  refine ⟨s1.heap.objs.size + 1,[s1.heap.objs.size + 1,s1.heap.objs.size],_,_,H1,rfl,I1.kept (t':=s1.toks) hk,pP a _ _ (Nat.ne_of_gt (Nat.lt_succ_self _)),⟨⟨_,he⟩,hit⟩,fun b hb=>?_,q⟩
  have hb':s1.heap.objs.size≤b:=(List.mem_cons.mp hb).elim (fun z=>by rw [z];exact Nat.le_succ _) (fun z=>by rw [List.mem_singleton.mp z];exact Nat.le_refl _)
  exact I1.fpOk hb' (I1.hok.fresh hb')
 ·obtain ⟨t,rfl⟩:=ru
  refine call_enumerate_str fun h' he hit hsz hk=>wpAny_pyIter_enum he ?_
  have fin:∀ n,(h'.IsStrIter s1.heap.objs.size n z t 0)→(∀ A:Around,A.handled=none→Draws X.prog X.w A s1.heap.objs.size [s1.heap.objs.size] z.cps.size (fun i v=>∃ c u,z.cps[i]? =some c∧v= .str ⟨#[c]⟩ u) (fun i h=>h.IsStrIter s1.heap.objs.size n z t i))→
    PIE X pins σ (.Tuple elts k tpos) R (.ref (s1.heap.objs.size + 1)) {s1 with heap:=h'}:=fun n hn D=>by
   refine ⟨s1.heap.objs.size + 1,[s1.heap.objs.size + 1,s1.heap.objs.size],_,_,H1,rfl,I1.kept (t':=s1.toks) hk,x9 _ _ (Nat.ne_of_gt (Nat.lt_succ_self _)) D,⟨⟨_,he⟩,hn⟩,fun b hb=>?_,q⟩
   have hb':s1.heap.objs.size≤b:=(List.mem_cons.mp hb).elim (fun z=>by rw [z];exact Nat.le_succ _) (fun z=>by rw [List.mem_singleton.mp z];exact Nat.le_refl _)
   exact I1.fpOk hb' (I1.hok.fresh hb')
  unfold strIterType at hit
  split at hit
  ·exact fin _ hit fun A hA=>Draws.strAscii hA _ z t
  ·exact fin _ hit fun A hA=>Draws.strWide hA _ z t
end
theorem xI {K:PySem.W.Frag} {a:Addr} {xs:List V} {g:TG} {tb:TS} {D:Ends} {σ:St} {H:Hp} (Pv:Nat→St→Hp→Prop) (h0:Pv 0 σ H) (hl:∀ i σ H,i≤xs.length→Pv i σ H→SqL K H a xs)
  (hs:∀ i x σ H p H',xs[i]? =some x→Pv i σ H→H p=none→Same H H'→H' p=some (.tup [.int i,x])→g (.ref p) σ H' fun σ2 H2=>tb {D with nx:=Pv (i + 1),ct:=Pv (i + 1),bk:=D.nx} σ2 H2) (hd:∀ σ H,Pv xs.length σ H→D.nx σ H):
  ∃ W:Nat→Nat→St→Hp→Prop,(∃ m,W 0 m σ H)∧∀ i m σ H,W i m σ H→
    ((Ite K a).stop i H∧D.nx σ H)∨((Ite K a).go i H∧∃ N:St→Hp→Prop,(∀ σ' H',N σ' H'→∃ m',m' < m∧W (i + 1) m' σ' H')∧∀ x H',(Ite K a).yld i H x H'→g x σ H' fun σ2 H2=>tb {D with nx:=N,ct:=N,bk:=D.nx} σ2 H2):=by
 refine ⟨fun i m σ H=>m=xs.length - i∧i≤xs.length∧Pv i σ H,⟨xs.length,by simp,Nat.zero_le _,h0⟩,?_⟩
 rintro i m σ H ⟨rfl,hi,p⟩
 have q:=hl i σ H hi p
 by_cases hlt:i < xs.length
 ·refine .inr ⟨⟨xs,xs[i],q,by simp [hlt]⟩,Pv (i + 1),fun σ' H' p'=>⟨xs.length - (i + 1),by omega,rfl,hlt,p'⟩,fun x H' y=>?_⟩
  obtain ⟨r,v,f,e1,e2,y⟩:=y
  subst e1 e2
  exact hs i v σ H r _ (y xs q) p f (a9 f) al
 ·have e:i=xs.length:=by omega
  subst e
  exact .inl ⟨⟨xs,q,rfl⟩,hd σ H p⟩
section
variable {σ:St} {H:Hp} {te:TE} {R:It→Hp→Prop}
theorem El {K:PySem.W.Frag} (h:te σ H fun x H1=>(∃ a,x= .ref a∧(∃ xs,SqL K H1 a xs)∧R (Ite K a) H1)∨∃ z,x= .str z∧R (Itz z) H1):GI K te σ H R:=h
end
noncomputable def Du:V→List V→Hp→VK→Prop:=fun x xs H Q=>∃ z y,x= .str z∧xs=[.str y]∧y.length≠0∧z.length + 2≤sizeLine∧∀ D,H D=none→Q (.ref D) (upd H D (.lst ((Txt.split z y).map V.str)))
theorem sx:∀ (ss:List Str) (n:Nat),Vals (ss.map V.str) (strsFrom n ss)
 | [],_=> .nil
 | x::r,n=> .cons ⟨n,rfl⟩ (sx r (n + 1))
section
variable {X:Cx}
theorem jH:MtR X "str.split" Du:=by
 intro pins s σ H x xs v us Q I rx rs h
 obtain ⟨z,y,rfl,rfl,hy,hz,q⟩:=h
 obtain ⟨t,rfl⟩:=rx
 obtain ⟨u,rfl,ru⟩:=qp rs
 obtain ⟨t',rfl⟩:=ru
 have hy:(y.length == 0)=false:=beq_eq_false_iff_ne.mpr hy
 have hle:=split_le z y
 have fr:=I.hok.fresh (Nat.le_refl s.heap.objs.size)
 have itself:Txt.split z y=[z]→EP X pins σ Q (.ref s.heap.objs.size) {s with heap:=s.heap.push {cls:= .type "list",data:= .seq [Value.str z t].toArray}}:=fun e=>
  ⟨.ref s.heap.objs.size,_,I.laid (t':=s.toks) (o:= .lst ((Txt.split z y).map V.str)) (fun b o e=>Heap.get?_push_of_some _ e) (Nat.le_refl _) ⟨by rw [List.length_map];omega,[.str z t],0,by rw [e];exact .cons ⟨t,rfl⟩ .nil,Heap.get?_push_size _ rfl⟩,rfl,q _ fr⟩
 cases h1:(decide (z.length < y.length)||decide (Builtin.Str.strKind z < Builtin.Str.strKind y)) with
 | true=>exact call_meets F.slot_str_split (typeIs_str _ _ _) F.entry_str_split (F.args_str_split_2 _ _) (meets_str_split_cannot_occur z y t t' h1) (itself (if_pos h1))
 | false=>
   cases hf:(Builtin.Str.occurrences z y 0 z.length (z.length + 1)).isEmpty with
   | true=>exact call_meets F.slot_str_split (typeIs_str _ _ _) F.entry_str_split (F.args_str_split_2 _ _) (meets_str_split_not_found z y t t' h1 hy hf) (itself ((if_neg (ne_true_of_eq_false h1)).trans (if_pos hf)))
   | false=>
     have e:Txt.split z y=Builtin.Str.partsBetween z (Builtin.Str.occurrences z y 0 z.length (z.length + 1)) y.length:=(if_neg (ne_true_of_eq_false h1)).trans (if_neg (ne_true_of_eq_false hf))
     refine call_meets F.slot_str_split (typeIs_str _ _ _) F.entry_str_split (F.args_str_split_2 _ _) (meets_str_split_sep z y t t' h1 hy hf (by omega) (by rw [← e];omega)) ?_
     refine ⟨.ref s.heap.objs.size,_,I.laid (fun b o e=>Heap.get?_push_of_some _ e) (Nat.le_refl _) (o:= .lst ((Txt.split z y).map V.str)) ⟨by rw [List.length_map];omega,_,0,?_,Heap.get?_push_size _ rfl⟩,rfl,q _ fr⟩
     rw [e]
     exact sx _ _
end
section
variable {σ:St} {H:Hp} {Q:VK} {D:Ends} {te ty tv td:TE} {x y v:V}
theorem mR {z w:Str} (hw:w.length≠0) (hz:z.length + 2≤sizeLine) (h:∀ p H2,H p=none→Same H H2→H2 p=some (.lst ((Txt.split z w).map V.str))→Q (.ref p) H2):Du (.str z) [.str w] H Q:=⟨z,w,rfl,rfl,hw,hz,eT h⟩
theorem eJ {l:Addr} {xs:List V} (e:H l=some (.lst xs)) (hz:xs.length < sizeLine) (h:∀ H2,Upd H H2 l (.lst (xs++[y]))→Q .non H2):Aw (.ref l) [y] H Q:=⟨l,xs,y,rfl,rfl,e,hz,h _ Upd.of⟩
noncomputable def DV (v:V) (x:V) (D:Ends) (σ:St) (y:V) (H:Hp):Prop:=∃ a H4,x= .ref a∧DPut H a y v H4∧D.nx σ H4
theorem F0 (h:tv σ H fun v H1=>td σ H1 fun x H2=>ty σ H2 (DV v x D σ)):F6 td ty tv D σ H:=h
theorem Er {p:Addr} {kvs:List (Key×V)} {z:Str} (e:H p=some (.dK kvs)) (hl:kvs.length < sizeLine) (h:∀ H2,Upd H H2 p (.dK (putK kvs (Sum.inr z) v))→D.nx σ H2):DV v (.ref p) D σ (.str z) H:=⟨p,_,rfl,DPut.k (k:=Sum.inr z) e hl,h _ Upd.of⟩
noncomputable def DT (C:Addr) (m:Str) (sp:Sp) (E:XK) (tr:TA) (σ:St) (Q:VK) (x:V) (H:Hp):Prop:=∃ a dx fs,x= .ref a∧H a=some (.ins C dx fs)∧fs.lookup m=none∧tr σ H fun vs H2=>sp (x::(vs++[])) H2 Q E
theorem FQ {C:Addr} {m:Str} {sp:Sp} {E:XK} {tr:TA} (h:te σ H (DT C m sp E tr σ Q)):Fz C m sp [] E te tr σ H Q:=h
theorem cN {C dx p:Addr} {m:Str} {fs:List (Str×V)} {sp:Sp} {E:XK} {tr:TA} (e:H p=some (.ins C dx fs)) (l:fs.lookup m=none) (h:tr σ H fun vs H2=>sp (.ref p::vs) H2 Q E):DT C m sp E tr σ Q (.ref p) H:=⟨p,dx,fs,rfl,e,l,by simp only [List.append_nil];exact h⟩
theorem Ej {K:PySem.W.Frag} {p:Addr} {xs:List V} (e:SqL K H p xs) (h:∀ q H2,H q=none→Same H H2→H2 q=some (.lst xs)→Q (.ref q) H2):vf K [.ref p] H Q:=⟨p,xs,rfl,.inl e,eT h⟩
theorem Ei {K:PySem.W.Frag} {p:Addr} {xs:List V} (e:SqT K H p xs) (h:∀ q H2,H q=none→Same H H2→H2 q=some (.lst xs)→Q (.ref q) H2):vf K [.ref p] H Q:=⟨p,xs,rfl,.inr e,eT h⟩
theorem FH {K:PySem.W.Frag} {p:Addr} {xs:List V} (e:SqL K H p xs) (h:∀ q H2,H q=none→Same H H2→H2 q=some (.tup xs)→Q (.ref q) H2):Au K [.ref p] H Q:=⟨p,xs,rfl,.inl ⟨e,eT h⟩⟩
theorem FG {K:PySem.W.Frag} {p:Addr} {xs:List V} (e:SqT K H p xs) (h:Q (.ref p) H):Au K [.ref p] H Q:=⟨p,xs,rfl,.inr ⟨e,h⟩⟩
end
noncomputable def HP (h:Heap) (e:Addr) (C:Value) (dx:Option Addr) (T:Option (Addr×Value)):Prop:=
 ∃ oe vs,h.get? e=some oe∧oe.cls=C∧oe.dict=dx∧oe.data= .fields vs∧1 < vs.size∧
   match T with
   | none=>vs[1]? =some .none
   | some (t,fl)=>vs[1]? =some (.ref t)∧t≠e∧∃ oT ts,h.get? t=some oT∧oT.data= .fields ts∧ts[3]? =some fl
section
variable {X:Cx} {pins:List (Addr×Obj)} {σ:St} {H:Hp} {s:Shared}
noncomputable def FpN (X:Cx) (pins:List (Addr×Obj)) (H:Hp) (b:Addr):Prop:=
 H b=none∧b≠X.env.locals∧b∉X.fs∧(b∈X.ex∨X.s₀.heap.get? b=none)∧(∀ x c,X.env.cells.lookup x=some c→c≠b)∧∀ p∈X.pn++pins,p.1≠b
structure Fly (X:Cx) (pins:List (Addr×Obj)) (H:Hp) (e:Addr) (C:Value) (dx:Option Addr) (T:Option (Addr×Value)) (h:Heap):Prop where
 at_:HP h e C dx T
 fe:FpN X pins H e
 ft:∀ t fl,T=some (t,fl)→FpN X pins H t
end
noncomputable abbrev XW:=St→XK
structure XCls (h:Heap) (C:Addr) (bmB:List Value) (newId:String):Prop where
 obj:∃ bm N nm q bs hdct sn sub ab col dd k0 k1 k2 k3 k5 mN,h.get? C=some (excClassObj nm q C N bs bm hdct sn sub ab col dd k0 k1 k2 k3 k5 newId)∧h.Ns N mN∧mN "__init__"=none∧OwnTail h bmB bm
structure Fg (K:PySem.W.Frag) (G:Addr):Prop where
 ty:PySem.W.typeIn K (.ref G)=some (.type "type")
 cls:PySem.W.isClsIn K G=true
 base:PySem.W.mroIn K G (.type "BaseException")=some true
noncomputable def ExcO (x:Addr) (C:Value) (dx:Option Addr):HO:= .ext fun h=>∃ oe vs,h.get? x=some oe∧oe.cls=C∧oe.dict=dx∧oe.data= .fields vs
noncomputable abbrev Cx.pin (X:Cx) (pins:List (Addr×Obj)):Cx:={X with pn:=X.pn++pins}
noncomputable abbrev Cx.mark (X:Cx) (pins:List (Addr×Obj)) (e:Value):Cx:={X with A:=X.A.mark (some e),calm:=false,pn:=X.pn++pins,xe:=fun _ _=>False}
noncomputable def Ends.less (D:Ends) (i:Nat):Ends:={nx:=fun σ H=>D.nx (σ.set i none) H,rt:=D.rt,bk:=fun σ H=>D.bk (σ.set i none) H,ct:=fun σ H=>D.ct (σ.set i none) H}
noncomputable def WTry (K:PySem.W.Frag) (G:Addr) (i:Nat) (Wo:XW) (ts:TS) (D:Ends):XW:=fun σ C dx H=>∃ c,C= .ref c∧((PySem.W.mroIn K c (.ref G)=some true∧∀ x,H x=none→ts (D.less i) (σ.set i (some (.ref x))) (upd H x (ExcO x C dx)))∨
 (PySem.W.mroIn K c (.ref G)=some false∧Wo σ C dx H))
structure XIsi (K:PySem.W.Frag) (D:Addr):Prop where
 cls:PySem.W.isClsIn K D=true
 ga:PySem.W.findIn K (.ref D) "__getattribute__"=some (some (.builtin "BaseException.__getattribute__"))
 gr:PySem.W.findIn K (.ref D) "__getattr__"=some none
 ha:PySem.W.findIn K (.ref D) "__class__"=some (some (.builtin "object.__class__"))
 hn:PySem.W.specialIn K (.builtin "object.__class__") "__get__"=some (some (.builtin "getset_descriptor.__get__"))
 tk:PySem.W.takesIn K (.builtin "object.__class__")=some true
 hm:PySem.W.mroIn K D (.type "object")=some true
 base:PySem.W.mroIn K D (.type "BaseException")=some true
noncomputable def dV:V→Value
 | .ref a=> .ref a
 | .ty n=> .type n
 | _=> .none
theorem qK {X:Cx} {K:PySem.W.Frag} {es:List Expr} {k:Nat} {t:TGs} {n:Nat} {pos:Pos} (h:X.K=K) (hc:X.calm=true) (ht:PGs X es t)
  (hn:(assignEach es X.env).length=n:=by rfl) (hst:(assignEach es X.env).findIdx? (·.1)=none:=by rfl):PG X (.Tuple es k pos) (gTup K n t):=by subst h;exact sU hc ht hn hst
theorem sV {α β:Type} {F:α→β→Prop}:∀ {l:List α} {m:List β},l.length=m.length→(∀ (i:Nat) (a:α) (b:β),l[i]? =some a→m[i]? =some b→F a b)→Paired F l m
 | [],[],_,_=> .nil
 | a::l,b::m,hl,h=> .cons (h 0 a b rfl rfl) (sV (by simpa using hl) fun i x y hx hy=>h (i + 1) x y (by simpa using hx) (by simpa using hy))
 | [],_::_,hl,_=>by simp at hl
 | _::_,[],hl,_=>by simp at hl
section
variable {σ:St} {H:Hp} {Q:VK} {D:Ends} {te ty tv td:TE} {x y v:V}
noncomputable def G8 (y:V) (Q:VK) (x:V) (H:Hp):Prop:=∃ a o,x= .ref a∧DGet H a y o∧Q (.bl o.isSome) H
theorem Hy (h:ty σ H fun y H1=>td σ H1 (G8 y Q)):tDIn ty td σ H Q:=h
theorem Dp {p:Addr} {kvs:List (Key×V)} {z:Str} (e:H p=some (.dK kvs)) (h:Q (.bl (valV kvs (Sum.inr z)).isSome) H):G8 (.str z) Q (.ref p) H:=⟨p,_,rfl,DGet.k (k:=Sum.inr z) e,h⟩
noncomputable def DW (y:V) (Q:VK) (x:V) (H:Hp):Prop:=∃ a o,x= .ref a∧DGet H a y o∧Q (.bl (!o.isSome)) H
theorem F1 (h:ty σ H fun y H1=>td σ H1 (DW y Q)):Ab ty td σ H Q:=h
theorem Es {p:Addr} {kvs:List (Key×V)} {z:Str} (e:H p=some (.dK kvs)) (h:Q (.bl (!(valV kvs (Sum.inr z)).isSome)) H):DW (.str z) Q (.ref p) H:=⟨p,_,rfl,DGet.k (k:=Sum.inr z) e,h⟩
theorem qA {l b:Addr} {xs zs:List V} (e:H l=some (.lst xs)) (e':H b=some (.lst zs)) (hz:xs.length + zs.length≤sizeLine) (h:∀ p H2,H p=none→Same H H2→H2 p=some (.lst (xs++zs))→Q (.ref p) H2):rCat (.ref l) (.ref b) H Q:=⟨l,b,xs,zs,rfl,rfl,e,e',hz,eT h⟩
end
open AutoSeq1 (wpAny_loadPart')
section
variable {prog:Program} {w:World} {A:Around} {E:Value→Shared→Prop} {s:Shared}
theorem kj {it t:Addr} {i:Nat} {items:Array Value} {x:Value} {Q:Value→Shared→Prop} (hit:s.heap.IsTupleIter it t i) (ht:s.heap.IsTuple t items) (hx:items[i]? =some x)
  (hQ:∀ h',h'.IsTupleIter it t (i + 1)→Heap.SameBut it s.heap h'→Q x {s with heap:=h'}):
  wpAny (model prog w) A (Builtin.SmallTypes.nextOf (.ref it)) Q E s:=by
 obtain ⟨o,ho,hc,hd⟩:=id hit
 obtain ⟨ol,hol,_,nl,hdl⟩:=ht
 unfold Builtin.SmallTypes.nextOf
 refine wpAny_bind (wpAny_callSpecial?_slot (name:=Str.ofString "__next__") hit.typeIs F.slot_tuple_iterator_next
  (wpAny_call_entry F.slot_tuple_iterator_next hit.typeIs F.entry_tuple_iterator_next ?_ (F.args_tuple_iterator_next_1 _)))
 show wpAny _ _ (field (.ref it) 0 >>=_) _ _ s
 refine wpAny_bind (wpAny_field ho hd (x:= .ref t) rfl ?_)
 show wpAny _ _ (if (Value.ref t == Value.none)=true then _ else _) _ _ s
 rw [if_neg (show ¬ ((Value.ref t == Value.none)=true) from Bool.false_ne_true)]
 show wpAny _ _ (field (.ref it) 1 >>=_) _ _ s
 refine wpAny_bind (wpAny_field ho hd (x:= .int i 0) rfl ?_)
 show wpAny _ _ (seqItems? (.ref t) >>=_) _ _ s
 refine wpAny_bind (wpAny_seqItems hol hdl ?_)
 simp only [Int.toNat_natCast,hx]
 refine wpAny_bind (wpAny_setField ho hd (by simp) (wpAny_pure ⟨x,rfl,wpAny_pure (hQ _ ?_ (Heap.SameBut.update ..))⟩))
 exact ⟨_,Heap.get?_update_self _ ho (Obj.isFreed_of_fields (Obj.data_mapFields hd _)),(Obj.cls_mapFields ..).trans hc,by
  rw [Obj.data_mapFields hd];simp [rawInt]⟩
theorem lY {it t:Addr} {i:Nat} {items:Array Value} {Q:Value→Shared→Prop} (hh:A.handled=none) (hit:s.heap.IsTupleIter it t i) (ht:s.heap.IsTuple t items) (hx:items[i]? =none)
  (hE:∀ h' e,Heap.ExtBut it s.heap h'→(∃ o,h'.get? e=some o∧o.cls= .type "StopIteration")→E (.ref e) {s with heap:=h'}):
  wpAny (model prog w) A (Builtin.SmallTypes.nextOf (.ref it)) Q E s:=by
 obtain ⟨o,ho,hc,hd⟩:=id hit
 obtain ⟨ol,hol,_,nl,hdl⟩:=ht
 unfold Builtin.SmallTypes.nextOf
 refine wpAny_bind (wpAny_callSpecial?_slot (name:=Str.ofString "__next__") hit.typeIs F.slot_tuple_iterator_next
  (wpAny_call_entry F.slot_tuple_iterator_next hit.typeIs F.entry_tuple_iterator_next ?_ (F.args_tuple_iterator_next_1 _)))
 show wpAny _ _ (field (.ref it) 0 >>=_) _ _ s
 refine wpAny_bind (wpAny_field ho hd (x:= .ref t) rfl ?_)
 show wpAny _ _ (if (Value.ref t == Value.none)=true then _ else _) _ _ s
 rw [if_neg (show ¬ ((Value.ref t == Value.none)=true) from Bool.false_ne_true)]
 show wpAny _ _ (field (.ref it) 1 >>=_) _ _ s
 refine wpAny_bind (wpAny_field ho hd (x:= .int i 0) rfl ?_)
 show wpAny _ _ (seqItems? (.ref t) >>=_) _ _ s
 refine wpAny_bind (wpAny_seqItems hol hdl ?_)
 simp only [Int.toNat_natCast,hx]
 refine wpAny_bind (wpAny_rule (wpAny_bind (wpAny_setField ho hd (by simp) ?_)))
 show wpAny _ _ (newExc (.type "StopIteration") [] >>=_) _ _ _
 refine wpAny_bind ?_
 simp only [newExc,newTuple]
 refine wpAny_bind (wpAny_newObj_type ?_ (by size_fits))
 refine wpAny_bind (m:=firstArgMember _ _) (wpAny_of_eq (a:=Value.none) (by first | rfl | (simp only [firstArgMember];rfl)) ?_)
 refine wpAny_newObj_type ?_ (by size_fits)
 simp only [raiseNew]
 refine wpAny_bind (wpAny_handled ?_)
 first | rw [show A.in1.handled=none from hh] | rw [hh]
 refine wpAny_bind (wpAny_pure (wpAny_throw ?_))
 exact hE _ _ (((Heap.SameBut.update ..).extBut.push _).push _) ⟨_,Heap.get?_push_size _ rfl,rfl⟩
end
theorem Draws.tuple {prog:Program} {w:World} {A:Around} (hh:A.handled=none) (it l:Addr) (hne:l≠it) (items:Array Value):
  Draws prog w A it [it,l] items.size (fun i v=>items[i]? =some v) (fun i h=>h.IsTupleIter it l i∧h.IsTuple l items) where
 live:=fun _ _ st=>let ⟨o,ho,_⟩:=st.1;⟨o,ho⟩
 frame:=fun _ _ _ st hk=>⟨let ⟨o,ho,r⟩:=st.1;⟨o,hk it (by simp) o ho,r⟩,let ⟨o,ho,r⟩:=st.2;⟨o,hk l (by simp) o ho,r⟩⟩
 item:=fun i s Q E hi st hQ=>by
  refine kj st.1 st.2 (x:=items[i]) (by simp [hi]) fun h' hit' hs'=>?_
  exact hQ _ h' s.toks (by simp [hi]) ⟨hit',st.2.extBut hs'.extBut hne⟩ hs'
 done:=fun s Q E st hE=>lY hh st.1 st.2 (by simp) hE
theorem iD (l:Addr) (items:Array Value) (n:Nat) (dct:Option Addr) (sl:Array (Option Value)):
  Meets (Builtin.«enumerate.__new__» ⟨[.type "enumerate",.ref l],[]⟩) (fun _ R s=>s.heap.get? l=some {cls:= .type "tuple",dict:=dct,data:= .seq items n,slots:=sl}∧
   R (.ok (.ret (.ref (s.heap.push {cls:= .type "tuple_iterator",data:= .fields #[.ref l,.int 0 0]}).objs.size)))
     {s with heap:=(s.heap.push {cls:= .type "tuple_iterator",data:= .fields #[.ref l,.int 0 0]}).push {cls:= .type "enumerate",data:= .fields #[.none,.bool false,.ref s.heap.objs.size,rawInt 0,.none,.none]}}):=
 .of_wp fun prog w A R s h=>by
  obtain ⟨hp,g,d,tk,os⟩:=s;obtain ⟨hl,h⟩:=h
  have hsub:=sub_enumerate
  have hL:Heap.IsTuple (Shared.heap ⟨hp,g,d,tk,os⟩) l items:=⟨_,hl,rfl,n,rfl⟩
  wp_walk using wpAny_loadPart' hl
  refine wpAny_stack_any fun st=>wpAny_pure ?_
  split
  ·rename_i c _ _ _ _ _
   cases (c == Value.type "enumerate")
   ·wp_walk using wpAny_loadPart' hl,wpAny_pyIter_tuple hL
    exact ⟨_,rfl,h⟩
   ·wp_walk using wpAny_loadPart' hl,wpAny_pyIter_tuple hL
    exact ⟨_,rfl,h⟩
  ·wp_walk using wpAny_loadPart' hl,wpAny_pyIter_tuple hL
   exact ⟨_,rfl,h⟩
theorem iF {prog:Program} {w:World} {A:Around} {E:Value→Shared→Prop} {s:Shared} {l:Addr} {items:Array Value} {Q:Value→Shared→Prop} (hL:s.heap.IsTuple l items)
  (h:∀ h',IsEnum h' (s.heap.objs.size + 1) s.heap.objs.size 0 .none→h'.IsTupleIter s.heap.objs.size l 0→h'.objs.size=s.heap.objs.size + 2→
   (∀ b o,s.heap.get? b=some o→h'.get? b=some o)→Q (.ref (s.heap.objs.size + 1)) {s with heap:=h'}):
  wpAny (model prog w) A (call (.type "enumerate") [.ref l]) Q E s:=by
 obtain ⟨⟨c,dct,dt,sl⟩,hl,hc,n,hd⟩:=hL
 replace hc:c= .type "tuple":=hc
 replace hd:dt= .seq items n:=hd
 subst hc hd
 refine callType_new F.called_enumerate (by decide) (F.typeCall_enumerate_1 _) (F.newCall_enumerate_1 _) (fun obj=>F.args_object_init_2 obj _) F.entry_enumerate_new
  (iD l items n dct sl) ⟨hl,?_⟩
 have hz:(s.heap.push {cls:= .type "tuple_iterator",data:= .fields #[.ref l,.int 0 0]}).objs.size=s.heap.objs.size + 1:=Heap.size_push ..
 show _∧_
 rw [hz]
 have he:IsEnum ((s.heap.push {cls:= .type "tuple_iterator",data:= .fields #[.ref l,.int 0 0]}).push
   {cls:= .type "enumerate",data:= .fields #[.none,.bool false,.ref s.heap.objs.size,rawInt 0,.none,.none]}) (s.heap.objs.size + 1) s.heap.objs.size 0 .none:=by
  have:=Heap.get?_push_size (s.heap.push {cls:= .type "tuple_iterator",data:= .fields #[.ref l,.int 0 0]})
   (o:={cls:= .type "enumerate",data:= .fields #[.none,.bool false,.ref s.heap.objs.size,rawInt 0,.none,.none]}) rfl
  rw [hz] at this;exact this
 refine ⟨⟨_,he,rfl⟩,h _ he ⟨_,Heap.get?_push_of_some _ (Heap.get?_push_size _ rfl),rfl,rfl⟩ (by rw [Heap.size_push,hz]) fun b o x=>Heap.get?_push_of_some _ (Heap.get?_push_of_some _ x)⟩
noncomputable def Itet (K:PySem.W.Frag) (a:Addr):It:=
 ⟨fun i H=>∃ xs x,SqT K H a xs∧xs[i]? =some x,fun i H x H'=>∃ p v,H p=none∧x= .ref p∧H'=upd H p (.tup [.int i,v])∧∀ xs,SqT K H a xs→xs[i]? =some v,fun i H=>∃ xs,SqT K H a xs∧xs.length=i⟩
theorem x8 {P:Program} {w:World} {K:PySem.W.Frag} {elts:List Expr} {k:Nat} {pos:Pos} (a e it:Addr) (hei:e≠it):
  Turn P w K (.Tuple elts k pos) (Itet K a) [e,it] e (fun i h=>(∃ old,IsEnum h e it i old)∧h.IsTupleIter it a i) where
 mem:=by simp
 obj:=fun i h st b hb=>by
  obtain ⟨⟨old,he⟩,⟨o,ho,hc,hd⟩⟩:=st
  rcases List.mem_cons.mp hb with z | z
  ·subst z;exact ⟨_,he,fun v z=>by cases z⟩
  ·rw [List.mem_singleton.mp z];exact ⟨o,ho,fun v z=>by rw [hd] at z;cases z⟩
 keep:=fun i h h' st k=>⟨let ⟨old,he⟩:=st.1;⟨old,k e (by simp) _ he⟩,(let ⟨o,ho,r⟩:=st.2;⟨o,k it (by simp) o ho,r⟩)⟩
 item:=by
  intro X hP hw hK hc i pins s σ H E I hf st hg
  subst hP hw hK
  obtain ⟨xs,x,hq,hx⟩:=hg
  obtain ⟨its,rv,p,hz⟩:=I.tuple hq
  have pT:s.heap.IsTuple a its.toArray:=p
  obtain ⟨⟨old,he⟩,hl⟩:=st
  have hai:a≠it:=fun z=>by
   obtain ⟨o,ho,hcl,_⟩:=hl
   obtain ⟨o',ho',hcl',_⟩:=pT
   rw [z,ho] at ho';cases ho';rw [hcl] at hcl';exact absurd hcl' (by decide)
  have hae:a≠e:=fun z=>by
   obtain ⟨o',ho',hcl',_⟩:=pT
   rw [z,he] at ho';cases ho';exact absurd (show Value.type "enumerate"= .type "tuple" from hcl') (by decide)
  have W:=WalksT.enumerateD (prog:=X.prog) (w:=X.w) (A:=X.A) (Draws.tuple (A:=X.A.in1) (I.ok.hd hc) it a hai its.toArray) e hei (by simp [hei,Ne.symm hae]) (by simp)
  have hi:i < its.toArray.size:=by have:=rv.length;have:=(List.getElem?_eq_some_iff.mp hx).1;simp;omega
  refine W.item i s _ _ hi ⟨⟨old,he⟩,hl,pT⟩ fun T vals h' tk hPt hT htup hmid hk=>⟨_,rfl,W.go elts k pos i T _ _ _ hmid fun h'' hst hk2=>?_⟩
  obtain ⟨t,x',hx',rfl⟩:=hPt
  have hap:=W.apart i T h' hmid
  have ru:RelV x x':=by
   obtain ⟨u,hu,r⟩:=rv.get hx
   have hx'':its[i]? =some x':=by simpa using hx'
   rw [hu] at hx'';cases hx'';exact r
  have kk:∀ b u,b∉[e,it]→s.heap.get? b=some u→h''.get? b=some u:=fun b u hb q=>hk2 b u hb (hk b u hb q)
  have fr:H T=none:=I.hok.fresh hT
  refine ⟨.ref T,upd H T (.tup [.int i,x]),I.laidCh (t':=tk) kk hT ⟨z8,[.int i t,x'],.cons ⟨t,rfl⟩ (.cons ru .nil),?_⟩ hf,rfl,⟨T,x,fr,rfl,rfl,fun ys hy=>by rw [I.tuple_inj hy hq];exact hx⟩,⟨hst.1,hst.2.1⟩,fun b hb=>?_⟩
  ·obtain ⟨o,ho,r⟩:=htup
   exact ⟨o,hk2 T o hap ho,r⟩
  ·have fb:=(hf b hb)
   rw [aq (fun z=>?_)]
   ·exact fb.1
   ·have lt:b < s.heap.objs.size:=by
     rcases List.mem_cons.mp hb with z | z
     ·subst z;exact Heap.lt_size he
     ·rw [List.mem_singleton.mp z];obtain ⟨o,ho,_⟩:=hl;exact Heap.lt_size ho
    rw [z] at lt
    exact absurd (Nat.lt_of_lt_of_le lt hT) (Nat.lt_irrefl _)
 done:=by
  intro X hP hw hK hc i pins s σ H E I hf st hg
  subst hP hw hK
  obtain ⟨xs,hq,hx⟩:=hg
  obtain ⟨its,rv,p,hz⟩:=I.tuple hq
  have pT:s.heap.IsTuple a its.toArray:=p
  obtain ⟨⟨old,he⟩,hl⟩:=st
  have hai:a≠it:=fun z=>by
   obtain ⟨o,ho,hcl,_⟩:=hl
   obtain ⟨o',ho',hcl',_⟩:=pT
   rw [z,ho] at ho';cases ho';rw [hcl] at hcl';exact absurd hcl' (by decide)
  have hae:a≠e:=fun z=>by
   obtain ⟨o',ho',hcl',_⟩:=pT
   rw [z,he] at ho';cases ho';exact absurd (show Value.type "enumerate"= .type "tuple" from hcl') (by decide)
  have W:=WalksT.enumerateD (prog:=X.prog) (w:=X.w) (A:=X.A) (Draws.tuple (A:=X.A.in1) (I.ok.hd hc) it a hai its.toArray) e hei (by simp [hei,Ne.symm hae]) (by simp)
  have hn:its.toArray.size=i:=by have:=rv.length;simp;omega
  subst hn
  exact W.done s _ _ ⟨⟨old,he⟩,hl,pT⟩ fun h' tk hk=>⟨rfl,I.turnedCh hk hf⟩
 self:=fun _ _ _ _ _ st h=>let ⟨_,he⟩:=st.1;wpAny_pyIter_enum he h
noncomputable def DM (K:PySem.W.Frag) (tl:TE):TI:=fun σ H R=>tl σ H fun x H1=>∃ a,x= .ref a∧(((∃ xs,SqL K H1 a xs)∧R (Ite K a) H1)∨((∃ xs,SqT K H1 a xs)∧R (Itet K a) H1))
section
variable {X:Cx} {K:PySem.W.Frag}
theorem qJ {l:Expr} {tl:TE} {elts:List Expr} {k:Nat} {tpos p pos:Pos} (h:X.K=K) (hg:Gl X "enumerate") (hm:X.mg "enumerate"=none) (hl:PE X l tl) (hs:starEach [l] X.env=[(false,eval l X.env)]:=by rfl):
  PI X (.Tuple elts k tpos) (.Call (.Name "enumerate" p) [l] [] pos) (DM K tl):=by
 subst h
 intro pins s σ H R I h
 refine Call_ (k8 I hg hm boot_enumerate (PyProof.Rows.callWith_type1 (thn (aa hl ae hs pos pins s σ H (fun vs H1=>match vs with | [x]=>∃ a,x= .ref a∧(((∃ xs,SqL X.K H1 a xs)∧R (Ite X.K a) H1)∨((∃ xs,SqT X.K H1 a xs)∧R (Itet X.K a) H1)) | _=>False) I h) fun us s1 ⟨vs,H1,I1,r1,q1⟩=>?_) hs rfl))
 match vs,r1,q1 with
 | [x],r1,q1=>
 obtain ⟨u,rfl,ru⟩:=r1.one
 obtain ⟨a,rfl,q1⟩:=q1
 cases ru
 have fin:∀ b∈[s1.heap.objs.size + 1,s1.heap.objs.size],FpOk X pins H1 b:=fun b hb=>by
  have hb':s1.heap.objs.size≤b:=(List.mem_cons.mp hb).elim (fun z=>by rw [z];exact Nat.le_succ _) (fun z=>by rw [List.mem_singleton.mp z];exact Nat.le_refl _)
  exact I1.fpOk hb' (I1.hok.fresh hb')
 rcases q1 with ⟨⟨xs,hq⟩,q⟩ | ⟨⟨xs,hq⟩,q⟩
 ·obtain ⟨its,rv,pl,hz⟩:=I1.list hq
  refine call_enumerate_list pl.isList fun h' he hit hsz hk=>wpAny_pyIter_enum he ?_
  exact ⟨s1.heap.objs.size + 1,[s1.heap.objs.size + 1,s1.heap.objs.size],_,_,H1,rfl,I1.kept (t':=s1.toks) hk,pP a _ _ (Nat.ne_of_gt (Nat.lt_succ_self _)),⟨⟨_,he⟩,hit⟩,fin,q⟩
 ·obtain ⟨its,rv,pl,hz⟩:=I1.tuple hq
  refine iF (show s1.heap.IsTuple a its.toArray from pl) fun h' he hit hsz hk=>wpAny_pyIter_enum he ?_
  exact ⟨s1.heap.objs.size + 1,[s1.heap.objs.size + 1,s1.heap.objs.size],_,_,H1,rfl,I1.kept (t':=s1.toks) hk,x8 a _ _ (Nat.ne_of_gt (Nat.lt_succ_self _)),⟨⟨_,he⟩,hit⟩,fin,q⟩
end
theorem qf {K:PySem.W.Frag} {n:Nat} {fx:List Nat} {g:TG} {tc:TT} {te:TE} {σ:St} {H1:Hp} {D:Addr} {Q:Hp→Prop} {a:Addr} {xs:List V} (Pv:Nat→List V→Hp→Prop) (h0:Pv 0 [] (upd H1 D (.lst []))) (hl:∀ i ys H,i≤xs.length→Pv i ys H→SqT K H a xs)
  (hs:∀ i x ys H p H',xs[i]? =some x→Pv i ys H→H p=none→Same H H'→H' p=some (.tup [.int i,x])→g (.ref p) (bH n fx σ) H' fun σ4 H4=>tc σ4 H4 fun b H5=>if b=true then te σ4 H5 fun v H6=>H6 D=some (.lst ys)∧ys.length < sizeLine∧Pv (i + 1) (ys++[v]) (upd H6 D (.lst (ys++[v]))) else Pv (i + 1) ys H5)
  (hd:∀ ys H,Pv xs.length ys H→Q H):
  ∃ W:Nat→Nat→List V→Hp→Prop,(∃ m,W 0 m [] (upd H1 D (.lst [])))∧∀ i m ys H2,W i m ys H2→((Itet K a).stop i H2∧Q H2)∨
    ((Itet K a).go i H2∧∃ N:List V→Hp→Prop,(∀ ys' H',N ys' H'→∃ m',m' < m∧W (i + 1) m' ys' H')∧∀ x H3,(Itet K a).yld i H2 x H3→g x (bH n fx σ) H3 fun σ4 H4=>tc σ4 H4 fun b H5=>
      if b=true then te σ4 H5 fun v H6=>H6 D=some (.lst ys)∧ys.length < sizeLine∧N (ys++[v]) (upd H6 D (.lst (ys++[v]))) else N ys H5):=by
 refine ⟨fun i m ys H=>m=xs.length - i∧i≤xs.length∧Pv i ys H,⟨xs.length,by simp,Nat.zero_le _,h0⟩,?_⟩
 rintro i m ys H ⟨rfl,hi,p⟩
 have q:=hl i ys H hi p
 by_cases hlt:i < xs.length
 ·refine .inr ⟨⟨xs,xs[i],q,by simp [hlt]⟩,Pv (i + 1),fun ys' H' p'=>⟨xs.length - (i + 1),by omega,rfl,hlt,p'⟩,fun x H' y=>?_⟩
  obtain ⟨r,v,f,e1,e2,y⟩:=y
  subst e1 e2
  exact hs i v ys H r _ (y xs q) p f (a9 f) al
 ·have e:i=xs.length:=by omega
  subst e
  exact .inl ⟨⟨xs,q,rfl⟩,hd ys H p⟩
section
variable {σ:St} {H:Hp} {te:TE} {R:It→Hp→Prop}
theorem dn {K:PySem.W.Frag} (h:te σ H fun x H1=>∃ a,x= .ref a∧(((∃ xs,SqL K H1 a xs)∧R (Ite K a) H1)∨((∃ xs,SqT K H1 a xs)∧R (Itet K a) H1))):DM K te σ H R:=h
end
namespace ZP
noncomputable abbrev Busy (h:Heap) (z TI TO T:Addr) (fl:Bool):Prop:=h.get? z=some {cls:= .type "zip",data:= .fields #[rawInt T,.bool fl,.bool false,.ref TI,.ref TO]}
section
variable {prog:Program} {w:World} {A:Around} {E:Value→Shared→Prop} {s:Shared}
structure ZGot (h:Heap) (lo:Nat) (xs ys:Array Value) (as:List Addr):Prop where
 rise:as.Pairwise (· < ·)
 above:∀ a∈as,lo≤a∧a < h.objs.size
 pairs:∀ (j:Nat) (a:Addr),as[j]? =some a→∃ x y,xs[j]? =some x∧ys[j]? =some y∧h.IsTuple a #[x,y]
structure ZSt (h:Heap) (z TI TO i1 i2 l1 l2:Addr) (lo:Nat) (xs ys:Array Value) (i:Nat) (as:List Addr):Prop where
 zp:(i=0∧IsZip h z TI TO .none)∨∃ T fl,Busy h z TI TO T fl∧as[0]? =some T
 hI:IsPair h TI (.ref i1) (.ref i2)
 hO:∃ a b,IsPair h TO a b
 h1:h.IsListIter i1 l1 i
 h2:h.IsListIter i2 l2 i
 hl1:h.IsList l1 xs
 hl2:h.IsList l2 ys
 len:as.length=i
 got:ZGot h lo xs ys as
structure Und (z TI TO i1 i2 l1 l2 S:Addr) (lo:Nat):Prop where
 ap:ZipApart z TI TO i1 i2 l1 l2
 Sz:S≠z
 STI:S≠TI
 STO:S≠TO
 Si1:S≠i1
 Si2:S≠i2
 Sl1:S≠l1
 Sl2:S≠l2
 z:z < lo
 TO:TO < lo
 i1:i1 < lo
 i2:i2 < lo
 S:S < lo
structure New (h:Heap) (z TI TO i1 i2 l1 l2:Addr) (xs ys:Array Value):Prop where
 ap:ZipApart z TI TO i1 i2 l1 l2
 hz:IsZip h z TI TO .none
 hI:IsPair h TI (.ref i1) (.ref i2)
 hO:∃ a b,IsPair h TO a b
 h1:h.IsListIter i1 l1 0
 h2:h.IsListIter i2 l2 0
 hl1:h.IsList l1 xs
 hl2:h.IsList l2 ys
end
end ZP
open PySem PySem.Spec PyProof.Rows
structure FunD (K:PySem.W.Frag) (x qual:Str) (st:Stmt) (f:Addr) (fd:FuncData) (dv:Value):Prop where
 ex:∃ (oc:Value) (od:Option Addr) (T:Addr) (kV doc pm:Value) (an:Option Addr) (cdv ct:Value) (osl:Array (Option Value)) (tc:Value) (td:Option Addr) (n:Nat) (tsl:Array (Option Value)),
  fd=PySem.W.fnOf x qual (aD st) (aC st) (ad st) (.ref T) kV doc pm an cdv ct∧K.lookup f=some ⟨oc,od,.func fd,osl⟩∧PySem.W.codeIn K cdv qual=true∧K.lookup T=some ⟨tc,td,.seq #[dv] n,tsl⟩
 kp:PySem.W.keepIn K (.ref f)=true
noncomputable abbrev xBM:List Value:=[.type "ValueError",.type "Exception",.type "BaseException",.type "object"]
structure XOwn (K:PySem.W.Frag) (C W f:Addr):Prop where
 lk:∃ nm q N bs sn sub ab col dd k0 k1 k2 k3 k5,K.lookup C=some (excClassObj nm q C N bs (.ref W::xBM) true sn sub ab col dd k0 k1 k2 k3 k5 "ValueError.__new__")
 up:PySem.W.excIn K W xBM "ValueError.__new__"=true
 init:PySem.W.findIn K (.ref C) "__init__"=some (some (.ref f))
 fn:PySem.W.isFn K (.ref f)=true
 kp:PySem.W.keepIn K (.ref C)=true
 sa:PySem.W.findIn K (.ref C) "__setattr__"=some (some (.builtin "object.__setattr__"))
 mo:PySem.W.mroIn K C (.type "object")=some true
 mv:PySem.W.mroIn K C (.type "ValueError")=some true
section
variable {X:Cx} {pins:List (Addr×Obj)} {σ:St} {H:Hp} {s:Shared} {p C W f:Addr} {fs:List (Str×V)}
structure HX (K:PySem.W.Frag) (W:Addr):Prop where
 ga:PySem.W.specialIn K (.ref W) "__getattribute__"=some (some (.builtin "type.__getattribute__"))
 rd:PySem.W.readsIn K W (.type "type")=true
 fd:PySem.W.findCls K (.ref W) (.type "type") "__init__"=some (.val (.builtin "ValueError.__init__"))
theorem eU {st:Stmt}:PS X st (fun _ _ _=>False):=fun _ _ _ _ _ _ h=>h.elim
end
end L2
namespace PySem
theorem F.entry_dict_update_loop:entryFor table "dict.update.loop"=some Builtin.«dict.update.loop»:=entryFor_of_fast (by kernel_rfl)
theorem F.plain_dict_update_loop:plainId "dict.update.loop"=true:=by decide +kernel
theorem F.list_keys_none:typeLookup (.type "list") "keys"=pure none:=by rw [typeLookup_type,builtinLookup_eq_fast];kernel_rfl
theorem vU {prog:Program} {w:World} {A:Around} {E:Value→Shared→Prop} {s:Shared} {a:Addr} {xs:Array Value} {k:Nat} {name:Str} {Q:Option Value→Shared→Prop}
  (hx:s.heap.get? a=some {cls:= .type "list",data:= .seq xs k}) (hmiss:typeLookup (.type "list") name=pure none) (hname:(["__module__","__name__","__qualname__","__doc__","__annotations__"]:List Str).contains name=false) (hA:A.handled=none)
  (h:∀ h' tk,(∀ b o,s.heap.get? b=some o→h'.get? b=some o)→Q none {s with heap:=h',toks:=tk}) (hsz:name.length + 100≤sizeLine:=by size_fits):
  wpAny (model prog w) A (getAttr? (.ref a) name) Q E s:=by
 obtain ⟨hp,g,d,tk,os⟩:=s
 have hT:∀ tk',(⟨hp,g,d,tk',os⟩:Shared).TypeIs (.ref a) "list":=fun _=>⟨_,hx,rfl⟩
 have f1:=sub_AttributeError
 have f3:=F.slot_list_getattribute.lookup
 have f4:=F.slot_list_getattribute.bind (.ref a)
 have f5:=am_list_getattr_none
 unfold getAttr? getAttrBy? getAttrBy
 repeat (any_goals (first | assumption | exact hT _ | ((with_reducible show wpAny _ _ (call (Value.builtin "list.__getattribute__") _ _) _ _ _);refine call_meets F.slot_list_getattribute (hT _) am_entry_list_getattribute (F.args_list_getattribute_2 _ _) (meets_getattribute_miss_list a xs k #[] name _ hmiss hname hsz) ⟨hx,hA,fun h' tk' e hx'=>?_⟩) | wp_step))
 obtain ⟨t',u',he⟩:=hx'.there
 show wpAny _ _ (getattributeRaised _ _ _ _ _ _ _) _ _ _
 unfold getattributeRaised
 repeat (any_goals (first | assumption | wp_step))
 exact h _ _ hx'.keeps
section
variable {prog:Program} {w:World} {K:Type} [DecidableEq K] {knd:KeyKind prog w K} {A:Around} {R:Result→Shared→Prop} {I:Addr} {fp wr:List Addr} {n:Nat} {P:Nat→Value→Prop} {St:Nat→Heap→Prop}
noncomputable def DS (knd:KeyKind prog w K) (h:Heap) (a:Addr) (kv:K×Value):Prop:=∃ key o n,h.get? a=some o∧o.cls= .type "tuple"∧o.data= .seq #[key,kv.2] n∧knd.is kv.1 key=true
theorem nY {h h':Heap} {d:Addr} {kvs:List (K×Value)} (hm:h.DictOf knd d kvs) (f:∀ o,h.get? d=some o→h'.get? d=some o):h'.DictOf knd d kvs:=let ⟨o,es,ep,ho,r⟩:=hm;⟨o,es,ep,f o ho,r⟩
theorem jg (W:Walks prog w A.in1 I fp wr n P St) (d:Addr) (hdf:d∉fp) (more:List (K×Value)) (hn:more.length=n) (hsz:n≤sizeLine) (tup:Nat→Addr) (htw:∀ i,i < n→tup i∉wr∧tup i≠d) (hP:∀ i v,i < n→P i v→v= .ref (tup i)):
  ∀ (k j:Nat) (s:Shared) (ix:Int) (t:Tok),n - j=k→j≤n→St j s.heap→s.heap.DictOf knd d (merged [] (more.take j))→(∀ i kv,more[i]? =some kv→DS knd s.heap (tup i) kv)→
  (∀ h' tk,h'.DictOf knd d (merged [] more)→(∀ b o,b∉wr→b≠d→s.heap.get? b=some o→h'.get? b=some o)→R (.ok (.ret .none)) {s with heap:=h',toks:=tk})→
  codeAny (model prog w) A (.builtin "dict.update.loop" ⟨[.ref d,.ref I,.int ix t,.none],[]⟩) R s:=by
 have hdw:d∉wr:=fun h=>hdf (W.sub _ h)
 intro k
 induction k with
 | zero=>
   intro j s ix t hk hj hst hd hp hR
   have hin:j=n:=by omega
   subst hin
   refine codeAny_builtin F.entry_dict_update_loop ?_
   rw [Around.under_plainId F.plain_dict_update_loop _]
   show wpAny _ A.in1 (pyNext (.ref I) >>=_) _ _ s
   refine wpAny_bind (W.done s _ _ hst fun h' tk hk'=>?_)
   show wpAny _ A.in1 (Builtin.Dict.addKeywords d [] >>=_) _ _ _
   refine wpAny_bind (wpAny_pure (wpAny_pure ?_))
   rw [← hn,List.take_length] at hd
   exact hR h' tk (nY hd fun o e=>hk' d o hdw e) fun b o hb _ e=>hk' b o hb e
 | succ k ih=>
   intro j s ix t hk hj hst hd hp hR
   have hlt:j < n:=by omega
   refine codeAny_builtin F.entry_dict_update_loop ?_
   rw [Around.under_plainId F.plain_dict_update_loop _]
   show wpAny _ A.in1 (pyNext (.ref I) >>=_) _ _ s
   refine wpAny_bind (W.item j s _ _ hlt hst fun v h' tk hPv hst' hk'=>?_)
   have ev:=hP j v hlt hPv
   subst ev
   obtain ⟨kv,hkv⟩:∃ kv,more[j]? =some kv:=⟨_,List.getElem?_eq_getElem (by omega)⟩
   obtain ⟨key,ob,m,ht,hcl,hda,hkey⟩:=hp j kv hkv
   have ht':=hk' _ _ (htw j hlt).1 ht
   show wpAny _ A.in1 (holding [Value.ref (tup j)] _ >>=_) _ _ _
   refine wpAny_bind (wpAny_holding (wpAny_bind (wpAny_tryCatch ?_)))
   unfold Builtin.Dict.pairItems
   refine wpAny_bind (wpAny_typeOf (T:="tuple") ⟨_,ht',hcl⟩ ?_)
   rw [if_pos (by decide)]
   refine wpAny_bind (wpAny_seqItems ht' hda ?_)
   refine wpAny_pure ?_
   show wpAny _ A.in1 (holding [key,kv.2] (dictSet d key kv.2)) _ _ _
   have hd':h'.DictOf knd d (merged [] (more.take j)):=nY hd fun o e=>hk' d o hdw e
   refine wpAny_holding (wpAny_dictSet_pairs (s:={s with heap:=h',toks:=tk}) hkey hd' (fun h2 hd2 hs2=>?_) (hsz:=by have:=merged_length_le [] (more.take j);rw [List.length_nil,List.length_take] at this;omega))
   rw [← merged_take_succ [] more j kv hkv] at hd2
   have kp:∀ b o,b∉wr→b≠d→s.heap.get? b=some o→h2.get? b=some o:=fun b o hb hbd e=>(hs2.2 b hbd).trans (hk' b o hb e)
   refine wpAny_pure ⟨plainId_quiet F.plain_dict_update_loop _,ih (j + 1) _ _ _ (by omega) hlt (W.frame _ _ _ hst' fun b hb o e=>?_) hd2 (fun i kv' hi=>?_) fun h3 tk3 hd3 hk3=>?_⟩
   ·exact (hs2.2 b fun z=>hdf (z ▸ hb)).trans e
   ·obtain ⟨key',o',m',e',x'⟩:=hp i kv' hi
    have hi':i < n:=by rw [← hn];exact (List.getElem?_eq_some_iff.mp hi).1
    exact ⟨key',o',m',kp _ _ (htw i hi').1 (htw i hi').2 e',x'⟩
   ·exact hR h3 tk3 hd3 fun b o hb hbd e=>hk3 b o hb hbd (kp b o hb hbd e)
end
section
variable {prog:Program} {w:World} {K:Type} [DecidableEq K] {knd:KeyKind prog w K} {A:Around} {E:Value→Shared→Prop} {s:Shared}
theorem oA {l:Addr} {its:Array Value} {c:Nat} {more:List (K×Value)} {tup:Nat→Addr} {Q:Value→Shared→Prop} (hA:A.handled=none) (hl:s.heap.get? l=some {cls:= .type "list",data:= .seq its c})
  (hn:more.length=its.size) (hsz:its.size≤sizeLine) (hit:∀ (i:Nat) (v:Value),its[i]? =some v→v= .ref (tup i)) (hp:∀ i kv,more[i]? =some kv→DS knd s.heap (tup i) kv) (nd:(more.map (·.1)).Nodup)
  (h:∀ h' tk,h'.DictOf knd s.heap.objs.size more→(∀ b o,s.heap.get? b=some o→h'.get? b=some o)→Q (.ref s.heap.objs.size) {s with heap:=h',toks:=tk}):
  wpAny (model prog w) A (call (.type "dict") [.ref l]) Q E s:=by
 refine callType_codes (Q₁:=fun obj s₁=>obj= .ref s.heap.objs.size∧s₁={s with heap:=s.heap.push {cls:= .type "dict",data:= .dict #[]}}) F.kt_called_dict (F.kt_typeCall_dict_1 _) F.entry_dict_init (kt_code_dict_new _ ⟨rfl,rfl⟩) ?_
 rintro obj s₁ ⟨rfl,rfl⟩
 have hnew:(s.heap.push {cls:= .type "dict",data:= .dict #[]}).DictOf knd s.heap.objs.size []:=Heap.DictOf.new s.heap
 have hl':(s.heap.push {cls:= .type "dict",data:= .dict #[]}).get? l=some {cls:= .type "list",data:= .seq its c}:=Heap.get?_push_of_some _ hl
 refine ⟨hnew.typeIs,F.args_dict_init_2 _ _,?_⟩
 unfold Builtin.«dict.__init__»
 refine wpAny_bind ?_
 unfold Builtin.Dict.selfAndRest
 refine wpAny_bind (wpAny_notOrdered_dict hnew.typeIs ?_)
 show wpAny _ _ (pure (s.heap.objs.size,[Value.ref l])) _ _ _
 refine wpAny_pure ?_
 show wpAny _ _ (Builtin.Dict.updateFrom "dict.__init__" s.heap.objs.size (.ref l) [] .none) _ _ _
 unfold Builtin.Dict.updateFrom
 refine wpAny_bind (wpAny_typeOf (T:="list") ⟨_,hl',rfl⟩ ?_)
 rw [if_pos (by decide)]
 refine wpAny_bind (vU hl' F.list_keys_none (by decide) hA fun h' tk hk=>?_)
 rw [if_pos (show (none:Option Value).isNone=true from rfl)]
 have hl2:=hk _ _ hl'
 have hlt:l < s.heap.objs.size:=Heap.lt_size hl
 have hd2:h'.DictOf knd s.heap.objs.size []:=nY hnew fun o e=>hk _ _ e
 have hds:s.heap.objs.size < h'.objs.size:=by obtain ⟨o,_,_,ho,_⟩:=hd2;exact Heap.lt_size ho
 have htl:∀ i,i < its.size→tup i < s.heap.objs.size:=fun i hi=>by
  obtain ⟨kv,hkv⟩:∃ kv,more[i]? =some kv:=⟨_,List.getElem?_eq_getElem (by omega)⟩
  obtain ⟨_,_,_,e,_⟩:=hp i kv hkv
  exact Heap.lt_size e
 refine wpAny_bind (wpAny_rule ?_)
 refine wpAny_bind (wpAny_pyIter_list (items:=its) ⟨_,hl2,rfl,c,rfl⟩ ?_)
 have W:=Walks.list (prog:=prog) (w:=w) (A:=A.in1.in1) hA h'.objs.size l (Nat.ne_of_lt (Nat.lt_trans hlt hds)) its
 refine wpAny_pure ⟨plainId_quiet F.plain_dict_update_loop _,jg (knd:=knd) (A:=A.in1) W s.heap.objs.size ?_ more hn hsz tup (fun i hi=>⟨?_,?_⟩) (fun i v _ e=>hit i v e) _ 0 _ _ _ rfl (Nat.zero_le _) ⟨⟨_,Heap.get?_push_size _ rfl,rfl,rfl⟩,?_⟩ ?_ (fun i kv hi=>?_) fun h3 tk3 hd3 hk3=>?_⟩
 ·intro hm
  rcases List.mem_cons.mp hm with e | hm
  ·exact absurd e (Nat.ne_of_lt hds)
  ·exact absurd (List.mem_singleton.mp hm).symm (Nat.ne_of_lt hlt)
 ·intro hm
  exact absurd (List.mem_singleton.mp hm) (Nat.ne_of_lt (Nat.lt_trans (htl i hi) hds))
 ·exact Nat.ne_of_lt (htl i hi)
 ·exact ⟨_,Heap.get?_push_of_some _ hl2,rfl,c,rfl⟩
 ·exact hd2.push _
 ·obtain ⟨key,ob,m,e,x⟩:=hp i kv hi
  exact ⟨key,ob,m,Heap.get?_push_of_some _ (hk _ _ (Heap.get?_push_of_some _ e)),x⟩
 ·rw [merged_nil_of_nodup more nd] at hd3
  refine ⟨rfl,h h3 tk3 hd3 fun b o e=>hk3 b o (fun hm=>?_) ?_ (Heap.get?_push_of_some _ (hk _ _ (Heap.get?_push_of_some _ e)))⟩
  ·exact absurd (List.mem_singleton.mp hm) (Nat.ne_of_lt (Nat.lt_trans (Heap.lt_size e) hds))
  ·exact Nat.ne_of_lt (Heap.lt_size e)
end
end PySem
namespace L2
open PySem PySem.Spec PyProof.Rows
noncomputable def Dy:List V→Hp→VK→Prop:=fun xs H Q=>∃ (l:Addr) (ps:List (Addr×Key×V)),xs=[.ref l]∧H l=some (.lst (ps.map fun q=>V.ref q.1))∧(∀ q∈ps,H q.1=some (.tup [kV q.2.1,q.2.2]))∧(ps.map fun q=>q.2.1).Nodup∧
 ∀ d,H d=none→Q (.ref d) (upd H d (.dK (ps.map (·.2))))
section
variable {X:Cx}
theorem ql (hc:X.calm=true):jZ X (.type "dict") Dy:=by
 intro pins s σ H xs us Q I r h
 obtain ⟨l,ps,rfl,hl,ht,nd,q⟩:=h
 obtain ⟨u,rfl,rx⟩:=qp r
 cases rx
 obtain ⟨z,its,c,rv,ll,el⟩:=I.lstM hl
 rw [List.length_map] at z ll
 have get:∀ (i:Nat) q,ps[i]? =some q→its[i]? =some (.ref q.1)∧∃ key v o n,s.heap.get? q.1=some o∧o.cls= .type "tuple"∧o.data= .seq #[key,v] n∧(cD X.prog X.w).is q.2.1 key=true∧RelV q.2.2 v:=fun i q hq=>by
  obtain ⟨u,hu,ru⟩:=Vals.get (x:=V.ref q.1) rv (by rw [List.getElem?_map,hq];rfl)
  cases ru
  refine ⟨hu,?_⟩
  have e:=ht q (List.mem_of_getElem? hq)
  obtain ⟨_,us,rt,it⟩:=I.hok _ _ e
  obtain ⟨a,b,rfl,ra,rb⟩:=Vals.two rt
  obtain ⟨o,ho,hcl,n,hda⟩:=it
  exact ⟨a,b,o,n,ho,hcl,hda,Bb ra,rb⟩
 obtain ⟨vs,hvs⟩:∃ vs:List (Key×Value),vs=(List.range ps.length).map fun i=>match ps[i]? with
  | some q=>(q.2.1,match s.heap.get? q.1 with | some o=>(match o.data with | .seq xs _=>xs.getD 1 .none | _=> .none) | none=> .none)
  | none=>(.inl 0,.none):=⟨_,rfl⟩
 have hv:∀ (i:Nat) q,ps[i]? =some q→∃ key v o n,vs[i]? =some (q.2.1,v)∧s.heap.get? q.1=some o∧o.cls= .type "tuple"∧o.data= .seq #[key,v] n∧(cD X.prog X.w).is q.2.1 key=true∧RelV q.2.2 v:=fun i q hq=>by
  obtain ⟨_,key,v,o,n,e,e2,e3,k,rv⟩:=get i q hq
  have hi:=(List.getElem?_eq_some_iff.mp hq).1
  refine ⟨key,v,o,n,?_,e,e2,e3,k,rv⟩
  rw [hvs,List.getElem?_map,List.getElem?_range hi]
  show some (match ps[i]? with | some q=>_ | none=>_)=_
  rw [hq]
  show some (q.2.1,match s.heap.get? q.1 with | some o=>_ | none=>_)=_
  rw [e]
  show some (q.2.1,match o.data with | .seq xs _=>_ | _=>_)=_
  rw [e3];rfl
 have lv:vs.length=ps.length:=by rw [hvs,List.length_map,List.length_range]
 clear hvs
 have keys:vs.map (·.1)=ps.map fun q=>q.2.1:=by
  apply List.ext_getElem?;intro i
  rw [List.getElem?_map,List.getElem?_map]
  cases hq:ps[i]? with
  | none=>rw [List.getElem?_eq_none (by rw [lv];exact List.getElem?_eq_none_iff.mp hq)];rfl
  | some q=>obtain ⟨_,v,_,_,e,_⟩:=hv i q hq;rw [e];rfl
 have kv:KV (ps.map (·.2)) vs:=by
  refine sV (by rw [List.length_map,lv]) fun i a b ha hb=>?_
  rw [List.getElem?_map] at ha
  obtain ⟨q,hq,rfl⟩:=Option.map_eq_some_iff.mp ha
  obtain ⟨_,v,_,_,e,_,_,_,_,rv⟩:=hv i q hq
  rw [e] at hb
  cases hb
  exact ⟨rfl,rv⟩
 refine oA (knd:=cD X.prog X.w) (its:=its.toArray) (c:=c) (more:=vs) (tup:=fun i=>match ps[i]? with | some q=>q.1 | none=>0) (I.ok.hd hc) el (by rw [lv,ll];simp) (by simpa using (ll ▸ z)) (fun i v e=>?_) (fun i kv' e=>?_) (by rw [keys];exact nd) fun h' tk hd hk=>?_
 ·have hi:i < ps.length:=by rw [ll];have:=(Array.getElem?_eq_some_iff.mp e).1;simpa using this
  obtain ⟨q',hq⟩:∃ q',ps[i]? =some q':=⟨_,List.getElem?_eq_getElem hi⟩
  have e2:=(get i q' hq).1
  have e:its[i]? =some v:=by simpa using e
  rw [e2] at e
  cases e
  rw [hq]
 ·have hi:i < ps.length:=by rw [← lv];exact (List.getElem?_eq_some_iff.mp e).1
  obtain ⟨q',hq⟩:∃ q',ps[i]? =some q':=⟨_,List.getElem?_eq_getElem hi⟩
  obtain ⟨key,v,o,n,e1,e2,e3,e4,e5,_⟩:=hv i q' hq
  rw [e1] at e
  cases e
  rw [hq]
  exact ⟨key,o,n,e2,e3,e4,e5⟩
 ·refine ⟨.ref s.heap.objs.size,_,I.laid (t':=tk) hk (Nat.le_refl _) (show dI X.prog X.w _ h' _ (.dK (ps.map (·.2))) from ⟨by rw [List.length_map];exact z,beq_eq_false_iff_ne.mpr fun e=>absurd e.symm (Nat.ne_of_lt I.big),vs,kv,hd⟩),rfl,q _ (I.hok.fresh (Nat.le_refl _))⟩
end
section
variable {H:Hp} {Q:VK}
theorem Aq {l:Addr} {ps:List (Addr×Key×V)} (e:H l=some (.lst (ps.map fun q=>V.ref q.1))) (ht:∀ q∈ps,H q.1=some (.tup [kV q.2.1,q.2.2])) (nd:(ps.map fun q=>q.2.1).Nodup) (h:∀ d H2,H d=none→Same H H2→H2 d=some (.dK (ps.map (·.2)))→Q (.ref d) H2):Dy [.ref l] H Q:=⟨l,ps,rfl,e,ht,nd,eT h⟩
end
end L2
namespace PySem
end PySem
namespace L2
open PySem PySem.Spec PyProof.Rows
inductive PH (X:Cx) (Wo:XW):List ExceptHandler→(Ends→XW)→Prop where
 | nil:PH X Wo [] (fun _=>Wo)
 | cons {G:Addr} {g n:Str} {i:Nat} {gp hp:Pos} {b₀:Stmt} {suite:List Stmt} {ts:TS} {hs:List ExceptHandler} {WR:Ends→XW} (cg:Fg X.K G) (hg:Gl X g) (hm:X.mg g=some (.ref G)) (hi:X.N[i]? =some n) (hk:X.env.scope.names.lookup n=some .local)
   (hs':∀ pins e,PSs (X.mark pins e) (b₀::suite) ts) (hdb:(g == ("__debug__":Str))=false) (r:PH X Wo hs WR):PH X Wo (.ExceptHandler (some (.Name g gp)) (some n) (b₀::suite) hp::hs) (fun D=>WTry X.K G i (WR D) ts D)
theorem xx {l:Addr} {y:V} {ys:List V} {H:Hp} {Q:VK} (e:H l=some (.lst (y::ys))) (h:∀ H2,Upd H H2 l (.lst ys)→Q y H2):Dx (.ref l) [.int 0] H Q:=⟨l,y::ys,0,0,y,rfl,rfl,e,by decide,by decide,by simp [seqIndex?],rfl,h _ Upd.of⟩
section
variable {M:Model} {A:Around} {E:Value→Shared→Prop}
noncomputable def rR (x:Str×NameKind) (cells:List (Str×Addr)):Sem (ForInStep (List (Str×Addr))):=
 match x with
 | (name,kind)=>
   if (kind == NameKind.cell)=true then do
    let c ← alloc {cls:=Value.type "cell",data:=Data.cell none}
    pure (ForInStep.yield ((name,c)::cells))
   else pure (ForInStep.yield cells)
theorem xP {Q:List (Str×Addr)→Shared→Prop} {s:Shared} {cells:List (Str×Addr)}:∀ {names:List (Str×NameKind)},(∀ y∈names,y.2≠.cell)→Q cells s→wpAny M A (forIn names cells rR) Q E s
 | [],_,q=>by rw [List.forIn_nil];exact wpAny_pure q
 | (x,k)::l,h,q=>by
   rw [List.forIn_cons]
   refine wpAny_bind ?_
   have hk:(k == NameKind.cell)=false:=beq_eq_false_iff_ne.mpr (h _ List.mem_cons_self)
   show wpAny M A (if (k == NameKind.cell)=true then _ else _) _ E s
   rw [hk]
   exact wpAny_pure (xP (fun y hy=>h y (List.mem_cons_of_mem _ hy)) q)
theorem ur {Q:List (Str×Addr)→Shared→Prop} {s:Shared} {cells:List (Str×Addr)} {x0:Str} {post:List (Str×NameKind)} (h2:∀ y∈post,y.2≠.cell)
  (q:Q ((x0,s.heap.objs.size)::cells) {s with heap:=s.heap.push {cls:=Value.type "cell",data:=Data.cell none}}):∀ {pre:List (Str×NameKind)},(∀ y∈pre,y.2≠.cell)→wpAny M A (forIn (pre++(x0,.cell)::post) cells rR) Q E s
 | [],_=>by
   rw [List.nil_append,List.forIn_cons]
   refine wpAny_bind ?_
   show wpAny M A (alloc {cls:=Value.type "cell",data:=Data.cell none} >>=fun c=>pure (ForInStep.yield ((x0,c)::cells))) _ E s
   refine wpAny_bind (wpAny_alloc' ?_)
   exact wpAny_pure (xP h2 q)
 | (x,k)::l,h=>by
   rw [List.cons_append,List.forIn_cons]
   refine wpAny_bind ?_
   have hk:(k == NameKind.cell)=false:=beq_eq_false_iff_ne.mpr (h _ List.mem_cons_self)
   show wpAny M A (if (k == NameKind.cell)=true then _ else _) _ E s
   rw [hk]
   exact wpAny_pure (ur h2 q (fun y hy=>h y (List.mem_cons_of_mem _ hy)))
theorem EY {s:Shared} {sc:Scope} {globals:Addr} {cl:List (Str×Addr)} {qual:Str} {func:Option Addr} {code:Value} {out:Env} {bl:Addr} {Q:Env→Shared→Prop} {x0:Str} {pre post:List (Str×NameKind)}
  (hn:sc.names=pre++(x0,.cell)::post) (h1:∀ y∈pre,y.2≠.cell) (h2:∀ y∈post,y.2≠.cell)
  (q:Q {scope:=sc,locals:=s.heap.objs.size,globals:=globals,cells:=(x0,s.heap.objs.size + 1)::cl,qual:=qual,func:=func,code:=out.code,frame:=out.frame,builtins:=out.builtins}
   {s with heap:=(s.heap.push {cls:=Value.type "dict",data:=Data.dict #[]}).push {cls:=Value.type "cell",data:=Data.cell none}}):
  wpAny M A (newFunctionEnv sc globals cl [] qual func code (some out) bl) Q E s:=by
 unfold newFunctionEnv
 refine wpAny_bind ?_
 refine wpAny_alloc' ?_
 refine wpAny_bind ?_
 show wpAny M A (forIn sc.names cl rR) _ E _
 rw [hn]
 refine ur h2 ?_ h1
 show wpAny M A (pure _) _ E _
 refine wpAny_pure ?_
 rw [Heap.size_push]
 exact q
end
structure dm (osc:Scope) (ON N:List Str) (n:Nat) (fx:List Nat) (x0:Str) (sc:Scope):Prop where
 kind:sc.kind= .function
 one:∃ pre post,sc.names=pre++(x0,.cell)::post∧(∀ y∈pre,y.2≠.cell)∧∀ y∈post,y.2≠.cell
 its:sc.names.lookup x0=some .cell
 own:∀ y∈sc.names,y.2= .local→sc.names.lookup y.1=some .local
 fre:∀ y∈sc.names,y.2= .free→osc.names.lookup y.1=some .cell∨osc.names.lookup y.1=some .free
 len:N.length=n + fx.length
 frn:∀ k,k < fx.length→∃ x j,N[n + k]? =some x∧fx[k]? =some j∧ON[j]? =some x∧sc.names.lookup x=some .free
theorem dm.cel {osc:Scope} {ON N:List Str} {n:Nat} {fx:List Nat} {x0:Str} {sc:Scope} (S:dm osc ON N n fx x0 sc):∀ y∈sc.names,y.2= .cell→y.1=x0:=fun y hy e=>by
 obtain ⟨pre,post,hn,h1,h2⟩:=S.one
 rw [hn] at hy
 rcases List.mem_append.mp hy with h | h
 ·exact absurd e (h1 y h)
 ·rcases List.mem_cons.mp h with h | h
  ·rw [h]
  ·exact absurd e (h2 y h)
noncomputable def qM (x0:Str):List (Str×NameKind)→Bool
 | []=>false
 | (x,k)::l=>if k= .cell then decide (x=x0)&&decide (∀ y∈l,y.2≠.cell) else qM x0 l
theorem m8 {x0:Str}:∀ {l:List (Str×NameKind)},qM x0 l=true→∃ pre post,l=pre++(x0,.cell)::post∧(∀ y∈pre,y.2≠.cell)∧∀ y∈post,y.2≠.cell
 | [],h=>by cases h
 | (x,k)::l,h=>by
   unfold qM at h
   by_cases hk:k= .cell
   ·rw [if_pos hk,Bool.and_eq_true,decide_eq_true_eq,decide_eq_true_eq] at h
    exact ⟨[],l,by rw [hk,h.1];rfl,fun y hy=>(by cases hy),h.2⟩
   ·rw [if_neg hk] at h
    obtain ⟨pre,post,e,h1,h2⟩:=m8 h
    exact ⟨(x,k)::pre,post,by rw [e];rfl,fun y hy=>by rcases List.mem_cons.mp hy with z | z;(rw [z];exact hk);exact h1 y z,h2⟩
noncomputable def wS (osc:Scope) (ON N:List Str) (n:Nat) (fx:List Nat) (x0:Str) (sc:Scope):Bool:=
 decide (sc.kind= .function)&&qM x0 sc.names&&decide (sc.names.lookup x0=some .cell)&&decide (∀ y∈sc.names,y.2= .local→sc.names.lookup y.1=some .local)&&
 decide (∀ y∈sc.names,y.2= .free→osc.names.lookup y.1=some .cell∨osc.names.lookup y.1=some .free)&&decide (n≤N.length)&&Bm ON sc (N.drop n) fx
theorem dm.of {osc:Scope} {ON N:List Str} {n:Nat} {fx:List Nat} {x0:Str} {sc:Scope} (h:wS osc ON N n fx x0 sc=true):dm osc ON N n fx x0 sc:=by
 simp only [wS,Bool.and_eq_true,decide_eq_true_eq] at h
 obtain ⟨⟨⟨⟨⟨⟨h1,h2⟩,h2'⟩,h3⟩,h4⟩,h5⟩,h6⟩:=h
 obtain ⟨l,q⟩:=nW h6
 refine ⟨h1,m8 h2,h2',h3,h4,?_,fun k hk=>?_⟩
 ·rw [List.length_drop] at l;omega
 ·obtain ⟨x,j,a,b⟩:=q k hk
  exact ⟨x,j,by rw [List.getElem?_drop] at a;exact a,b⟩
noncomputable def fh (X:Cx) (N:List Str) (sc:Scope) (x0:Str) (cl:List (Str×Addr)) (C:Addr) (fp:List Addr) (s:Shared) (H:Hp):Cx:={fD X N sc ((x0,C + 1)::cl) C fp s H with fn:=fun x=>decide (x=x0)}
theorem fQ {x0 x:Str} {c d:Addr} {cl:List (Str×Addr)} (h:((x0,c)::cl).lookup x=some d):(x=x0∧d=c)∨(x≠x0∧cl.lookup x=some d):=by
 rw [List.lookup_cons] at h
 by_cases e:x=x0
 ·subst e;simp only [beq_self_eq_true] at h;exact .inl ⟨rfl,(Option.some.inj h).symm⟩
 ·have hb:(x == x0)=false:=beq_eq_false_iff_ne.mpr e
  simp only [hb] at h;exact .inr ⟨e,h⟩
theorem AS {x0 x:Str} {c:Addr} {cl:List (Str×Addr)} (e:x≠x0):((x0,c)::cl).lookup x=cl.lookup x:=by
 have hb:(x == x0)=false:=beq_eq_false_iff_ne.mpr e
 rw [List.lookup_cons];simp only [hb]
theorem ER {x0:Str} {c:Addr} {cl:List (Str×Addr)}:((x0,c)::cl).lookup x0=some c:=by rw [List.lookup_cons];simp only [beq_self_eq_true]
section
variable {X:Cx} {pins:List (Addr×Obj)} {σ:St} {H:Hp} {s:Shared}
theorem By {x0:Str} {osc:Scope} {ON N:List Str} {n:Nat} {fx:List Nat} {sc:Scope} {cl:List (Str×Addr)} {fp:List Addr} {h4:Heap} {tk:Nat}
  (ho:X.env.scope=osc) (hN:X.N=ON) (S:dm osc ON N n fx x0 sc)
  (hcl1:∀ p∈cl,X.env.cells.lookup p.1=some p.2) (hcl2:∀ y∈sc.names,y.2= .free→∃ c,(y.1,c)∈cl)
  (I:Inv X pins σ H s) (hf:∀ b∈fp,FpOk X pins H b) (hfo:∀ b∈fp,b < s.heap.objs.size)
  (hns:∃ m,h4.Ns s.heap.objs.size m) (old:∀ b o,s.heap.get? b=some o→h4.get? b=some o) (hcell:h4.IsCell (s.heap.objs.size + 1) none):
  Inv (fh X N sc x0 cl s.heap.objs.size fp s H) [] (bH n fx σ) H {s with heap:=h4,toks:=tk}:=by
 have look:∀ {x:Str} {c:Addr},cl.lookup x=some c→X.env.cells.lookup x=some c:=fun {x c} e=>hcl1 (x,c) (PySem.mem_of_lookup e)
 have oldC:∀ {x:Str} {c:Addr},cl.lookup x=some c→c < s.heap.objs.size:=fun {x c} e=>let ⟨v,q⟩:=I.cell x c (look e);q.lt
 have ok:(fh X N sc x0 cl s.heap.objs.size fp s H).Ok:=by
  refine ⟨I.ok.mod,S.kind,I.ok.glob,I.ok.blt,Nat.le_refl _,fun x y c h1 h2=>?inj,fun x hx=>?_,fun x c z1 z2=>?cab,I.ok.hd,I.ok.frames,.inl rfl,fun b hb=>⟨Nat.ne_of_lt (hfo b hb),fun x c e=>?exf⟩,
   I.bs,Nat.le_trans I.ok.bsz I.sz,fun b o e hb=>?_,fun b hb z=>?_,I.stack,I.stkFree⟩
  case inj=>
   rcases fQ h1 with ⟨z1,z2⟩ | ⟨z1,z2⟩<;>rcases fQ h2 with ⟨w1,w2⟩ | ⟨w1,w2⟩
   ·rw [z1,w1]
   ·have h:=oldC w2;rw [z2] at h;exact absurd h (Nat.not_lt.mpr (Nat.le_succ _))
   ·have h:=oldC z2;rw [w2] at h;exact absurd h (Nat.not_lt.mpr (Nat.le_succ _))
   ·exact I.ok.inj x y c (look z2) (look w2)
  case cab=>
   have z1:x=x0:=of_decide_eq_true z1
   rcases fQ z2 with ⟨_,w2⟩ | ⟨w1,_⟩
   ·rw [w2];exact Nat.le_succ _
   ·exact absurd z1 w1
  case exf=>
   rcases fQ e with ⟨_,w2⟩ | ⟨w1,w2⟩
   ·intro z;rw [w2] at z;have h:=hfo b hb;rw [← z] at h;exact absurd h (Nat.not_lt.mpr (Nat.le_succ _))
   ·exact (hf b hb).2.2.2.2.1 x c (look w2)
  ·have hx':∃ k',(k'=NameKind.cell∨k'=NameKind.free)∧(sc.names.map fun (n,k)=>if (k == NameKind.free&&X.env.scope.kind == .function&&X.env.kindOf n == some .cell) then (n,NameKind.cell) else (n,k)).lookup x=some k':=by
    rcases hx with hx | hx
    ·exact ⟨_,.inl rfl,hx⟩
    ·exact ⟨_,.inr rfl,hx⟩
   obtain ⟨k',hk,e⟩:=hx'
   obtain ⟨k,hm,z⟩:=fK e
   by_cases hx0:x=x0
   ·exact ⟨_,by rw [hx0];exact ER⟩
   have kf:k= .free:=by
    rcases z with z | z
    ·subst z
     rcases hk with q | q
     ·exact absurd (S.cel _ hm q) hx0
     ·exact q
    ·exact z
   subst kf
   obtain ⟨c,hc⟩:=hcl2 _ hm rfl
   obtain ⟨c',hc'⟩:=jJ hc
   exact ⟨c',(AS hx0).trans hc'⟩
  ·rcases (hf b hb).2.2.2.1 with z | z
   ·exact I.ok.noex b o e z
   ·exact absurd (Nat.lt_of_lt_of_le (Heap.lt_size (I.ok.bs b o e).1) z) (Nat.lt_irrefl _)
  ·rcases List.mem_cons.mp (I.stkSub b z) with q | q
   ·exact (hf b hb).2.1 q
   ·exact (hf b hb).2.2.1 q
 obtain ⟨m,hns⟩:=hns
 refine ⟨ok,rfl,I.bare,Un.kept old,⟨m,hns,fun i x v e1 e2 e3=>?_⟩,fun x c e=>?_,I.hok.fresh (Nat.le_refl _),fun x c e=>?frc,fun p hp=>absurd (show p∈([]:List (Addr×Obj)) from hp) (by simp),I.hok.kept old,?_⟩
 case frc=>
  rcases fQ e with ⟨_,w2⟩ | ⟨w1,w2⟩
  ·rw [w2];exact I.hok.fresh (Nat.le_succ _)
  ·exact I.freeC x c (look w2)
 ·obtain ⟨k,j,rfl,hj,hv⟩:=io e2
  obtain ⟨x',j',a1,a2,a3,a4⟩:=S.frn k (List.getElem?_eq_some_iff.mp hj).1
  have ex:x'=x:=Option.some.inj (a1.symm.trans e1)
  have ej:j'=j:=Option.some.inj (a2.symm.trans hj)
  subst ex;subst ej
  obtain ⟨m',_,hl⟩:=I.loc
  have hk:X.env.scope.names.lookup x'=some .cell∨X.env.scope.names.lookup x'=some .free:=by rw [ho];exact S.fre _ (PySem.mem_of_lookup a4) rfl
  have vis:Vis X.env.scope x':=by rcases hk with z | z;exact .inr (.inl z);exact .inr (.inr z)
  obtain ⟨u,r,q⟩:=hl j' x' v (by rw [hN];exact a3) hv vis
  rcases q with ⟨z,_⟩ | ⟨_,c,ec,ic⟩
  ·have z':X.env.scope.names.lookup x'=some .local:=z
   rcases hk with q | q<;>(rw [q] at z';cases z')
  ·refine ⟨u,r,.inr ⟨gE a4,c,?_,ic.keeps old⟩⟩
   obtain ⟨c0,hc0⟩:=hcl2 _ (PySem.mem_of_lookup a4) rfl
   obtain ⟨c1,hc1⟩:=jJ hc0
   have:=look hc1
   rw [ec] at this
   cases this
   exact (AS fun z=>(by rw [z,S.its] at a4;cases a4)).trans hc1
 ·rcases fQ e with ⟨_,w2⟩ | ⟨w1,w2⟩
  ·rw [w2];exact ⟨_,hcell⟩
  ·obtain ⟨v,q⟩:=I.cell x c (look w2)
   exact ⟨v,q.keeps old⟩
 ·show _=N.length
  rw [qg,S.len]
theorem zu {x0:Str} {osc:Scope} {ON N:List Str} {n:Nat} {fx:List Nat} {sc:Scope} {cl:List (Str×Addr)} {elt tg iter:Expr} {ifs:List Expr} {pos:Pos} {wi:TI} {g:TG} {tc:TT} {te:TE} {Q:VK} {RR:Value→Addr→Result→Shared→Prop}
  (hcalm:X.calm=true) (ho:X.env.scope=osc) (hN:X.N=ON) (S:dm osc ON N n fx x0 sc)
  (hcl1:∀ p∈cl,X.env.cells.lookup p.1=some p.2) (hcl2:∀ y∈sc.names,y.2= .free→∃ c,(y.1,c)∈cl)
  (hi:PI X tg iter wi) (gk:uQ n g) (hb:∀ cl C fp s H,PG (fh X N sc x0 cl C fp s H) tg g∧PTs (fh X N sc x0 cl C fp s H) ifs tc∧PE (fh X N sc x0 cl C fp s H) elt te)
  (I:Inv X pins σ H s) (h:ya n fx wi g tc te σ H Q)
  (hRR:∀ D C H' s',Inv X pins σ H' s'→(∃ m,s'.heap.Ns C m)→FpOk X pins H' C→Q (.ref D) H'→RR (.ref D) C (.ok .next) s'):
  wpAny (model X.prog X.w) X.A (eval iter X.env) (fun x s₁=>wpAny (model X.prog X.w) X.A (pyIter x) (fun it s₂=>wpAny (model X.prog X.w) X.A (newList []) (fun acc s₃=>
   wpAny (model X.prog X.w) X.A (newFunctionEnv sc X.env.globals cl [] X.env.qual none .none (some X.env)) (fun cenv s₄=>
    codeAny (model X.prog X.w) X.A (.compStart (.ListComp elt [⟨tg,iter,ifs,0⟩] sc pos) 0 it acc {cenv with scope:=relabel sc X.env}) (RR acc cenv.locals) s₄) X.xe s₃) X.xe s₂) X.xe s₁) X.xe s:=by
 refine thn (hi pins s σ H _ I h) fun v s1 h1=>thn h1 fun itv s2 h2=>?_
 obtain ⟨it,fp,tn,J,H2,e2,I2,T,st2,f2,hW⟩:=h2
 subst e2
 obtain ⟨W,⟨m0,w0⟩,hturn⟩:=hW s2.heap.objs.size I2.fresh
 refine wpAny_newObj_type ?_
 have I3:Inv X pins σ (upd H2 s2.heap.objs.size (.lst [])) {s2 with heap:=s2.heap.push {cls:= .type "list",data:= .seq ([]:List Value).toArray}}:=I2.lnew (t':=s2.toks) (its:=[]) .nil (Nat.zero_le _)
 have f3:∀ b∈fp,FpOk X pins (upd H2 s2.heap.objs.size (.lst [])) b∧b < s2.heap.objs.size:=fun b hb=>by
  obtain ⟨o,e,_⟩:=T.obj _ _ st2 b hb
  have l:=Heap.lt_size e
  obtain ⟨a1,a2⟩:=f2 b hb
  exact ⟨⟨by rw [aq (Nat.ne_of_lt l)];exact a1,a2⟩,l⟩
 have sz:({s2 with heap:=s2.heap.push {cls:= .type "list",data:= .seq ([]:List Value).toArray}}:Shared).heap.objs.size=s2.heap.objs.size + 1:=Heap.size_push ..
 generalize hs3:({s2 with heap:=s2.heap.push {cls:= .type "list",data:= .seq ([]:List Value).toArray}}:Shared)=s3 at I3 sz ⊢
 generalize hH3:upd H2 s2.heap.objs.size (.lst [])=H3 at I3 f3 w0
 have old3:∀ b o,s2.heap.get? b=some o→s3.heap.get? b=some o:=fun b o e=>by rw [← hs3];exact Heap.get?_push_of_some _ e
 obtain ⟨pre,post,hnm,hp1,hp2⟩:=S.one
 refine EY hnm hp1 hp2 ?_
 generalize hh4:(s3.heap.push {cls:=Value.type "dict",data:=Data.dict #[]}).push {cls:=Value.type "cell",data:=Data.cell none}=h4
 have old4:∀ b o,s3.heap.get? b=some o→h4.get? b=some o:=fun b o e=>by rw [← hh4];exact Heap.get?_push_of_some _ (Heap.get?_push_of_some _ e)
 have hns:h4.Ns s3.heap.objs.size fun _=>none:=by rw [← hh4];exact (Heap.Ns.new _ _).push _
 have hcell:h4.IsCell (s3.heap.objs.size + 1) none:=by
  rw [← hh4]
  refine ⟨{cls:=Value.type "cell",data:=Data.cell none},?_,rfl⟩
  have:=Heap.get?_push_size (s3.heap.push {cls:=Value.type "dict",data:=Data.dict #[]}) (o:={cls:=Value.type "cell",data:=Data.cell none}) (by rfl)
  rw [Heap.size_push] at this
  exact this
 have I4:=By (tk:=s3.toks) ho hN S hcl1 hcl2 I3 (fun b hb=>(f3 b hb).1) (fun b hb=>by rw [sz];exact Nat.lt_succ_of_lt (f3 b hb).2) ⟨_,hns⟩ old4 hcell
 have hb':=hb cl s3.heap.objs.size fp s3 H3
 generalize hY:fh X N sc x0 cl s3.heap.objs.size fp s3 H3=Y at I4 hb'
 have stat:∀ {H':Hp},(∀ b∈fp,H' b=none)→∀ b∈fp,FpOk Y [] H' b:=fun {H'} hn b hb=>by
  subst hY
  obtain ⟨⟨a1,a2,a3,a4,a5,a6⟩,l⟩:=f3 b hb
  refine ⟨hn b hb,Nat.ne_of_lt (show b < s3.heap.objs.size by rw [sz];exact Nat.lt_succ_of_lt l),fun z=>?_,.inl hb,fun x c e=>?_,fun p hp=>absurd (show p∈([]:List (Addr×Obj)) from hp) (by simp)⟩
  ·rcases List.mem_cons.mp (I3.stkSub b z) with q | q
   ·exact a2 q
   ·exact a3 q
  ·rcases fQ e with ⟨_,w2⟩ | ⟨_,w2⟩
   ·intro z;rw [w2] at z;rw [← z] at l;rw [sz] at l;exact absurd l (Nat.not_lt.mpr (Nat.le_succ_of_le (Nat.le_succ _)))
   ·exact a5 x c (hcl1 (x,c) (PySem.mem_of_lookup w2))
 have fin:∀ {σ6:St} {H6:Hp} {s6:Shared},Inv Y [] σ6 H6 s6→Q (.ref s2.heap.objs.size) H6→RR (.ref s2.heap.objs.size) s3.heap.objs.size (.ok .next) s6:=fun {σ6 H6 s6} I6 q=>by
  subst hY
  refine hRR _ _ H6 s6 ?_ (let ⟨m,hm,_⟩:=I6.loc;⟨m,hm⟩) (I3.fpOk (Nat.le_refl _) I6.free) q
  obtain ⟨hh,gg,dd,tt,os'⟩:=s6
  obtain rfl:os'=s3.os:=I6.os
  exact I3.call (h':=hh) (g':=gg) (d':=dd) (t':=tt) (ch:=fp) I6.base I6.hok I6.bare fun b hb=>by
   obtain ⟨⟨a1,a2,a3,a4,a5,a6⟩,l⟩:=f3 b hb
   exact ⟨a4,a2,a5,a6⟩
 have pY:Y.prog=X.prog:=by subst hY;rfl
 have wY:Y.w=X.w:=by subst hY;rfl
 have kY:Y.K=X.K:=by subst hY;rfl
 have aY:Y.A=X.A:=by subst hY;rfl
 have cY:Y.calm=true:=by subst hY;exact hcalm
 have eY:Y.env=compEnvC sc ((x0,s3.heap.objs.size + 1)::cl) s3.heap.objs.size X.env:=by subst hY;rfl
 have xY:Y.xe=fun _ _=>False:=by subst hY;rfl
 have T':Turn Y.prog Y.w Y.K tg J fp it tn:=by rw [pY,wY,kY];exact T
 have tn4:tn 0 h4:=T.keep _ _ _ st2 fun b hb o e=>old4 b o (old3 b o e)
 have loop:codeAny (model X.prog X.w) X.A (.compLoop (.ListComp elt [⟨tg,iter,ifs,0⟩] sc pos) 0 (.ref it) (.ref s2.heap.objs.size) (compEnvC sc ((x0,s3.heap.objs.size + 1)::cl) s3.heap.objs.size X.env)) (RR (.ref s2.heap.objs.size) s3.heap.objs.size)
   {s3 with heap:=h4}:=by
  rw [← pY,← wY,← aY,← eY]
  refine qe (fun k s'=>∃ i ys σ' H',Inv Y [] σ' H' s'∧σ'.drop n=(bH n fx σ).drop n∧σ'.length=(bH n fx σ).length∧tn i s'.heap∧(∀ b∈fp,H' b=none)∧W i k ys H') ?_ m0 ⟨0,[],_,H3,I4,rfl,rfl,tn4,fun b hb=>(f3 b hb).1.1,w0⟩
  rintro k s5 ⟨i,ys,σ5,H5,I5,ed,el,st5,fr5,w5⟩
  have I5:Inv Y [] (bH n fx σ) H5 s5:=I5.weak el.symm fun j v e=>by
   obtain ⟨k',j',rfl,_,_⟩:=io e
   have q:=congrArg (fun l=>l[k']?) ed
   simp only [List.getElem?_drop] at q
   rw [q];exact e
  rcases hturn i k ys H5 w5 with ⟨stop,q⟩ | ⟨go,N',hN',step⟩
  ·refine wpAny_mono (T'.done Y rfl rfl rfl cY i [] s5 _ H5 (fun _ _=>False) I5 (stat fr5) st5 stop) (fun r s6 ⟨hr,I6⟩=>?_) fun _ _ z=>z
   subst hr
   exact fin I6 q
  ·rw [← xY]
   refine thn (T'.item Y rfl rfl rfl cY i [] s5 _ H5 Y.xe I5 (stat fr5) st5 go) fun r s6 ⟨u,hr,h6⟩=>?_
   subst hr
   show wpAny _ _ _ _ _ _
   refine thn h6 fun _ s7 ⟨x,H7,I7,r7,y7,st7,fr7⟩=>?_
   have I7':=I7.pinned (stat fr7) (T.obj _ _ st7)
   refine thn (hb'.1 _ s7 _ H7 x u _ I7' r7 (gk _ _ _ _ _ (fun σ' H' q e l=>(⟨q,e,l⟩:_∧_∧_)) (step x H7 y7))) fun _ s8 ⟨σ8,H8,I8,q8,ed8,el8⟩=>?_
   refine thn (hb'.2.1 _ s8 σ8 H8 _ I8 q8) fun ok s9 ⟨H9,I9,q9⟩=>?_
   have again:∀ {H10:Hp} {s10:Shared} {zs:List V},Inv Y ([]++p3 fp s7.heap) σ8 H10 s10→N' zs H10→
     ∃ m,m < k∧∃ i ys σ' H',Inv Y [] σ' H' s10∧σ'.drop n=(bH n fx σ).drop n∧σ'.length=(bH n fx σ).length∧tn i s10.heap∧(∀ b∈fp,H' b=none)∧W i m ys H':=fun {H10 s10 zs} I10 n10=>by
    obtain ⟨m',hm,w10⟩:=hN' _ _ n10
    refine ⟨m',hm,i + 1,zs,σ8,H10,I10.unpinned,ed8,el8,T.keep _ _ _ st7 fun b hb o e=>(I10.pin (b,o) (List.mem_append_right _ (List.mem_append_right _ (dW hb e)))).1,fun b hb=>?_,w10⟩
    obtain ⟨o,e,d⟩:=T.obj _ _ st7 b hb
    exact (I10.pin (b,o) (List.mem_append_right _ (List.mem_append_right _ (dW hb e)))).2.1
   cases ok with
   | false=>exact again I9 q9
   | true=>
     rw [if_pos rfl]
     refine thn (hb'.2.2 _ s9 σ8 H9 _ I9 q9) fun y s10 ⟨v',H10,I10,r10,hD10,hl10,n10⟩=>?_
     refine thn (d9 (X:=Y) _ s10 σ8 H10 (.ref s2.heap.objs.size) [v'] (.ref s2.heap.objs.size) [y] (fun _ H'=>H'=upd H10 s2.heap.objs.size (.lst (ys++[v']))) I10 rfl (.cons r10 .nil) ⟨_,ys,v',rfl,rfl,hD10,hl10,rfl⟩) fun _ s11 ⟨_,H11,I11,_,e11⟩=>?_
     subst e11
     exact again I11 n10
 exact codeAny_compStart_list loop (T.self X.A 0 _ _ _ tn4 loop)
theorem CA {x0:Str} {i:Nat} {x:Str} {px:Pos} {spos:Pos} {osc:Scope} {ON N:List Str} {n:Nat} {fx:List Nat} {sc:Scope} {elt tg iter:Expr} {ifs:List Expr} {pos:Pos} {wi:TI} {g:TG} {tc:TT} {te:TE}
  (hnd:X.N.Nodup) (hx:X.N[i]? =some x) (hl:X.env.scope.names.lookup x=some .local) (hsw:swapsWith (.ListComp elt [⟨tg,iter,ifs,0⟩] sc pos) (some (.Name x px)) spos.line X.env=pure true)
  (hcalm:X.calm=true) (ho:X.env.scope=osc) (hN:X.N=ON) (S:wS osc ON N n fx x0 sc=true) (hi:PI X tg iter wi) (gk:uQ n g)
  (hb:∀ cl C fp s H,PG (fh X N sc x0 cl C fp s H) tg g∧PTs (fh X N sc x0 cl C fp s H) ifs tc∧PE (fh X N sc x0 cl C fp s H) elt te)
  (hs:∀ x,foldedSetIterable iter X.env x=pure x:=by intro _;rfl):PS X (.Assign [.Name x px] (.ListComp elt [⟨tg,iter,ifs,0⟩] sc pos) spos) (tAsg (ya n fx wi g tc te) (zg i)):=by
 intro pins s σ H D I h
 have S:=dm.of S
 obtain ⟨cl,hcl,hcl1,hcl2⟩:=kH sc X.env fun y hy hf=>I.ok.has y.1 (by show X.env.scope.names.lookup y.1=some .cell∨X.env.scope.names.lookup y.1=some .free;rw [ho];exact S.fre y hy hf)
 rw [exec_Assign_Name_used _ _ _ _ hsw]
 refine wpAny_bind (wpAny_standAt (wpAny_bind ?_))
 show wpAny _ X.A (do let _ ← comprehension (.ListComp elt [⟨tg,iter,ifs,0⟩] sc pos) sc X.env _ (newList []) false (eval iter X.env) (some (assign (.Name x px) X.env))) _ _ s
 refine wpAny_bind (thn (wpAny_comprehension_free (use:=some (assign (.Name x px) X.env)) (Q:=fun _ s'=>SP X pins D .next s') rfl hs hcl S.kind S.own
  (zu (RR:=fun acc C=>compPost (model X.prog X.w) X.A X.xe (some (assign (.Name x px) X.env)) (fun _ s'=>SP X pins D .next s') acc C) hcalm ho hN S hcl1 hcl2 hi gk hb I h ?_)) fun _ s' q=>wpAny_pure (wpAny_pure q))
 intro D' C H' s' I' hm hf q
 obtain ⟨m,hm⟩:=hm
 obtain ⟨f0,f1,f2,f3,f4,f5⟩:=hf
 show wpAny _ X.A (assign (.Name x px) X.env (.ref D')) _ _ _
 refine wpAny_assign_Name (mI I' hnd hx (.inl hl) (v:= .ref D') rfl (fun s2 I2 hch=>?_) (.inr hl))
 obtain ⟨a,hsb,ha⟩:=hch
 have hCa:C≠a:=by
  rcases ha with z | z
  ·rw [z];exact f1
  ·exact fun e=>f4 _ _ z e.symm
 exact ⟨m,hm.sameBut hsb hCa,fun h' hsb'=>⟨_,H',I2.turned (t':=s2.toks) (fun b o hb e=>(hsb'.2 b hb).trans e) f0 f1 f3 f4 f5,q⟩⟩
noncomputable def Cv (osc sc:Scope):Scope:={sc with names:=sc.names.map fun (n,k)=>if (k == NameKind.free&&osc.kind == .function&&osc.names.lookup n == some .cell) then (n,NameKind.cell) else (n,k)}
theorem Db {osc:Scope} {N:List Str} {sc:Scope} {x0:Str} {cl:List (Str×Addr)} {C:Addr} {fp:List Addr} (h:X.env.scope=osc):(fh X N sc x0 cl C fp s H).env.scope=Cv osc sc:=by subst h;rfl
end
end L2
set_option autoImplicit false
namespace M
noncomputable def pb:Nat→Nat→Bool
 | 0,_=>false
 | w + 1,m=>(m.testBit w)^^(pb w m)
noncomputable def pl (w m:Nat):List Nat:=(List.range w).filter m.testBit
noncomputable def Span:List Nat→Nat→Prop
 | [],x=>x=0
 | r::rs,x=>Span rs x∨Span rs (x^^^r)
noncomputable def sm:List Nat→Nat→Nat
 | [],_=>0
 | r::rs,p=>(if p.testBit 0 then r else 0)^^^sm rs (p / 2)
noncomputable def Fre (rows:List Nat) (i:Nat):Prop:=i < rows.length∧¬ Span (rows.take i) (rows.getD i 0)
noncomputable def Frs (rows:List Nat) (q:Nat):Prop:=∀ i,q.testBit i=true→Fre rows i
structure Ech (es:List (Nat×Nat)) (rows:List Nat):Prop where
 nz:∀ e∈es,e.1≠0
 lt:∀ e∈es,e.2 < 2 ^ rows.length
 sm:∀ e∈es,sm rows e.2=e.1
 nd:(es.map fun e=>e.1.log2).Nodup
 all:∀ y,Span rows y→y≠0→∃ e∈es,e.1.log2=y.log2
 sub:∀ e∈es,Frs rows e.2
noncomputable def tt (p:Prop):Bool:=@decide p (Classical.propDecidable p)
noncomputable def fr (rows:List Nat):List Nat:=(List.range rows.length).filter fun i=> !tt (Span (rows.take i) (rows.getD i 0))
structure Nul (nms rows:List Nat):Prop where
 lt:∀ x∈nms,x < 2 ^ rows.length
 nz:∀ x∈nms,x≠0
 sm:∀ x∈nms,sm rows x=0
 pw:nms.Pairwise fun a b=>a.log2 < b.log2
 len:nms.length + (fr rows).length=rows.length
noncomputable def Inj (ws:List Nat):Prop:=∀ p,p < 2 ^ ws.length→sm ws p=0→p=0
structure Sums (ks rows:List Nat):Prop where
 nd:ks.Nodup
 all:∀ x,x∈ks↔Span rows x
end M
namespace Sx
open PySem L2
noncomputable abbrev nat (k:Nat):V:= .int (k:Int)
theorem qC {k:Nat} {A:Around} (r:Room k A):A.units + 100 < cLine:=by have:=r.un;omega
structure En where
 a:Addr
 m:Nat
 p:Nat
noncomputable def HG (es:List En):List (Key×V):=es.map fun e=>(Sum.inl ((e.m.log2:Nat):Int),V.ref e.a)
theorem Cy {kvs:List (Key×V)} {k:Key} {v:V} (h:valV kvs k=none):putK kvs k v=kvs++[(k,v)]:=by
 unfold putK
 rw [jl,h]
 rfl
structure StA (H:Hp) (C p d f n:Addr) (rows:List Nat):Prop where
 ho:∃ dx,H p=some (.ins C dx [("by_top",.ref d),("free_places",.ref f),("null_masks",.ref n)])
 he:∃ es:List En,H d=some (.dK (HG es))∧(∀ e∈es,H e.a=some (.tup [nat e.m,nat e.p]))∧M.Ech (es.map fun e=>(e.m,e.p)) rows∧es.length=(M.fr rows).length
 hf:H f=some (.lst ((M.fr rows).map nat))
 hn:∃ nms,H n=some (.lst (nms.map nat))∧M.Nul nms rows
 ne:f≠n
theorem az {α:Type} {f:α→V} {ws:List α} {i:Nat} {x:V} (h:(ws.map f)[i]? =some x):∃ k,ws[i]? =some k∧x=f k:=by
 rw [List.getElem?_map] at h
 cases e:ws[i]? with
 | none=>rw [e] at h;cases h
 | some k=>rw [e] at h;exact ⟨k,rfl,(Option.some.inj h).symm⟩
theorem take_succ {α:Type} {ws:List α} {i:Nat} {w:α} (h:ws[i]? =some w):ws.take (i + 1)=ws.take i++[w]:=by rw [List.take_succ,h];rfl
theorem GJ {A:Around} {k:Nat} (hr:Room k A):A.units < cLine:=by have:=hr.un;omega
noncomputable def xv (K:PySem.W.Frag):Sp:=fun vs H Q _=>∃ (a:Addr) (ns:List Int),vs=[.ref a]∧SqL K H a (ns.map V.int)∧ns.length≤63∧∀ H',Q (.bl true) H'
structure Prs (H:Hp) (ws:List Nat) (D:Addr) (ps:List (Addr×Nat)):Prop where
 l:H D=some (.lst (ps.map fun q=>V.ref q.1))
 t:∀ q∈ps,H q.1=some (.tup [nat q.2,nat (M.sm ws q.2)])
 b:∀ q∈ps,q.2 < 2 ^ ws.length
end Sx
namespace M
noncomputable def xs (rows ps:List Nat):Nat:=ps.foldl (fun a k=>a^^^rows.getD k 0) 0
end M
namespace Sx
open PySem L2
end Sx
namespace M
noncomputable abbrev od (m:Nat):Bool:=pb 1000 m
structure Bar (rows:List Nat) (b m:Nat):Prop where
 ev:∀ y,Span rows y→od (m&&&y)=false
 bit:m.testBit b=true
 low:∀ k,k < b→m.testBit k=false
 oth:∀ k,k≠b→(∀ y,Span rows y→y≠0→y.log2≠k)→m.testBit k=false
 lt:∀ W,(∀ r∈rows,r < 2 ^ W)→b < W→m < 2 ^ W
structure BarI (es:List (Nat×Nat)) (ts:List Nat) (b m:Nat):Prop where
 ev:∀ e∈es,e.1.log2∈ts→od (m&&&e.1)=false
 bit:m.testBit b=true
 low:∀ k,k < b→m.testBit k=false
 oth:∀ k,k≠b→(∀ e∈es,e.1.log2≠k)→m.testBit k=false
 lt:∀ W,(∀ e∈es,e.1 < 2 ^ W)→b < W→m < 2 ^ W
end M
namespace Sx
open PySem L2
noncomputable def cell (ns:List Int) (k:Int):Int:=if k < ns.length then ns.getD k.toNat 0 else 41 * k + 3
noncomputable def xw (K:PySem.W.Frag):Sp:=fun vs H Q _=>∃ (p:Addr) (ns:List Int) (k:Int),vs=[.ref p,.int k]∧SqL K H p (ns.map V.int)∧0≤k∧Q (.int (cell ns k)) H
theorem rY {K:PySem.W.Frag} {H:Hp} {Q:VK} {E:XK} {p:Addr} {ns:List Int} {k:Int} (e:SqL K H p (ns.map V.int)) (h0:0≤k) (q:Q (.int (cell ns k)) H):xw K [.ref p,.int k] H Q E:=⟨p,ns,k,rfl,e,h0,q⟩
noncomputable def HM (rows:List Nat) (b:Nat):Prop:=∀ y,M.Span rows y→y≠0→y.log2≠b
structure Acr (rows:List Nat) (wd:Nat) (ms:List Nat):Prop where
 len:ms.length + (M.fr rows).length=wd
 inj:M.Inj ms
 lt:∀ m∈ms,m < 2 ^ wd
 ev:∀ m∈ms,∀ y,M.Span rows y→M.od (m&&&y)=false
 all:∀ z,z < 2 ^ wd→(∀ y,M.Span rows y→M.od (z&&&y)=false)→M.Span ms z
end Sx
namespace M
noncomputable def cm (a b:Nat):Nat:=if b=0 then 0 else (if b % 2=1 then a else 0)^^^2 * cm a (b / 2)
termination_by b
decreasing_by omega
noncomputable def Dv (d x:Nat):Prop:=∃ q,cm q d=x
structure Rm (d x r:Nat):Prop where
 lt:r < 2 ^ d.log2
 dv:Dv d (x^^^r)
end M
namespace Sx
open PySem L2
noncomputable def dg (m:Nat):Int:=(Builtin.Int.intBits (m:Int):Int) - 1
end Sx
namespace M
structure Ord (d e:Nat):Prop where
 pos:1≤e
 one:Rm d (2 ^ e) 1
 least:∀ j,1≤j→j < e→¬ Rm d (2 ^ j) 1
 le:e≤2 ^ d.log2
end M
namespace Sx
open PySem L2
theorem fU {c m:Int} (h:0 < m):∃ k:Nat,c % m=(k:Int)∧(k:Int) < m:=by
 obtain ⟨k,hk⟩:=Int.eq_ofNat_of_zero_le (Int.emod_nonneg c (Int.ne_of_gt h))
 exact ⟨k,hk,by rw [← hk];exact Int.emod_lt_of_pos c h⟩
end Sx
namespace M
noncomputable def bn (b:Bool):Nat:=if b then 1 else 0
noncomputable def pk (s:Nat→Bool) (t:Nat):Nat→Nat
 | 0=>0
 | L + 1=>pk s t L^^^(if s (t + L) then 2 ^ L else 0)
noncomputable def lf (G:Nat):Nat→(Nat→Bool)→Nat→Bool
 | 0,_,_=>false
 | L + 1,s,t=>lf G L s t^^(G.testBit L&&s (t + L))
noncomputable def tr (as:List Nat) (x:Nat):Nat:=pk (fun k=>od (as.getD k 0&&&x)) 0 as.length
noncomputable def lm (L G:Nat):List Nat:=(List.range (L - 1)).map (fun p=>2 ^ (p + 1))++(if 0 < L then [G] else [])
end M
namespace Sx
open PySem L2
noncomputable abbrev Pr3:=Addr×Nat×Nat
noncomputable def refs (ps:List Pr3):List V:=ps.map fun q=>V.ref q.1
noncomputable def Prt (H:Hp) (ps:List Pr3):Prop:=∀ q∈ps,H q.1=some (.tup [nat q.2.1,nat q.2.2])
structure MaA (H:Hp) (C p:Addr) (m:Nat) (nx os:List Pr3):Prop where
 ho:∃ dx tn to,H p=some (.ins C dx [("inputs",nat m),("nexts",.ref tn),("outs",.ref to)])∧H tn=some (.tup (refs nx))∧H to=some (.tup (refs os))
 hn:Prt H nx
 hs:Prt H os
noncomputable def sq (bs:List Bool):Nat→Bool:=fun i=>bs.getD i false
structure Tab (H:Hp) (n o:Addr) (m:Nat) (nx os:List Pr3):Prop where
 m6:m≤6
 n:H n=some (.lst (refs nx))
 o:H o=some (.lst (refs os))
 pn:Prt H nx
 po:Prt H os
 ln:nx.length≤120
 lo:os.length≤6
 bn:∀ q∈nx++os,q.2.1 < 2 ^ nx.length∧q.2.2 < 2 ^ m
structure Lfsr (nx os:List Pr3) (L G:Nat):Prop where
 nx:nx.map (fun q=>q.2.1)=M.lm L G
 os:∃ t,os=[(t,(if 0 < L then 1 else 0),0)]
noncomputable abbrev ms (nx:List Pr3):List Nat:=nx.map fun q=>q.2.1
end Sx
namespace M
noncomputable def tr2 (ps:List (Nat×Nat)) (x r:Nat):Nat:=pk (fun k=>od ((ps.getD k (0,0)).1&&&x)^^od ((ps.getD k (0,0)).2&&&r)) 0 ps.length
noncomputable def wan (ps os:List (Nat×Nat)):Nat→List Nat→List Nat
 | _,[]=>[]
 | x,r::rs=>tr2 os x r::wan ps os (tr2 ps x r) rs
noncomputable def pulse (i T:Nat):List Nat:=(List.range T).map fun t=>if t=0 then 2 ^ i else 0
end M
namespace Sx
open PySem L2
structure MaG (m:Nat) (nx os:List Pr3):Prop where
 m6:m≤6
 ln:nx.length≤120
 lo:os.length≤6
 bn:∀ q∈nx++os,q.2.1 < 2 ^ nx.length∧q.2.2 < 2 ^ m
noncomputable def HN (K:PySem.W.Frag) (H:Hp) (xs:List V):Prop:=∀ x∈xs,∃ k,AY K H x k
theorem C8 (xs:List V) (y:Nat) (hy:y≤xs.length):cutV xs none (some (y:Int))=xs.take y:=by
 unfold cutV
 rw [HT.sIx_nat,HT.sIx_none,Nat.min_eq_left hy,Nat.sub_zero,List.drop_zero]
structure Ia (K:PySem.W.Frag) (H:Hp) (C p rr:Addr) (m:Nat) (nx os:List Pr3) (x:V) (xs:List V):Prop where
 ma:MaA H C p m nx os
 g:MaG m nx os
 kx:∃ k,AY K H x k
 sq:SqL K H rr xs
 ks:HN K H xs
 ln:xs.length≤1000
structure TabT (H:Hp) (t n o:Addr) (m:Nat) (nx os:List Pr3):Prop where
 t:H t=some (.tup [nat m,.ref n,.ref o])
 tab:Tab H n o m nx os
theorem mF (xs:List V) (k:Nat) (h:k≤xs.length):cutV xs (some (k:Int)) none=xs.drop k:=by
 unfold cutV
 rw [HT.sIx_nat,HT.sIx_none,Nat.min_eq_left h]
 exact List.take_of_length_le (by rw [List.length_drop];exact Nat.le_refl _)
end Sx
namespace M
noncomputable def bkI (A:List Nat) (s:Nat):Nat→Nat
 | 0=>s
 | i + 1=>sm A (bkI A s i)
end M
namespace Sx
open PySem L2
theorem mT {K:PySem.W.Frag} {H:Hp} {α:Type} (f:α→V) (g:α→Dt) (r:∀ x,Rep K H (f x) (g x)) (xs:List α):∀ (i:Nat) x d,(xs.map f)[i]? =some x→(xs.map g)[i]? =some d→Rep K H x d:=by
 intro i x d h1 h2
 rw [List.getElem?_map] at h1 h2
 cases e:xs[i]? with
 | none=>rw [e] at h1;cases h1
 | some y=>rw [e] at h1 h2;cases h1;cases h2;exact r y
theorem FL {K:PySem.W.Frag} {te:TE} {σ:St} {H:Hp} {Q:VK} (h:te σ H fun x H1=>∃ a xs,x= .ref a∧SqL K H1 a xs∧∀ l,H1 l=none→Q (.ref l) (upd H1 l (.lst xs.reverse))):tRev K te σ H Q:=h
noncomputable def low (c:Nat):Bool:=decide (97≤c)&&decide (c≤122)
noncomputable def fig (c:Nat):Bool:=decide (48≤c)&&decide (c≤57)
noncomputable def nm (l:List Nat):Bool:=match l with
 | []=>false
 | c::r=>decide ((c::r).length≤6)&&low c&&(c::r).all fun c=>low c||fig c
noncomputable def HE (x:V):Bool:=match x with
 | .str z=>nm z.cps.toList
 | _=>false
noncomputable def Nm (z:Str):Prop:=nm z.cps.toList=true
noncomputable def Af (K:PySem.W.Frag):Sp:=fun vs H Q _=>∃ x k,vs=[x]∧AY K H x k∧(∀ z,x= .str z→z.length≤1000)∧∀ H',Same H H'→Q (.bl (HE x)) H'
theorem memL (c:Nat):decide (c∈("abcdefghijklmnopqrstuvwxyz":Str).cps.toList)=low c:=by
 have e:("abcdefghijklmnopqrstuvwxyz":Str).cps.toList=List.range' 97 26:=by decide +kernel
 rw [e]
 unfold low
 rw [Bool.eq_iff_iff,Bool.and_eq_true,decide_eq_true_eq,decide_eq_true_eq,decide_eq_true_eq,List.mem_range']
 constructor
 ·rintro ⟨i,h,rfl⟩;omega
 ·rintro ⟨h1,h2⟩;exact ⟨c - 97,by omega,by omega⟩
theorem memN (c:Nat):decide (c∈("abcdefghijklmnopqrstuvwxyz0123456789":Str).cps.toList)=(low c||fig c):=by
 have e:("abcdefghijklmnopqrstuvwxyz0123456789":Str).cps.toList=List.range' 97 26++List.range' 48 10:=by decide +kernel
 rw [e]
 unfold low fig
 rw [Bool.eq_iff_iff,Bool.or_eq_true,Bool.and_eq_true,Bool.and_eq_true,decide_eq_true_eq,decide_eq_true_eq,decide_eq_true_eq,decide_eq_true_eq,decide_eq_true_eq,List.mem_append,List.mem_range',List.mem_range']
 constructor
 ·rintro (⟨i,h,rfl⟩ | ⟨i,h,rfl⟩)
  ·left;omega
  ·right;omega
 ·rintro (⟨h1,h2⟩ | ⟨h1,h2⟩)
  ·exact .inl ⟨c - 97,by omega,by omega⟩
  ·exact .inr ⟨c - 48,by omega,by omega⟩
theorem ii (z:Str):z.cps.toList.length=z.length:=by simp [Str.length]
theorem uV {z:Str}:z=""↔z.cps.toList=[]:=by
 constructor
 ·rintro rfl;decide +kernel
 ·intro h;cases z with | mk c=>cases c with | mk l=>have h:l=[]:=h;subst h;decide +kernel
theorem Nm.len {z:Str} (h:Nm z):z.length≤6:=by
 have h:nm z.cps.toList=true:=h
 have l:=ii z
 cases e:z.cps.toList with
 | nil=>rw [e] at l;rw [← l];decide
 | cons c r=>
   rw [e] at h l
   unfold nm at h
   rw [Bool.and_eq_true,Bool.and_eq_true] at h
   have:=of_decide_eq_true h.1.1
   omega
theorem c_nm {K:PySem.W.Frag} {H:Hp} {Q:VK} {E:XK} {z:Str} (h:Nm z) (q:∀ H',Same H H'→Q (.bl true) H'):Af K [.str z] H Q E:=⟨_,"str",rfl,rfl,fun z' e=>by cases e;have:=h.len;omega,fun H' s=>by show Q (.bl (nm z.cps.toList)) H';rw [show nm z.cps.toList=true from h];exact q H' s⟩
noncomputable def Ch (K:PySem.W.Frag):Sp:=fun vs H Q _=>∃ x C dx nm,vs=[.ref x,nm]∧Cls K C∧ar K C "name"∧H x=some (.ins C dx [])∧∀ H2,Upd H H2 x (.ins C dx [("name",nm)])→Q .non H2
noncomputable def Cg (C:Addr):Sp:=fun vs H Q _=>∃ x dx nm k,vs=[.ref x,nm,k]∧H x=some (.ins C dx [])∧∀ H2,Upd H H2 x (.ins C dx [("name",nm),("number",k)])→Q .non H2
noncomputable def Cf (C:Addr):Sp:=fun vs H Q _=>∃ x dx nm w k,vs=[.ref x,nm,w,k]∧H x=some (.ins C dx [])∧∀ H2,Upd H H2 x (.ins C dx [("name",nm),("wire",w),("number",k)])→Q .non H2
structure Nt where
 ins:List Str
 sums:List (Str×List Str)
 sts:List (Str×Str)
 outs:List Str
noncomputable def Nt.names (N:Nt):List Str:=N.ins++N.sums.map (·.1)++N.sts.map (·.1)
structure Gn (N:Nt):Prop where
 li:N.ins.length≤6
 ls:N.sums.length≤40
 lt:N.sts.length≤16
 lo:N.outs.length≤6
 lw:∀ r∈N.sums,r.2.length≤24
 nm:∀ z∈N.names,Nm z
 nd:N.names.Nodup
 ws:∀ r∈N.sums,∀ z∈r.2,z∈N.names
 ts:∀ r∈N.sts,r.2∈N.names
 os:∀ z∈N.outs,z∈N.names
 rk:∃ rank:Str→Nat,∀ r∈N.sums,∀ z∈r.2,z∈N.sums.map (·.1)→rank z < rank r.1
structure Topo (sums:List (Str×List Str)) (od:List Str):Prop where
 perm:od.Perm (sums.map (·.1))
 need:∀ (i:Nat) z,od[i]? =some z→∀ ws,(z,ws)∈sums→∀ y∈ws,y∈sums.map (·.1)→y∈od.take i
noncomputable abbrev Rw:=Addr×Addr×Str×List Str
noncomputable abbrev Qs:=Addr×Str×Str
structure Hnd (H:Hp) (i s t o:Addr) (rs:List Rw) (qs:List Qs) (N:Nt):Prop where
 i:H i=some (.lst (N.ins.map V.str))
 s:H s=some (.lst (rs.map fun r=>V.ref r.1))
 sr:∀ r∈rs,H r.1=some (.tup [.str r.2.2.1,.ref r.2.1])∧H r.2.1=some (.lst (r.2.2.2.map V.str))
 es:rs.map (·.2.2)=N.sums
 t:H t=some (.lst (qs.map fun q=>V.ref q.1))
 tr:∀ q∈qs,H q.1=some (.tup [.str q.2.1,.str q.2.2])
 et:qs.map (·.2)=N.sts
 o:H o=some (.lst (N.outs.map V.str))
theorem Hnd.same {H H2:Hp} {i s t o:Addr} {rs:List Rw} {qs:List Qs} {N:Nt} (x:Hnd H i s t o rs qs N) (h:Same H H2):Hnd H2 i s t o rs qs N:=⟨h.get x.i,h.get x.s,fun r m=>⟨h.get (x.sr r m).1,h.get (x.sr r m).2⟩,x.es,h.get x.t,fun q m=>h.get (x.tr q m),x.et,h.get x.o⟩
structure Kpt (H:Hp) (i s t o:Addr) (rs:List Rw) (qs:List Qs) (N:Nt):Prop where
 i:H i=some (.tup (N.ins.map V.str))
 s:H s=some (.tup (rs.map fun r=>V.ref r.1))
 sr:∀ r∈rs,H r.1=some (.tup [.str r.2.2.1,.ref r.2.1])∧H r.2.1=some (.tup (r.2.2.2.map V.str))
 es:rs.map (·.2.2)=N.sums
 t:H t=some (.tup (qs.map fun q=>V.ref q.1))
 tr:∀ q∈qs,H q.1=some (.tup [.str q.2.1,.str q.2.2])
 et:qs.map (·.2)=N.sts
 o:H o=some (.tup (N.outs.map V.str))
theorem Kpt.same {H H2:Hp} {i s t o:Addr} {rs:List Rw} {qs:List Qs} {N:Nt} (x:Kpt H i s t o rs qs N) (h:Same H H2):Kpt H2 i s t o rs qs N:=⟨h.get x.i,h.get x.s,fun r m=>⟨h.get (x.sr r m).1,h.get (x.sr r m).2⟩,x.es,h.get x.t,fun q m=>h.get (x.tr q m),x.et,h.get x.o⟩
noncomputable def Am:Sp:=fun vs H Q _=>∃ (i s t o:Addr) (rs:List Rw) (qs:List Qs) (N:Nt),vs=[.ref i,.ref s,.ref t,.ref o]∧Hnd H i s t o rs qs N∧Gn N∧∀ H2,Same H H2→Q .non H2
noncomputable def An:Sp:=fun vs H Q _=>∃ (l:Addr) (zs:List Str),vs=[.ref l]∧H l=some (.lst (zs.map V.str))∧zs.length≤1000∧zs.Nodup∧(∀ z∈zs,Nm z)∧∀ H2,Same H H2→Q .non H2
noncomputable def Knw (H:Hp) (d:Addr) (zs:List Str):Prop:=∃ kvs:List (Key×V),H d=some (.dK kvs)∧kvs.map (·.1)=zs.map Sum.inr
theorem Knw.same {H H2:Hp} {d:Addr} {zs:List Str} (x:Knw H d zs) (h:Same H H2):Knw H2 d zs:=let ⟨k,e,f⟩:=x;⟨k,h.get e,f⟩
noncomputable def Ci:Sp:=fun vs H Q _=>∃ (z:Str) (d:Addr) (zs:List Str),vs=[.str z,.ref d]∧Knw H d zs∧z∈zs∧Nm z∧∀ H2,Same H H2→Q .non H2
noncomputable def Al:Sp:=fun vs H Q _=>∃ (i s t o d:Addr) (rs:List Rw) (qs:List Qs) (N:Nt),vs=[.ref s,.ref t,.ref o,.ref d]∧Kpt H i s t o rs qs N∧Gn N∧Knw H d N.names∧∀ H2,Same H H2→Q .non H2
theorem mz {kvs:List (Key×V)} {zs:List Str} (e:kvs.map (·.1)=zs.map Sum.inr) (z:Str):(valV kvs (Sum.inr z)).isSome=decide (z∈zs):=by
 cases h:valV kvs (Sum.inr z) with
 | none=>
   have:=B8 h
   rw [e] at this
   rw [decide_eq_false fun m=>this (List.mem_map.mpr ⟨z,m,rfl⟩)];rfl
 | some v=>
   have:=D0 h
   rw [e] at this
   obtain ⟨y,hy,ey⟩:=List.mem_map.mp this
   cases ey
   rw [decide_eq_true hy];rfl
theorem Ez {kvs:List (Key×V)} {zs:List Str} (e:kvs.map (·.1)=zs.map Sum.inr) {z:Str} (h:z∉zs) (v:V):putK kvs (Sum.inr z) v=kvs++[(Sum.inr z,v)]:=by
 refine Cy ?_
 rw [← Option.not_isSome_iff_eq_none,mz e z,decide_eq_false h];exact Bool.false_ne_true
inductive Wob (H:Hp) (CI CS CT:Addr) (N:Nt) (z:Str) (w:Addr):Prop where
 | i (k:Nat) (dx:Addr) (hk:N.ins[k]? =some z) (e:H w=some (.ins CI dx [("name",.str z),("number",nat k)])):Wob H CI CS CT N z w
 | s (ws:List Str) (dx tw:Addr) (hk:(z,ws)∈N.sums) (e:H w=some (.ins CS dx [("name",.str z),("wires",.ref tw)])) (et:H tw=some (.tup (ws.map V.str))):Wob H CI CS CT N z w
 | t (k:Nat) (y:Str) (dx:Addr) (hk:N.sts[k]? =some (z,y)) (e:H w=some (.ins CT dx [("name",.str z),("wire",.str y),("number",nat k)])):Wob H CI CS CT N z w
theorem Wob.same {H H2:Hp} {CI CS CT:Addr} {N:Nt} {z:Str} {w:Addr} (x:Wob H CI CS CT N z w) (h:Same H H2):Wob H2 CI CS CT N z w:=by
 cases x with
 | i k dx hk e=>exact .i k dx hk (h.get e)
 | s ws dx tw hk e et=>exact .s ws dx tw hk (h.get e) (h.get et)
 | t k y dx hk e=>exact .t k y dx hk (h.get e)
theorem Wob.name {H:Hp} {CI CS CT:Addr} {N:Nt} {z:Str} {w:Addr} (x:Wob H CI CS CT N z w):∃ C dx fs,H w=some (.ins C dx (("name",.str z)::fs))∧(C=CI∨C=CS∨C=CT):=by
 cases x with
 | i k dx hk e=>exact ⟨_,_,_,e,.inl rfl⟩
 | s ws dx tw hk e et=>exact ⟨_,_,_,e,.inr (.inl rfl)⟩
 | t k y dx hk e=>exact ⟨_,_,_,e,.inr (.inr rfl)⟩
structure WiA (H:Hp) (CI CS CT d:Addr) (N:Nt) (ws:List (Str×Addr)):Prop where
 d:H d=some (.dK (ws.map fun q=>(Sum.inr q.1,V.ref q.2)))
 nm:ws.map (·.1)=N.names
 ob:∀ q∈ws,Wob H CI CS CT N q.1 q.2
theorem WiA.same {H H2:Hp} {CI CS CT d:Addr} {N:Nt} {ws:List (Str×Addr)} (x:WiA H CI CS CT d N ws) (h:Same H H2):WiA H2 CI CS CT d N ws:=⟨h.get x.d,x.nm,fun q m=>(x.ob q m).same h⟩
theorem WiA.knw {H:Hp} {CI CS CT d:Addr} {N:Nt} {ws:List (Str×Addr)} (x:WiA H CI CS CT d N ws):Knw H d N.names:=⟨_,x.d,by rw [List.map_map,← x.nm,List.map_map];rfl⟩
noncomputable def yd (CI CS CT:Addr):Sp:=fun vs H Q _=>∃ (i s t o:Addr) (rs:List Rw) (qs:List Qs) (N:Nt),vs=[.ref i,.ref s,.ref t]∧Kpt H i s t o rs qs N∧Gn N∧∀ (d:Addr) (H2:Hp) (ws:List (Str×Addr)),H d=none→Same H H2→WiA H2 CI CS CT d N ws→Q (.ref d) H2
noncomputable def c9 (zs:List Str) (ws:List Str):Bool:=ws.any fun w=>decide (w∈zs)
noncomputable def Cb:Sp:=fun vs H Q _=>∃ (r:Rw) (d:Addr) (zs:List Str),vs=[.ref r.1,.ref d]∧H r.1=some (.tup [.str r.2.2.1,.ref r.2.1])∧H r.2.1=some (.tup (r.2.2.2.map V.str))∧r.2.2.2.length≤24∧Knw H d zs∧∀ H2,Same H H2→Q (.bl (c9 zs r.2.2.2)) H2
noncomputable def ye:Sp:=fun vs H Q _=>∃ (s:Addr) (rs:List Rw) (N:Nt),vs=[.ref s]∧H s=some (.tup (rs.map fun r=>V.ref r.1))∧(∀ r∈rs,H r.1=some (.tup [.str r.2.2.1,.ref r.2.1])∧H r.2.1=some (.tup (r.2.2.2.map V.str)))∧rs.map (·.2.2)=N.sums∧Gn N∧∀ (D:Addr) (H2:Hp) (od:List Str),H D=none→Same H H2→H2 D=some (.lst (od.map V.str))→Topo N.sums od→Q (.ref D) H2
theorem ie {H:Hp} {Q:VK} {l b:Addr} {xs zs:List V} (e1:H l=some (.lst xs)) (e2:H b=some (.lst zs)) (hl:xs.length + zs.length≤sizeLine) (h:∀ H2,Upd H H2 l (.lst (xs++zs))→Q .non H2):Av (.ref l) [.ref b] H Q:=⟨l,b,xs,zs,rfl,rfl,e1,e2,hl,h _ Upd.of⟩
theorem Wob.keep {H H2:Hp} {CI CS CT:Addr} {N:Nt} {z:Str} {w D:Addr} {xs:List V} (x:Wob H CI CS CT N z w) (hD:H D=some (.lst xs)) (h:∀ b o,b≠D→H b=some o→H2 b=some o):Wob H2 CI CS CT N z w:=by
 cases x with
 | i k dx hk e=>exact .i k dx hk (h _ _ (fz e hD (fun z=>by cases z)) e)
 | s ws dx tw hk e et=>exact .s ws dx tw hk (h _ _ (fz e hD (fun z=>by cases z)) e) (h _ _ (fz et hD (fun z=>by cases z)) et)
 | t k y dx hk e=>exact .t k y dx hk (h _ _ (fz e hD (fun z=>by cases z)) e)
structure WL (H0 H:Hp) (CI CS CT:Addr) (N:Nt) (D:Addr) (ys:List V) (zs:List Str) (ws:List (Str×Addr)):Prop where
 ey:ys=ws.map fun q=>V.ref q.2
 nm:ws.map (·.1)=zs
 ob:∀ q∈ws,Wob H CI CS CT N q.1 q.2
 same:Same H0 H
 d:H D=some (.lst ys)
noncomputable def Ak (K:PySem.W.Frag) (C:Addr):Sp:=fun vs H Q _=>∃ x dx nm tw ws,vs=[.ref x,nm,.ref tw]∧H tw=some (.tup ws)∧H x=some (.ins C dx [])∧
 ∀ H2,Upd H H2 x (.ins C dx [("name",nm),("wires",.ref tw)])→Q .non H2
theorem WL.put {H0 H H4:Hp} {CI CS CT:Addr} {N:Nt} {D:Addr} {ys:List V} {zs:List Str} {ws:List (Str×Addr)} (c:WL H0 H CI CS CT N D ys zs ws) (hD:H0 D=none) (s:Same H H4) {z:Str} {x:Addr} (wb:Wob H4 CI CS CT N z x) (lz:zs.length≤900) {zs':List Str} (ez:zs'=zs++[z]):
  H4 D=some (.lst ys)∧ys.length < sizeLine∧∃ ws,WL H0 (upd H4 D (.lst (ys++[.ref x]))) CI CS CT N D (ys++[.ref x]) zs' ws:=by
 have eD:=s.get c.d
 have k:∀ b o,b≠D→H4 b=some o→upd H4 D (.lst (ys++[.ref x])) b=some o:=fun b o n e=>by rw [aq n];exact e
 have lw:ys.length=zs.length:=by rw [c.ey,← c.nm,List.length_map,List.length_map]
 refine ⟨eD,aE (by omega),ws++[(z,x)],by rw [List.map_append,c.ey];rfl,by rw [List.map_append,c.nm,ez];rfl,fun q hq=>?_,fun b o e=>?_,al⟩
 ·rcases List.mem_append.mp hq with h | h
  ·exact ((c.ob q h).same s).keep eD k
  ·rw [List.mem_singleton] at h;subst h;exact wb.keep eD k
 ·exact k _ _ (ah e hD) (s.get (c.same.get e))
theorem WL.join {H0 H H2 H3:Hp} {CI CS CT:Addr} {N:Nt} {D D2:Addr} {ys ys2:List V} {zs zs2:List Str} {ws ws2:List (Str×Addr)} (c:WL H0 H CI CS CT N D ys zs ws) (c2:WL H H2 CI CS CT N D2 ys2 zs2 ws2) (hD:H0 D=none) (u:Upd H2 H3 D (.lst (ys++ys2))):
  WL H0 H3 CI CS CT N D (ys++ys2) (zs++zs2) (ws++ws2):=by
 have eD:=c2.same.get c.d
 refine ⟨by rw [List.map_append,c.ey,c2.ey],by rw [List.map_append,c.nm,c2.nm],fun q hq=>?_,fun b o e=>u.oth _ _ (ah e hD) (c2.same.get (c.same.get e)),u.at'⟩
 rcases List.mem_append.mp hq with h | h
 ·exact ((c.ob q h).same c2.same).keep eD u.oth
 ·exact (c2.ob q h).keep eD u.oth
structure Otp (sums:List (Str×List Str)) (od:List Str) (lf:List (Str×List Str)):Prop where
 perm:(od++lf.map (·.1)).Perm (sums.map (·.1))
 sub:∀ r∈lf,r∈sums
 need:∀ (i:Nat) z,od[i]? =some z→∀ ws,(z,ws)∈sums→∀ y∈ws,y∈sums.map (·.1)→y∈od.take i
theorem Otp.start (sums:List (Str×List Str)):Otp sums [] sums:=⟨List.Perm.refl _,fun _ h=>h,fun i z h=>by simp at h⟩
theorem Otp.done {sums:List (Str×List Str)} {od:List Str} (o:Otp sums od []):Topo sums od:=⟨by have:=o.perm;rwa [List.map_nil,List.append_nil] at this,o.need⟩
theorem EF {sums:List (Str×List Str)} (nd:(sums.map (·.1)).Nodup) {z:Str} {ws ws':List Str} (h:(z,ws)∈sums) (h':(z,ws')∈sums):ws=ws':=by
 induction sums with
 | nil=>cases h
 | cons r l ih=>
   rw [List.map_cons,List.nodup_cons] at nd
   rcases List.mem_cons.mp h with e | h
   ·rcases List.mem_cons.mp h' with e' | h'
    ·rw [← e] at e';exact (Prod.mk.inj e').2.symm
    ·exact absurd (List.mem_map.mpr ⟨_,h',rfl⟩) (by rw [← e] at nd;exact nd.1)
   ·rcases List.mem_cons.mp h' with e' | h'
    ·exact absurd (List.mem_map.mpr ⟨_,h,rfl⟩) (by rw [← e'] at nd;exact nd.1)
    ·exact ih nd.2 h h'
theorem Otp.step {sums:List (Str×List Str)} (nd:(sums.map (·.1)).Nodup) {od:List Str} {lf:List (Str×List Str)} (o:Otp sums od lf):
  Otp sums (od++(lf.filter fun r=> !c9 (lf.map (·.1)) r.2).map (·.1)) (lf.filter fun r=>c9 (lf.map (·.1)) r.2):=by
 refine ⟨?_,fun r h=>o.sub r (List.mem_filter.mp h).1,fun i z hz ws hw y hy hs=>?_⟩
 ·refine List.Perm.trans ?_ o.perm
  rw [List.append_assoc,← List.map_append]
  refine List.Perm.append_left _ (List.Perm.map _ ?_)
  refine List.Perm.trans List.perm_append_comm ?_
  exact List.filter_append_perm _ _
 ·by_cases hi:i < od.length
  ·rw [List.getElem?_append_left hi] at hz
   rw [List.take_append_of_le_length (Nat.le_of_lt hi)]
   exact o.need i z hz ws hw y hy hs
  ·rw [List.getElem?_append_right (by omega)] at hz
   have hm:=List.mem_of_getElem? hz
   obtain ⟨r,hr,rfl⟩:=List.mem_map.mp hm
   obtain ⟨hr1,hr2⟩:=List.mem_filter.mp hr
   have e:ws=r.2:=EF nd hw (o.sub r hr1)
   subst e
   have hn:y∉lf.map (·.1):=fun m=>by
    have:c9 (lf.map (·.1)) r.2=true:=List.any_eq_true.mpr ⟨y,hy,decide_eq_true m⟩
    rw [this] at hr2
    cases hr2
   have:=(o.perm.mem_iff (a:=y)).mpr hs
   rcases List.mem_append.mp this with h | h
   ·rw [List.take_append,List.mem_append]
    left
    rw [List.take_of_length_le (by omega)]
    exact h
   ·exact absurd h hn
theorem qb {α:Type} (f:α→Nat):∀ l:List α,l≠[]→∃ a∈l,∀ b∈l,f a≤f b
 | [],h=>absurd rfl h
 | [a],_=>⟨a,List.mem_singleton.mpr rfl,fun b h=>by rw [List.mem_singleton.mp h];exact Nat.le_refl _⟩
 | a::b::l,_=>by
   obtain ⟨c,hc,h⟩:=qb f (b::l) (by simp)
   by_cases hac:f a≤f c
   ·exact ⟨a,List.mem_cons_self ..,fun d hd=>(List.mem_cons.mp hd).elim (fun e=>by rw [e];exact Nat.le_refl _) fun e=>Nat.le_trans hac (h d e)⟩
   ·exact ⟨c,List.mem_cons_of_mem _ hc,fun d hd=>(List.mem_cons.mp hd).elim (fun e=>by rw [e];omega) fun e=>h d e⟩
theorem Otp.ready {N:Nt} (g:Gn N) {od:List Str} {lf:List (Str×List Str)} (o:Otp N.sums od lf) (h:lf≠[]):0 < (lf.filter fun r=> !c9 (lf.map (·.1)) r.2).length:=by
 obtain ⟨rank,hr⟩:=g.rk
 obtain ⟨r,hm,hl⟩:=qb (fun r:Str×List Str=>rank r.1) lf h
 refine List.length_pos_of_mem (List.mem_filter.mpr ⟨hm,?_⟩)
 cases hw:c9 (lf.map (·.1)) r.2 with
 | false=>rfl
 | true=>
   obtain ⟨y,hy,hy2⟩:=List.any_eq_true.mp hw
   obtain ⟨r2,hm2,rfl⟩:=List.mem_map.mp (of_decide_eq_true hy2)
   have h1:=hr r (o.sub r hm) _ hy (List.mem_map.mpr ⟨r2,o.sub r2 hm2,rfl⟩)
   have h2:=hl r2 hm2
   omega
theorem wz {α:Type} (p:α→Bool):∀ l:List α,0 < (l.filter fun x=> !p x).length→(l.filter p).length < l.length:=fun l h=>by
 have:=(List.filter_append_perm p l).length_eq
 rw [List.length_append] at this
 omega
theorem Gn.nds {N:Nt} (g:Gn N):(N.sums.map (·.1)).Nodup:=by
 have:=g.nd
 unfold Nt.names at this
 rw [List.nodup_append,List.nodup_append] at this
 exact this.1.2.1
structure NetA (H:Hp) (C CI CS CT p:Addr) (N:Nt) (od:List Str):Prop where
 ho:∃ (dx i s t o d tq:Addr) (rs:List Rw) (qs:List Qs) (ws:List (Str×Addr)),H p=some (.ins C dx [("ins",.ref i),("sums",.ref s),("kept_stores",.ref t),("outs",.ref o),("by_name",.ref d),("sum_order",.ref tq)])∧Kpt H i s t o rs qs N∧WiA H CI CS CT d N ws∧H tq=some (.tup (od.map V.str))
 g:Gn N
 tp:Topo N.sums od
theorem NetA.same {H H2:Hp} {C CI CS CT p:Addr} {N:Nt} {od:List Str} (x:NetA H C CI CS CT p N od) (h:Same H H2):NetA H2 C CI CS CT p N od:=
 ⟨let ⟨dx,i,s,t,o,d,tq,rs,qs,ws,a,b,c,e⟩:=x.ho;⟨dx,i,s,t,o,d,tq,rs,qs,ws,h.get a,b.same h,c.same h,h.get e⟩,x.g,x.tp⟩
noncomputable def FE (C CI CS CT:Addr):Sp:=fun vs H Q _=>∃ (x dx i s t o:Addr) (rs:List Rw) (qs:List Qs) (N:Nt),vs=[.ref x,.ref i,.ref s,.ref t,.ref o]∧H x=some (.ins C dx [])∧Hnd H i s t o rs qs N∧Gn N∧
 ∀ (H2:Hp) (od:List Str),(∀ b ob,b≠x→H b=some ob→H2 b=some ob)→NetA H2 C CI CS CT x N od→Q .non H2
noncomputable def Kx (x:Addr) (H H2:Hp):Prop:=∀ b ob,b≠x→H b=some ob→H2 b=some ob
theorem Kx.trans {x:Addr} {H H2 H3:Hp} (a:Kx x H H2) (b:Kx x H2 H3):Kx x H H3:=fun c o n e=>b c o n (a c o n e)
theorem Kx.same {x:Addr} {H H2:Hp} (s:Same H H2):Kx x H H2:=fun _ _ _ e=>s.get e
theorem Kx.upd {x:Addr} {H H2:Hp} {o:HO} (u:Upd H H2 x o):Kx x H H2:=u.oth
theorem Kx.tup {x:Addr} {H H2:Hp} (k:Kx x H H2) {C dx:Addr} {fs:List (Str×V)} (hx:H x=some (.ins C dx fs)) {b:Addr} {xs:List V} (e:H b=some (.tup xs)):H2 b=some (.tup xs):=k b _ (fz e hx fun z=>by cases z) e
theorem Kx.lst {x:Addr} {H H2:Hp} (k:Kx x H H2) {C dx:Addr} {fs:List (Str×V)} (hx:H x=some (.ins C dx fs)) {b:Addr} {xs:List V} (e:H b=some (.lst xs)):H2 b=some (.lst xs):=k b _ (fz e hx fun z=>by cases z) e
theorem Kx.hnd {x:Addr} {H H2:Hp} (k:Kx x H H2) {C dx:Addr} {fs:List (Str×V)} (hx:H x=some (.ins C dx fs)) {i s t o:Addr} {rs:List Rw} {qs:List Qs} {N:Nt} (h:Hnd H i s t o rs qs N):Hnd H2 i s t o rs qs N:=
 ⟨k.lst hx h.i,k.lst hx h.s,fun r m=>⟨k.tup hx (h.sr r m).1,k.lst hx (h.sr r m).2⟩,h.es,k.lst hx h.t,fun q m=>k.tup hx (h.tr q m),h.et,k.lst hx h.o⟩
noncomputable def RwK (H:Hp) (rs:List Rw):Prop:=∀ r∈rs,H r.1=some (.tup [.str r.2.2.1,.ref r.2.1])∧H r.2.1=some (.tup (r.2.2.2.map V.str))
noncomputable def QsK (H:Hp) (qs:List Qs):Prop:=∀ q∈qs,H q.1=some (.tup [.str q.2.1,.str q.2.2])
theorem RwK.same {H H2:Hp} {rs:List Rw} (h:RwK H rs) (s:Same H H2):RwK H2 rs:=fun r m=>⟨s.get (h r m).1,s.get (h r m).2⟩
theorem QsK.same {H H2:Hp} {qs:List Qs} (h:QsK H qs) (s:Same H H2):QsK H2 qs:=fun q m=>s.get (h q m)
theorem Kx.rw {x:Addr} {H H2:Hp} (k:Kx x H H2) {C dx:Addr} {fs:List (Str×V)} (hx:H x=some (.ins C dx fs)) {rs:List Rw} (h:RwK H rs):RwK H2 rs:=fun r m=>⟨k.tup hx (h r m).1,k.tup hx (h r m).2⟩
theorem Kx.qs {x:Addr} {H H2:Hp} (k:Kx x H H2) {C dx:Addr} {fs:List (Str×V)} (hx:H x=some (.ins C dx fs)) {qs:List Qs} (h:QsK H qs):QsK H2 qs:=fun q m=>k.tup hx (h q m)
theorem RwK.updL {H H2:Hp} {rs:List Rw} (h:RwK H rs) {D:Addr} {xs:List V} (hD:H D=some (.lst xs)) (k:∀ b o,b≠D→H b=some o→H2 b=some o):RwK H2 rs:=fun r m=>⟨k _ _ (fz (h r m).1 hD fun z=>by cases z) (h r m).1,k _ _ (fz (h r m).2 hD fun z=>by cases z) (h r m).2⟩
theorem QsK.updL {H H2:Hp} {qs:List Qs} (h:QsK H qs) {D:Addr} {xs:List V} (hD:H D=some (.lst xs)) (k:∀ b o,b≠D→H b=some o→H2 b=some o):QsK H2 qs:=fun q m=>k _ _ (fz (h q m) hD fun z=>by cases z) (h q m)
theorem Kx.kpt {x:Addr} {H H2:Hp} (k:Kx x H H2) {C dx:Addr} {fs:List (Str×V)} (hx:H x=some (.ins C dx fs)) {i s t o:Addr} {rs:List Rw} {qs:List Qs} {N:Nt} (h:Kpt H i s t o rs qs N):Kpt H2 i s t o rs qs N:=
 ⟨k.tup hx h.i,k.tup hx h.s,fun r m=>⟨k.tup hx (h.sr r m).1,k.tup hx (h.sr r m).2⟩,h.es,k.tup hx h.t,fun q m=>k.tup hx (h.tr q m),h.et,k.tup hx h.o⟩
theorem Kx.wia {x:Addr} {H H2:Hp} (k:Kx x H H2) {CI CS CT d:Addr} {N:Nt} {ws:List (Str×Addr)} (h:WiA H CI CS CT d N ws) (hd:d≠x) (hw:∀ q∈ws,q.2≠x) {C dx:Addr} {fs:List (Str×V)} (hx:H x=some (.ins C dx fs)):WiA H2 CI CS CT d N ws:=
 ⟨k _ _ hd h.d,h.nm,fun q m=>by
  cases h.ob q m with
  | i k' dx' hk e=>exact .i k' dx' hk (k _ _ (hw q m) e)
  | s ws' dx' tw hk e et=>exact .s ws' dx' tw hk (k _ _ (hw q m) e) (k.tup hx et)
  | t k' y dx' hk e=>exact .t k' y dx' hk (k _ _ (hw q m) e)⟩
noncomputable def xb (f:Str→Bool) (ws:List Str):Bool:=ws.foldl (fun a w=>a^^f w) false
structure Val (N:Nt) (row st:Nat) (f:Str→Bool):Prop where
 i:∀ (k:Nat) z,N.ins[k]? =some z→f z=row.testBit k
 t:∀ (k:Nat) z y,N.sts[k]? =some (z,y)→f z=st.testBit k
 s:∀ z ws,(z,ws)∈N.sums→f z=xb f ws
noncomputable def fv (N:Nt) (row st:Nat):Str→Bool:=Classical.epsilon (Val N row st)
noncomputable def HY (N:Nt):Prop:=∀ r s,∃ f,Val N r s f
noncomputable def need (N:Nt) (od:List Str):List Str:=N.ins++N.sts.map (·.1)++od
structure Pre (N:Nt) (row st:Nat) (pre:List Str) (f:Str→Bool):Prop where
 i:∀ (k:Nat) z,N.ins[k]? =some z→z∈pre→f z=row.testBit k
 t:∀ (k:Nat) z y,N.sts[k]? =some (z,y)→z∈pre→f z=st.testBit k
 s:∀ z ws,(z,ws)∈N.sums→z∈pre→f z=xb f ws∧∀ w∈ws,w∈pre
structure Bt (N:Nt) (row st:Nat) (pre:List Str) (f:Str→Bool) (z:Str) (v:Bool):Prop where
 i:∀ k:Nat,N.ins[k]? =some z→v=row.testBit k
 t:∀ (k:Nat) y,N.sts[k]? =some (z,y)→v=st.testBit k
 s:∀ ws,(z,ws)∈N.sums→v=xb f ws∧∀ w∈ws,w∈pre
section
variable {N:Nt} (g:Gn N)
include g
variable {od:List Str} (tp:Topo N.sums od)
include tp
end
noncomputable abbrev NP:=Hp→Addr→Nt→List Str→Prop
noncomputable def yf (NA:NP):Sp:=fun vs H Q _=>∃ (p:Addr) (N:Nt) (od:List Str),vs=[.ref p]∧NA H p N od∧∀ (D:Addr) (H2:Hp),H D=none→Same H H2→H2 D=some (.lst (N.ins.map V.str))→Q (.ref D) H2
noncomputable def Ee (NA:NP):Sp:=fun vs H Q _=>∃ (p:Addr) (N:Nt) (od:List Str),vs=[.ref p]∧NA H p N od∧∀ (D:Addr) (H2:Hp),H D=none→Same H H2→H2 D=some (.lst (N.outs.map V.str))→Q (.ref D) H2
noncomputable def Ac (NA:NP):Sp:=fun vs H Q _=>∃ (p:Addr) (N:Nt) (od:List Str),vs=[.ref p]∧NA H p N od∧∀ (D:Addr) (H2:Hp) (qs:List Qs),H D=none→Same H H2→H2 D=some (.lst (qs.map fun q=>V.ref q.1))→QsK H2 qs→qs.map (·.2)=N.sts→Q (.ref D) H2
structure RunA (NA:NP) (H:Hp) (C p l n:Addr) (N:Nt) (od:List Str) (st:Nat) (as:List Nat):Prop where
 ho:∃ (dx d:Addr),H p=some (.ins C dx [("net",.ref n),("held",nat st),("bits",.ref d),("given",.ref l)])
 hl:H l=some (.lst (as.map nat))
 na:NA H n N od
noncomputable def mixV (c k:Int):Int:=((c % 2147483647 * 48271 + 7919 * k + 11) % 2147483647 * ((c % 2147483647 * 48271 + 7919 * k + 11) % 2147483647) % 2147483629) * ((c % 2147483647 * 48271 + 7919 * k + 11) % 2147483647 * ((c % 2147483647 * 48271 + 7919 * k + 11) % 2147483647) % 2147483629 + 48271 * k + 7) % 2147483587
noncomputable def Ag:Sp:=fun vs H Q _=>∃ (c k:Int),vs=[.int c,.int k]∧0≤k∧k < 100000∧Q (.int (mixV c k)) H
noncomputable def z6:Str:=("cut x x0 x1 fresh new zero none nil tmp c c0 cut0 cut1 gnd off in out sum store":Str)++(" i0 i1 s0 s1 n0 n1 o0 o1 net wire a b z y0 t0 w w0 k dead open":Str)
noncomputable def W40:List Str:=Txt.split z6 " "
theorem sh:W40.length=40:=by decide +kernel
theorem G1:W40.Nodup:=by decide +kernel
theorem G0:∀ z∈W40,nm z.cps.toList=true:=by decide +kernel
noncomputable def dval (l:List Nat):Nat:=l.foldl (fun a c=>10 * a + (c - 48)) 0
noncomputable def tx (n:Nat):Str:=(toString (n:Int):String)
theorem z7:∀ n:Fin 2500,(dval (tx n.1).cps.toList=n.1∧(tx n.1).cps.toList.all fig=true)∧(tx n.1).cps.toList.length≤4:=by decide +kernel
noncomputable def nmf (c k:Int):Str:=if mixV c 402 % 2=0 then W40.getD ((k + mixV c 403) % 40).toNat "" else (⟨#[97 + (mixV c 400 % 26).toNat]⟩:Str)++tx ((mixV c 401 % 1000).toNat + 37 * k.toNat)
theorem BE (x y:Str):(x++y).cps.toList=x.cps.toList++y.cps.toList:=by
 show (x.cps++y.cps).toList=_
 rw [Array.toList_append]
theorem Gx (c:Int) {k:Int} (h0:0≤k) (h1:k < 40):Nm (nmf c k):=by
 unfold nmf
 by_cases h:mixV c 402 % 2=0
 ·rw [if_pos h]
  have hi:((k + mixV c 403) % 40).toNat < W40.length:=by
   rw [sh]
   have:=Int.emod_lt_of_pos (k + mixV c 403) (show (0:Int) < 40 by decide)
   have:=Int.emod_nonneg (k + mixV c 403) (show (40:Int)≠0 by decide)
   omega
  rw [List.getD_eq_getElem?_getD,List.getElem?_eq_getElem hi]
  exact G0 _ (List.getElem_mem hi)
 ·rw [if_neg h]
  have hb:(mixV c 401 % 1000).toNat + 37 * k.toNat < 2500:=by
   have:=Int.emod_lt_of_pos (mixV c 401) (show (0:Int) < 1000 by decide)
   have:=Int.emod_nonneg (mixV c 401) (show (1000:Int)≠0 by decide)
   omega
  obtain ⟨⟨_,h2⟩,h3⟩:=z7 ⟨_,hb⟩
  have hd:low (97 + (mixV c 400 % 26).toNat)=true:=by
   have:=Int.emod_lt_of_pos (mixV c 400) (show (0:Int) < 26 by decide)
   have:=Int.emod_nonneg (mixV c 400) (show (26:Int)≠0 by decide)
   unfold low
   rw [decide_eq_true (by omega),decide_eq_true (by omega)];rfl
  show nm _=true
  rw [BE]
  show nm ((97 + (mixV c 400 % 26).toNat)::(tx ((mixV c 401 % 1000).toNat + 37 * k.toNat)).cps.toList)=true
  generalize hl:(tx ((mixV c 401 % 1000).toNat + 37 * k.toNat)).cps.toList=l at h2 h3
  generalize 97 + (mixV c 400 % 26).toNat=d at hd
  show (decide ((d::l).length≤6)&&low d&&(d::l).all fun c=>low c||fig c)=true
  rw [hd,List.all_cons,hd]
  have h2':l.all (fun c=>low c||fig c)=true:=by
   rw [List.all_eq_true] at h2 ⊢
   intro x hx
   rw [h2 x hx,Bool.or_true]
  rw [h2',List.length_cons,decide_eq_true (by omega)];rfl
theorem EH (c:Int) {j k:Int} (j0:0≤j) (j1:j < 40) (k0:0≤k) (k1:k < 40) (e:nmf c j=nmf c k):j=k:=by
 unfold nmf at e
 by_cases h:mixV c 402 % 2=0
 ·rw [if_pos h,if_pos h] at e
  have hj:=Int.emod_lt_of_pos (j + mixV c 403) (show (0:Int) < 40 by decide)
  have hj':=Int.emod_nonneg (j + mixV c 403) (show (40:Int)≠0 by decide)
  have hk:=Int.emod_lt_of_pos (k + mixV c 403) (show (0:Int) < 40 by decide)
  have hk':=Int.emod_nonneg (k + mixV c 403) (show (40:Int)≠0 by decide)
  have lj:((j + mixV c 403) % 40).toNat < W40.length:=by rw [sh];omega
  have lk:((k + mixV c 403) % 40).toNat < W40.length:=by rw [sh];omega
  rw [List.getD_eq_getElem?_getD,List.getD_eq_getElem?_getD,List.getElem?_eq_getElem lj,List.getElem?_eq_getElem lk] at e
  have e2:W40[((j + mixV c 403) % 40).toNat]? =W40[((k + mixV c 403) % 40).toNat]? :=by rw [List.getElem?_eq_getElem lj,List.getElem?_eq_getElem lk];exact congrArg some e
  have:=(List.getElem?_inj lj G1).mp e2
  omega
 ·rw [if_neg h,if_neg h] at e
  have hm:=Int.emod_lt_of_pos (mixV c 401) (show (0:Int) < 1000 by decide)
  have hm':=Int.emod_nonneg (mixV c 401) (show (1000:Int)≠0 by decide)
  have hbj:(mixV c 401 % 1000).toNat + 37 * j.toNat < 2500:=by omega
  have hbk:(mixV c 401 % 1000).toNat + 37 * k.toNat < 2500:=by omega
  have e2:=congrArg (fun z:Str=>z.cps.toList) e
  simp only [BE] at e2
  have e3:=List.append_cancel_left e2
  have e4:=congrArg dval e3
  rw [(z7 ⟨_,hbj⟩).1.1,(z7 ⟨_,hbk⟩).1.1] at e4
  have e4:(mixV c 401 % 1000).toNat + 37 * j.toNat=(mixV c 401 % 1000).toNat + 37 * k.toNat:=e4
  omega
noncomputable def pR:Sp:=fun vs H Q _=>∃ (c k:Int),vs=[.int c,.int k]∧0≤k∧k < 40∧∀ H2,Same H H2→Q (.str (nmf c k)) H2
noncomputable def Ah:Sp:=fun vs H Q _=>∃ (c:Int) (st:Int) (l:Addr) (zs:List Str) (dg:Bool),vs=[.int c,.int st,.ref l,.bl dg]∧0≤st∧st≤900∧H l=some (.lst (zs.map V.str))∧zs.length≤50∧∀ (D:Addr) (H2:Hp) (ws:List Str),H D=none→Same H H2→H2 D=some (.lst (ws.map V.str))→ws.length≤4→(∀ w∈ws,w∈zs)→Q (.ref D) H2
theorem yS (i:Int) (h0:0≤i) (h1:i < 26):atI ("abcdefghijklmnopqrstuvwxyz":Str).cps.toList i=some (97 + i.toNat):=by
 have e:("abcdefghijklmnopqrstuvwxyz":Str).cps.toList=List.range' 97 26:=by decide +kernel
 obtain ⟨j,rfl⟩:=Int.eq_ofNat_of_zero_le h0
 rw [e]
 refine cW ?_
 rw [List.getElem?_range' (by omega)]
 show some (97 + 1 * j)=some (97 + (j:Int).toNat)
 rw [Nat.one_mul,Int.toNat_natCast]
noncomputable def RwL (H:Hp) (rs:List Rw):Prop:=∀ r∈rs,H r.1=some (.tup [.str r.2.2.1,.ref r.2.1])∧H r.2.1=some (.lst (r.2.2.2.map V.str))
theorem RwL.same {H H2:Hp} {rs:List Rw} (h:RwL H rs) (s:Same H H2):RwL H2 rs:=fun r m=>⟨s.get (h r m).1,s.get (h r m).2⟩
noncomputable def nms (c:Int) (a n:Nat):List Str:=(List.range n).map fun k=>nmf c ((a + k:Nat):Int)
theorem cb (c:Int) (a n:Nat):(nms c a n).length=n:=by unfold nms;rw [List.length_map,List.length_range]
theorem jD (c:Int) (a n:Nat):nms c a (n + 1)=nms c a n++[nmf c ((a + n:Nat):Int)]:=by unfold nms;rw [List.range_succ,List.map_append];rfl
theorem gS {c:Int} {a n:Nat} {z:Str} (h:z∈nms c a n):∃ k,k < n∧z=nmf c ((a + k:Nat):Int):=by
 obtain ⟨k,hk,rfl⟩:=List.mem_map.mp h
 exact ⟨k,List.mem_range.mp hk,rfl⟩
theorem Gw {c:Int} {a n k:Nat} (h:k < n):nmf c ((a + k:Nat):Int)∈nms c a n:=List.mem_map.mpr ⟨k,List.mem_range.mpr h,rfl⟩
theorem rg (c:Int) {j k:Nat} (j1:j < 40) (k1:k < 40) (e:nmf c (j:Int)=nmf c (k:Int)):j=k:=by
 have:=EH c (by omega) (by omega) (by omega) (by omega) e
 omega
structure Mk (c:Int) (ni nt:Nat) (rows:List (Str×List Str)):Prop where
 nm:rows.map (·.1)=nms c 22 rows.length
 ws:∀ (k:Nat) r,rows[k]? =some r→r.2.length≤4∧∀ w∈r.2,w∈nms c 0 ni++nms c 6 nt++nms c 22 k
theorem Mk.nil (c:Int) (ni nt:Nat):Mk c ni nt []:=⟨rfl,fun k r h=>by simp at h⟩
theorem Mk.put {c:Int} {ni nt:Nat} {rows:List (Str×List Str)} (m:Mk c ni nt rows) {ws:List Str} (l:ws.length≤4) (h:∀ w∈ws,w∈nms c 0 ni++nms c 6 nt++nms c 22 rows.length):Mk c ni nt (rows++[(nmf c ((22 + rows.length:Nat):Int),ws)]):=by
 refine ⟨by rw [List.map_append,m.nm,List.length_append,List.length_singleton,jD];rfl,fun k r hk=>?_⟩
 by_cases hlt:k < rows.length
 ·rw [List.getElem?_append_left hlt] at hk
  exact m.ws k r hk
 ·rw [List.getElem?_append_right (by omega)] at hk
  have:k - rows.length=0:=by
   have:=(List.getElem?_eq_some_iff.mp hk).1
   rw [List.length_singleton] at this
   omega
  rw [this] at hk
  cases hk
  rw [show k=rows.length by omega]
  exact ⟨l,h⟩
noncomputable def xf (f:Str→Nat) (ws:List Str):Nat:=ws.foldl (fun a w=>a^^^f w) 0
structure Hng (N:Nt) (p:Str→Nat×Nat):Prop where
 i:∀ (k:Nat) z,N.ins[k]? =some z→p z=(0,2 ^ k)
 t:∀ (k:Nat) z y,N.sts[k]? =some (z,y)→p z=(2 ^ k,0)
 s:∀ z ws,(z,ws)∈N.sums→p z=(xf (fun w=>(p w).1) ws,xf (fun w=>(p w).2) ws)
noncomputable def hgp (N:Nt) (z:Str):Nat×Nat:=(M.pk (fun k=>fv N 0 (2 ^ k) z) 0 N.sts.length,M.pk (fun k=>fv N (2 ^ k) 0 z) 0 N.ins.length)
section
variable {N:Nt} (g:Gn N) {od:List Str} (tp:Topo N.sums od) {p:Str→Nat×Nat} (h:Hng N p)
include g tp h
end
structure Hgd (H:Hp) (d:Addr) (N:Nt) (zs:List Str) (hs:List (Str×Addr)):Prop where
 d:H d=some (.dK (hs.map fun q=>(Sum.inr q.1,V.ref q.2)))
 nm:hs.map (·.1)=zs
 ob:∀ q∈hs,H q.2=some (.tup [nat (hgp N q.1).1,nat (hgp N q.1).2])
structure Sml (m:Nat) (ps os:List (Nat×Nat)):Prop where
 m6:m≤6
 lp:ps.length≤16
 lo:os.length≤6
 bn:∀ q∈ps++os,q.1 < 2 ^ ps.length∧q.2 < 2 ^ m
section
variable {m:Nat} {ps os:List (Nat×Nat)} (b:Sml m ps os)
include b
end
section
variable {m:Nat} {ps os:List (Nat×Nat)} (b:Sml m ps os)
include b
end
end Sx
namespace M
noncomputable def zs (ps:List (Nat×Nat)) (x:Nat):Nat→Nat
 | 0=>x
 | n + 1=>tr2 ps (zs ps x n) 0
structure Kern (R ms:List Nat):Prop where
 inj:Inj ms
 lt:∀ m∈ms,m < 2 ^ R.length
 ev:∀ m∈ms,sm R m=0
 all:∀ z,z < 2 ^ R.length→sm R z=0→Span ms z
structure Lft (left rows:List Nat):Prop where
 nz:∀ x∈left,x≠0
 pw:left.Pairwise fun a b=>b.testBit a.log2=false
 sp:∀ x,Span left x↔Span rows x
 len:left.length=(fr rows).length
noncomputable def bm (rows:List Nat) (b:Nat):Nat:=Classical.epsilon (Bar rows b)
structure Fst (ms:List Nat) (p:Nat):Prop where
 lt:p < ms.length
 out:∀ k,k < p→¬ Span (ms.take k) (ms.getD k 0)
 in_:Span (ms.take p) (ms.getD p 0)
noncomputable def act (ps:List (Nat×Nat)) (x Q:Nat):Nat:=if Q=0 then 0 else (if Q % 2=1 then x else 0)^^^act ps (tr2 ps x 0) (Q / 2)
termination_by Q
decreasing_by omega
structure Lst (ps:List (Nat×Nat)) (x P:Nat):Prop where
 nz:P≠0
 dv:∀ Q,act ps x Q=0↔Dv P Q
structure Rng (ps:List (Nat×Nat)) (x l n:Nat):Prop where
 pos:1≤n
 back:zs ps x (l + n)=zs ps x l
 least:∀ e,1≤e→e < n→zs ps x (l + e)≠zs ps x l
 early:1≤l→zs ps x (l - 1 + n)≠zs ps x (l - 1)
noncomputable def bl (A:List Nat) (s n:Nat):List Nat:=(List.range (n + 1)).map (bkI A s)
end M
namespace Sx
open PySem L2
structure Sgl (H:Hp) (D:Addr) (ds:List Addr) (ps os:List (Nat×Nat)) (n m:Nat):Prop where
 d:H D=some (.lst (ds.map V.ref))
 len:ds.length=m
 at':∀ (w:Nat) (d:Addr),ds[w]? =some d→H d=some (.lst ((M.wan ps os 0 (M.pulse w n)).map nat))
noncomputable def strD (z:Str):Dt:= .str z
noncomputable def rowD (r:Str×List Str):Dt:= .tup [.str r.1,.tup (r.2.map strD)]
noncomputable def stoD (r:Str×Str):Dt:= .tup [.str r.1,.str r.2]
noncomputable def netD (N:Nt):Dt:= .tup [.lst (N.ins.map strD),.lst (N.sums.map rowD),.lst (N.sts.map stoD),.lst (N.outs.map strD)]
theorem mC {K:PySem.W.Frag} {H:Hp} {D:Addr} {zs:List Str} (e:H D=some (.lst (zs.map V.str))):Rep K H (.ref D) (.lst (zs.map strD)):= .lst (SqL.of e) (by rw [List.length_map,List.length_map]) (mT V.str strD (fun z=> .str z) zs)
theorem Cr {K:PySem.W.Frag} {H:Hp} {D:Addr} {zs:List Str} (e:H D=some (.tup (zs.map V.str))):Rep K H (.ref D) (.tup (zs.map strD)):= .tup (SqT.of e) (by rw [List.length_map,List.length_map]) (mT V.str strD (fun z=> .str z) zs)
theorem Dr {K:PySem.W.Frag} {H:Hp} {t:Addr} {v w:V} {d e:Dt} (h:H t=some (.tup [v,w])) (r1:Rep K H v d) (r2:Rep K H w e):Rep K H (.ref t) (.tup [d,e]):= .tup (SqT.of h) rfl fun i x y h1 h2=>by
 match i,h1,h2 with
 | 0,h1,h2=>cases h1;cases h2;exact r1
 | 1,h1,h2=>cases h1;cases h2;exact r2
 | i + 2,h1,_=>simp at h1
theorem F7 {K:PySem.W.Frag} {H:Hp} {t:Addr} {v w v' w':V} {d e d' e':Dt} (h:H t=some (.tup [v,w,v',w'])) (r1:Rep K H v d) (r2:Rep K H w e) (r3:Rep K H v' d') (r4:Rep K H w' e'):Rep K H (.ref t) (.tup [d,e,d',e']):= .tup (SqT.of h) rfl fun i x y h1 h2=>by
 match i,h1,h2 with
 | 0,h1,h2=>cases h1;cases h2;exact r1
 | 1,h1,h2=>cases h1;cases h2;exact r2
 | 2,h1,h2=>cases h1;cases h2;exact r3
 | 3,h1,h2=>cases h1;cases h2;exact r4
 | i + 4,h1,_=>simp at h1
theorem Cu {K:PySem.W.Frag} {H:Hp} {D:Addr} {rs:List Rw} (e:H D=some (.lst (rs.map fun r=>V.ref r.1))) (k:RwK H rs):Rep K H (.ref D) (.lst ((rs.map (·.2.2)).map rowD)):= .lst (SqL.of e) (by rw [List.length_map,List.length_map,List.length_map]) fun i x y h1 h2=>by
 rw [List.getElem?_map] at h1
 rw [List.map_map,List.getElem?_map] at h2
 obtain ⟨r,hr,rfl⟩:=Option.map_eq_some_iff.mp h1
 rw [hr] at h2
 cases h2
 have:=k r (List.mem_of_getElem? hr)
 exact Dr this.1 (.str _) (Cr this.2)
theorem Ct {K:PySem.W.Frag} {H:Hp} {D:Addr} {qs:List Qs} (e:H D=some (.lst (qs.map fun r=>V.ref r.1))) (k:QsK H qs):Rep K H (.ref D) (.lst ((qs.map (·.2)).map stoD)):= .lst (SqL.of e) (by rw [List.length_map,List.length_map,List.length_map]) fun i x y h1 h2=>by
 rw [List.getElem?_map] at h1
 rw [List.map_map,List.getElem?_map] at h2
 obtain ⟨r,hr,rfl⟩:=Option.map_eq_some_iff.mp h1
 rw [hr] at h2
 cases h2
 exact Dr (k r (List.mem_of_getElem? hr)) (.str _) (.str _)
structure TldA (H:Hp) (t D1 D2 D3 D4:Addr) (rs:List Rw) (qs:List Qs) (N:Nt):Prop where
 t:H t=some (.tup [.ref D1,.ref D2,.ref D3,.ref D4])
 i:H D1=some (.lst (N.ins.map V.str))
 s:H D2=some (.lst (rs.map fun r=>V.ref r.1))
 sr:RwK H rs
 es:rs.map (·.2.2)=N.sums
 st:H D3=some (.lst (qs.map fun r=>V.ref r.1))
 tr:QsK H qs
 et:qs.map (·.2)=N.sts
 o:H D4=some (.lst (N.outs.map V.str))
theorem TldA.same {H H2:Hp} {t D1 D2 D3 D4:Addr} {rs:List Rw} {qs:List Qs} {N:Nt} (x:TldA H t D1 D2 D3 D4 rs qs N) (s:Same H H2):TldA H2 t D1 D2 D3 D4 rs qs N:=⟨s.get x.t,s.get x.i,s.get x.s,x.sr.same s,x.es,s.get x.st,fun q m=>s.get (x.tr q m),x.et,s.get x.o⟩
theorem TldA.rep {K:PySem.W.Frag} {H:Hp} {t D1 D2 D3 D4:Addr} {rs:List Rw} {qs:List Qs} {N:Nt} (x:TldA H t D1 D2 D3 D4 rs qs N):Rep K H (.ref t) (netD N):=by
 have r2:Rep K H (.ref D2) (.lst (N.sums.map rowD)):=by rw [← x.es];exact Cu x.s x.sr
 have r3:Rep K H (.ref D3) (.lst (N.sts.map stoD)):=by rw [← x.et];exact Ct x.st x.tr
 exact F7 x.t (mC x.i) r2 r3 (mC x.o)
theorem jN:∀ l:List Str,dM (l.map strD)=0
 | []=>rfl
 | z::l=>by rw [List.map_cons,dM,jN l];rfl
theorem xM:∀ l:List (Str×List Str),dM (l.map rowD)≤2
 | []=>Nat.zero_le _
 | r::l=>by
   rw [List.map_cons,dM,rowD,depD,dM,dM,depD,jN]
   have:=xM l
   simp [depD,dM];omega
theorem xL:∀ l:List (Str×Str),dM (l.map stoD)≤1
 | []=>Nat.zero_le _
 | r::l=>by
   rw [List.map_cons,dM,stoD,depD,dM,dM]
   have:=xL l
   simp [depD,dM];omega
theorem wB (N:Nt):depD (netD N)≤100:=by
 unfold netD
 rw [depD,dM,dM,dM,dM,depD,depD,depD,depD,jN,jN]
 have:=xM N.sums
 have:=xL N.sts
 simp [dM];omega
noncomputable def Cc (NA:NP):Sp:=fun vs H Q _=>∃ (p:Addr) (N:Nt) (od:List Str),vs=[.ref p]∧NA H p N od∧∀ (t D1 D2 D3 D4:Addr) (H2:Hp) (rs:List Rw) (qs:List Qs),H D1=none→H D2=none→H D3=none→H D4=none→H t=none→Same H H2→TldA H2 t D1 D2 D3 D4 rs qs N→Q (.ref t) H2
noncomputable def Eb (NA:NP):Sp:=fun vs H Q _=>∃ (p:Addr) (N:Nt) (od:List Str),vs=[.ref p]∧NA H p N od∧∀ (D:Addr) (H2:Hp) (rs:List Rw),H D=none→Same H H2→H2 D=some (.lst (rs.map fun r=>V.ref r.1))→RwK H2 rs→rs.map (·.2.2)=N.sums→Q (.ref D) H2
structure Sumd (rows:List Nat) (x q:Nat):Prop where
 lt:q < 2 ^ rows.length
 sm:M.sm rows q=x
 fr:M.Frs rows q
structure Bard (rows:List Nat) (x m:Nat):Prop where
 ns:¬ M.Span rows x
 bar:∃ y,M.Span rows y∧x^^^y≠0∧HM rows (x^^^y).log2∧M.Bar rows (x^^^y).log2 m
 ev:∀ y,M.Span rows y→M.od (m&&&y)=false
 odd:M.od (m&&&x)=true
 lt:∀ W,(∀ r∈rows,r < 2 ^ W)→x < 2 ^ W→m < 2 ^ W
end Sx
namespace L2
open PySem
theorem AI {X:Cx} {K:PySem.W.Frag} (h:X.K=K):OpR X (compareOp .NotIn) (rIn K true):=by subst h;exact sZ
end L2
namespace Sx
open PySem L2
noncomputable def J (c:Nat):List (List Nat)→List Nat
 | []=>[]
 | [x]=>x
 | x::y::r=>x++c::J c (y::r)
theorem DQ {c:Nat}:∀ {x y a b:List Nat},c∉x→c∉y→x++c::a=y++c::b→x=y∧a=b
 | [],[],a,b,_,_,h=>⟨rfl,(List.cons.inj h).2⟩
 | [],d::y,a,b,_,hy,h=>absurd (by rw [(List.cons.inj h).1];exact List.mem_cons_self) hy
 | d::x,[],a,b,hx,_,h=>absurd (by rw [← (List.cons.inj h).1];exact List.mem_cons_self) hx
 | d::x,e::y,a,b,hx,hy,h=>by
   obtain ⟨h1,h2⟩:=List.cons.inj h
   obtain ⟨h3,h4⟩:=DQ (fun z=>hx (List.mem_cons_of_mem _ z)) (fun z=>hy (List.mem_cons_of_mem _ z)) h2
   exact ⟨by rw [h1,h3],h4⟩
theorem G5 {c:Nat}:∀ (ws vs:List (List Nat)),ws≠[]→vs≠[]→(∀ w∈ws,c∉w)→(∀ w∈vs,c∉w)→J c ws=J c vs→ws=vs
 | [],_,h,_,_,_,_=>absurd rfl h
 | _,[],_,h,_,_,_=>absurd rfl h
 | [x],[y],_,_,_,_,h=>by rw [show x=y from h]
 | [x],y::z::r,_,_,hx,_,h=>absurd (by rw [show x=y++c::J c (z::r) from h];simp) (hx x List.mem_cons_self)
 | x::y::r,[z],_,_,_,hz,h=>absurd (by rw [show z=x++c::J c (y::r) from h.symm];simp) (hz z List.mem_cons_self)
 | x::y::r,x'::y'::r',_,_,hx,hz,h=>by
   obtain ⟨h1,h2⟩:=DQ (hx x List.mem_cons_self) (hz x' List.mem_cons_self) (show x++c::J c (y::r)=x'++c::J c (y'::r') from h)
   rw [h1,G5 (y::r) (y'::r') (by simp) (by simp) (fun w hw=>hx w (List.mem_cons_of_mem _ hw)) (fun w hw=>hz w (List.mem_cons_of_mem _ hw)) h2]
theorem gZ (c:Nat):∀ ws:List Str,(Str.join ⟨#[c]⟩ ws).cps.toList=J c (ws.map (·.cps.toList))
 | []=>rfl
 | [x]=>rfl
 | x::y::r=>by
   have ih:=gZ c (y::r)
   show (x.cps++#[c]++(Str.join ⟨#[c]⟩ (y::r)).cps).toList=x.cps.toList++c::J c ((y::r).map (·.cps.toList))
   rw [← ih]
   simp
theorem pQ {c:Nat} {ws:List Str} (h:ws≠[]) (hf:∀ w∈ws,c∉w.cps.toList):Txt.split (Str.join ⟨#[c]⟩ ws) ⟨#[c]⟩=ws:=by
 have e1:=StrLaws.join_split (Str.join ⟨#[c]⟩ ws) ⟨#[c]⟩
 have e2:=StrLaws.split_free (Str.join ⟨#[c]⟩ ws) c
 have hp:=PyProof.Rows.split_pos (Str.join ⟨#[c]⟩ ws) ⟨#[c]⟩
 generalize Txt.split (Str.join ⟨#[c]⟩ ws) ⟨#[c]⟩=vs at e1 e2 hp ⊢
 have e3:=gZ c vs
 rw [e1,gZ c ws] at e3
 have e4:=G5 (c:=c) _ _ (by simpa using h) (by intro z;rw [List.map_eq_nil_iff] at z;subst z;simp at hp) (fun w hw=>by obtain ⟨v,hv,rfl⟩:=List.mem_map.mp hw;exact hf v hv) (fun w hw=>by obtain ⟨v,hv,rfl⟩:=List.mem_map.mp hw;exact e2 v hv) e3
 have inj:∀ x y:Str,x.cps.toList=y.cps.toList→x=y:=fun ⟨⟨a⟩⟩ ⟨⟨b⟩⟩ h=>by cases (show a=b from h);rfl
 exact (List.map_inj_right inj).mp e4.symm
theorem jm (y:Str) (l:List Str):Txt.join y l=Str.join y l:=StrLaws.glued_eq_join _ _
theorem ib:(Str.ofString " ")=⟨#[32]⟩:=by decide +kernel
theorem iR:(Str.ofString "\n")=⟨#[10]⟩:=by decide +kernel
theorem Gr {X:Cx} {K:PySem.W.Frag} (h:X.K=K):OpR X (compareOp .In) (rIn K false):=by subst h;exact AK
noncomputable def Wd (z:Str):Prop:=(32:Nat)∉z.cps.toList∧(10:Nat)∉z.cps.toList
theorem Nm.wd {z:Str} (h:Nm z):Wd z:=by
 have h:nm z.cps.toList=true:=h
 have key:∀ c:Nat,(low c||fig c)=false→c∉z.cps.toList:=fun c hc m=>by
  cases e:z.cps.toList with
  | nil=>rw [e] at m;cases m
  | cons d r=>
    rw [e] at h m
    unfold nm at h
    rw [Bool.and_eq_true,List.all_eq_true] at h
    have:=h.2 c m
    rw [hc] at this;cases this
 exact ⟨key 32 (by decide),key 10 (by decide)⟩
theorem He:Wd "in":=by unfold Wd;decide +kernel
theorem Fs:Wd "out":=by unfold Wd;decide +kernel
theorem Fr:Wd "sum":=by unfold Wd;decide +kernel
theorem B7:Wd "store":=by unfold Wd;decide +kernel
theorem Ft:Wd "=":=by unfold Wd;decide +kernel
inductive Fm:List Str→Prop where
 | i (z:Str) (h:Nm z):Fm ["in",z]
 | o (z:Str) (h:Nm z):Fm ["out",z]
 | s (z:Str) (ws:List Str) (h:Nm z) (hw:∀ w∈ws,Nm w) (l:ws.length≤24):Fm ("sum"::z::"="::ws)
 | t (z y:Str) (h:Nm z) (hy:Nm y):Fm ["store",z,"=",y]
theorem Fm.wd {r:List Str} (f:Fm r):∀ w∈r,Wd w:=by
 cases f with
 | i z h=>intro w hw;simp at hw;rcases hw with rfl | rfl<;>first | exact He | exact h.wd
 | o z h=>intro w hw;simp at hw;rcases hw with rfl | rfl<;>first | exact Fs | exact h.wd
 | s z ws h hw' l=>
   intro w hw
   simp at hw
   rcases hw with rfl | rfl | rfl | hw<;>first | exact Fr | exact h.wd | exact Ft | exact (hw' w hw).wd
 | t z y h hy=>intro w hw;simp at hw;rcases hw with rfl | rfl | rfl | rfl<;>first | exact B7 | exact h.wd | exact Ft | exact hy.wd
theorem Fm.ne {r:List Str} (f:Fm r):r≠[]:=by cases f<;>simp
theorem lenS:("in":Str).length=2∧("out":Str).length=3∧("sum":Str).length=3∧("store":Str).length=5∧("=":Str).length=1∧("":Str).length=0:=by decide +kernel
theorem Fm.len {r:List Str} (f:Fm r):r.length≤27∧∀ w∈r,w.length≤6:=by
 obtain ⟨l1,l2,l3,l4,l5,_⟩:=lenS
 cases f with
 | i z h=>exact ⟨by simp,fun w hw=>by simp at hw;rcases hw with rfl | rfl<;>first | exact h.len | omega⟩
 | o z h=>exact ⟨by simp,fun w hw=>by simp at hw;rcases hw with rfl | rfl<;>first | exact h.len | omega⟩
 | s z ws h hw' l=>
   refine ⟨by simp only [List.length_cons];omega,fun w hw=>?_⟩
   simp at hw
   rcases hw with rfl | rfl | rfl | hw<;>first | exact h.len | exact (hw' w hw).len | omega
 | t z y h hy=>exact ⟨by simp,fun w hw=>by simp at hw;rcases hw with rfl | rfl | rfl | rfl<;>first | exact h.len | exact hy.len | omega⟩
noncomputable def rowT (r:List Str):Str:=Str.join ⟨#[32]⟩ r
noncomputable def txtR (rows:List (List Str)):Str:=Str.join ⟨#[10]⟩ (rows.map rowT)
theorem G4 {c d:Nat} (hcd:c≠d):∀ {ws:List (List Nat)},(∀ w∈ws,d∉w)→d∉J c ws
 | [],_=>by simp [J]
 | [x],h=>h x List.mem_cons_self
 | x::y::r,h=>by
   show d∉x++c::J c (y::r)
   intro m
   rcases List.mem_append.mp m with m | m
   ·exact h x List.mem_cons_self m
   ·rcases List.mem_cons.mp m with m | m
    ·exact hcd m.symm
    ·exact G4 hcd (ws:=y::r) (fun w hw=>h w (List.mem_cons_of_mem _ hw)) m
theorem At {r:List Str} (h:∀ w∈r,Wd w):(10:Nat)∉(rowT r).cps.toList:=by
 unfold rowT
 rw [gZ]
 exact G4 (by decide) fun w hw=>by obtain ⟨v,hv,rfl⟩:=List.mem_map.mp hw;exact (h v hv).2
theorem pS {r:List Str} (h:∀ w∈r,Wd w) (ne:r≠[]):Txt.split (rowT r) ⟨#[32]⟩=r:=pQ ne fun w hw=>(h w hw).1
theorem pO {rows:List (List Str)} (h:∀ r∈rows,∀ w∈r,Wd w) (ne:rows≠[]):Txt.split (txtR rows) ⟨#[10]⟩=rows.map rowT:=pQ (by simpa using ne) fun w hw=>by obtain ⟨r,hr,rfl⟩:=List.mem_map.mp hw;exact At (h r hr)
theorem Fd (c:Nat) {n:Nat}:∀ {ws:List (List Nat)},(∀ w∈ws,w.length≤n)→(J c ws).length≤ws.length * (n + 1)
 | [],_=>Nat.zero_le _
 | [x],h=>by have:=h x List.mem_cons_self;show x.length≤1 * (n + 1);omega
 | x::y::r,h=>by
   have h1:=h x List.mem_cons_self
   have h2:=Fd c (n:=n) (ws:=y::r) fun w hw=>h w (List.mem_cons_of_mem _ hw)
   show (x++c::J c (y::r)).length≤_
   rw [List.length_append,List.length_cons,List.length_cons,Nat.succ_mul]
   omega
theorem ig {r:List Str} (h:∀ w∈r,w.length≤6):(rowT r).length≤r.length * 7:=by
 rw [← ii]
 unfold rowT
 rw [gZ]
 have:=Fd 32 (n:=6) (ws:=r.map (·.cps.toList)) fun w hw=>by obtain ⟨v,hv,rfl⟩:=List.mem_map.mp hw;rw [ii];exact h v hv
 rw [List.length_map] at this
 exact this
theorem xr {rows:List (List Str)} (h:∀ r∈rows,Fm r):(txtR rows).length≤rows.length * 190:=by
 rw [← ii]
 unfold txtR
 rw [gZ]
 have:=Fd 10 (n:=189) (ws:=(rows.map rowT).map (·.cps.toList)) fun w hw=>by
  obtain ⟨v,hv,rfl⟩:=List.mem_map.mp hw
  obtain ⟨r,hr,rfl⟩:=List.mem_map.mp hv
  rw [ii]
  have a:=(h r hr).len
  have b:=ig a.2
  have:r.length * 7≤27 * 7:=Nat.mul_le_mul_right 7 a.1
  omega
 rw [List.length_map,List.length_map] at this
 exact this
theorem Ca {z:Str} (h:z=""):z.cps.toList=[]:=uV.mp h
theorem J_ne (c:Nat):∀ {ws:List (List Nat)},(∃ w∈ws,w≠[])→J c ws≠[]
 | [],⟨w,h,_⟩=>by cases h
 | [x],⟨w,h,n⟩=>by rw [List.mem_singleton.mp h] at n;exact n
 | x::y::r,_=>by show x++c::J c (y::r)≠[];simp
theorem Ev {r:List Str} (f:Fm r):(rowT r).cps.toList≠[]:=by
 unfold rowT
 rw [gZ]
 refine J_ne 32 ?_
 cases f with
 | i z h=>exact ⟨("in":Str).cps.toList,by simp,by decide +kernel⟩
 | o z h=>exact ⟨("out":Str).cps.toList,by simp,by decide +kernel⟩
 | s z ws h hw' l=>exact ⟨("sum":Str).cps.toList,by simp,by decide +kernel⟩
 | t z y h hy=>exact ⟨("store":Str).cps.toList,by simp,by decide +kernel⟩
theorem Ea {rows:List (List Str)} (h:∀ r∈rows,Fm r) (ne:rows≠[]):txtR rows≠"":=fun e=>by
 have:=Ca e
 unfold txtR at this
 rw [gZ] at this
 refine J_ne 10 ?_ this
 cases rows with
 | nil=>exact absurd rfl ne
 | cons r l=>exact ⟨(rowT r).cps.toList,by simp,Ev (h r List.mem_cons_self)⟩
noncomputable def kd (k:Str) (r:List Str):Bool:=decide (r.getD 0 ""=k)
noncomputable def insR (rows:List (List Str)):List Str:=(rows.filter (kd "in")).map fun r=>r.getD 1 ""
noncomputable def sumR (rows:List (List Str)):List (Str×List Str):=(rows.filter (kd "sum")).map fun r=>(r.getD 1 "",r.drop 3)
noncomputable def stoR (rows:List (List Str)):List (Str×Str):=(rows.filter (kd "store")).map fun r=>(r.getD 1 "",r.getD 3 "")
noncomputable def outR (rows:List (List Str)):List Str:=(rows.filter (kd "out")).map fun r=>r.getD 1 ""
noncomputable def netR (rows:List (List Str)):Nt:=⟨insR rows,sumR rows,stoR rows,outR rows⟩
noncomputable def d4 (N:Nt):List (List Str):=N.ins.map (fun z=>[("in":Str),z])++N.sums.map (fun r=>("sum":Str)::r.1::("=":Str)::r.2)++N.sts.map (fun r=>[("store":Str),r.1,("=":Str),r.2])++N.outs.map (fun z=>[("out":Str),z])
noncomputable def txtN (N:Nt):Str:=txtR (d4 N)
theorem w_ne:("in":Str)≠"sum"∧("in":Str)≠"store"∧("in":Str)≠"out"∧("sum":Str)≠"in"∧("sum":Str)≠"store"∧("sum":Str)≠"out"∧("store":Str)≠"in"∧("store":Str)≠"sum"∧("store":Str)≠"out"∧("out":Str)≠"in"∧("out":Str)≠"sum"∧("out":Str)≠"store":=by decide +kernel
theorem mE {α:Type} (f:α→List Str) {k:Str} (h:∀ x,kd k (f x)=true) (l:List α):(l.map f).filter (kd k)=l.map f:=by
 rw [List.filter_eq_self];intro r hr;obtain ⟨x,_,rfl⟩:=List.mem_map.mp hr;exact h x
theorem b4 {α:Type} (f:α→List Str) {k:Str} (h:∀ x,kd k (f x)=false) (l:List α):(l.map f).filter (kd k)=[]:=by
 rw [List.filter_eq_nil_iff];intro r hr;obtain ⟨x,_,rfl⟩:=List.mem_map.mp hr;rw [h x];exact Bool.false_ne_true
theorem kd_t {k:Str} {r:List Str}:kd k (k::r)=true:=decide_eq_true rfl
theorem kd_f {k j:Str} {r:List Str} (h:j≠k):kd k (j::r)=false:=decide_eq_false h
theorem yM (N:Nt):netR (d4 N)=N:=by
 obtain ⟨n1,n2,n3,n4,n5,n6,n7,n8,n9,n10,n11,n12⟩:=w_ne
 cases N with
 | mk a b c d=>
 unfold netR insR sumR stoR outR d4
 simp only [List.filter_append]
 rw [mE _ (fun _=>kd_t),b4 _ (fun _=>kd_f n4),b4 _ (fun _=>kd_f n7),b4 _ (fun _=>kd_f n10)]
 rw [b4 (fun z=>[("in":Str),z]) (fun _=>kd_f n1),mE _ (fun _=>kd_t),b4 _ (fun _=>kd_f n8),b4 _ (fun _=>kd_f n11)]
 rw [b4 (fun z=>[("in":Str),z]) (fun _=>kd_f n2),b4 _ (fun _=>kd_f n5),mE _ (fun _=>kd_t),b4 _ (fun _=>kd_f n12)]
 rw [b4 (fun z=>[("in":Str),z]) (fun _=>kd_f n3),b4 _ (fun _=>kd_f n6),b4 _ (fun _=>kd_f n9),mE _ (fun _=>kd_t)]
 simp
 exact ⟨List.map_id a,List.map_id b,List.map_id c,List.map_id d⟩
theorem qB {N:Nt} (g:Gn N):∀ r∈d4 N,Fm r:=by
 intro r hr
 have nmi:∀ z∈N.ins,z∈N.names:=fun z h=>by unfold Nt.names;exact List.mem_append_left _ (List.mem_append_left _ h)
 have nms':∀ q∈N.sums,q.1∈N.names:=fun q h=>by unfold Nt.names;exact List.mem_append_left _ (List.mem_append_right _ (List.mem_map.mpr ⟨q,h,rfl⟩))
 have nmt:∀ q∈N.sts,q.1∈N.names:=fun q h=>by unfold Nt.names;exact List.mem_append_right _ (List.mem_map.mpr ⟨q,h,rfl⟩)
 unfold d4 at hr
 rcases List.mem_append.mp hr with h | h
 ·rcases List.mem_append.mp h with h | h
  ·rcases List.mem_append.mp h with h | h
   ·obtain ⟨z,hz,rfl⟩:=List.mem_map.mp h;exact .i z (g.nm z (nmi z hz))
   ·obtain ⟨q,hq,rfl⟩:=List.mem_map.mp h;exact .s q.1 q.2 (g.nm _ (nms' q hq)) (fun w hw=>g.nm w (g.ws q hq w hw)) (g.lw q hq)
  ·obtain ⟨q,hq,rfl⟩:=List.mem_map.mp h;exact .t q.1 q.2 (g.nm _ (nmt q hq)) (g.nm _ (g.ts q hq))
 ·obtain ⟨z,hz,rfl⟩:=List.mem_map.mp h;exact .o z (g.nm z (g.os z hz))
theorem mS {N:Nt} (g:Gn N):(d4 N).length≤68:=by
 have:=g.li;have:=g.ls;have:=g.lt;have:=g.lo
 unfold d4
 simp only [List.length_append,List.length_map];omega
noncomputable def Lrw (H0 H:Hp) (D:Addr) (ys:List V) (rows:List (List Str)):Prop:=∃ ds:List Addr,ys=ds.map V.ref∧ds.length=rows.length∧(∀ d∈ds,d≠D)∧(∀ d∈ds,H0 d=none)∧∀ (j:Nat) (d:Addr) (r:List Str),ds[j]? =some d→rows[j]? =some r→H d=some (.lst (r.map V.str))
theorem Lrw.nil {H0 H:Hp} {D:Addr}:Lrw H0 H D [] []:=⟨[],rfl,rfl,fun _ h=>(by cases h),fun _ h=>(by cases h),fun j d r h=>(by simp at h)⟩
theorem Lrw.len {H0 H:Hp} {D:Addr} {ys:List V} {rows:List (List Str)} (x:Lrw H0 H D ys rows):ys.length=rows.length:=by obtain ⟨ds,rfl,l,_⟩:=x;rw [List.length_map,l]
theorem Lrw.base {H00 H0 H:Hp} {D:Addr} {ys:List V} {rows:List (List Str)} (x:Lrw H0 H D ys rows) (s:Same H00 H0):Lrw H00 H D ys rows:=by obtain ⟨ds,e,l,n,f,h⟩:=x;exact ⟨ds,e,l,n,fun d hd=>s.free (f d hd),h⟩
theorem Lrw.put {H0 H H4:Hp} {D D3:Addr} {ys:List V} {rows:List (List Str)} {r:List Str} (x:Lrw H0 H D ys rows) (f0:H0 D3=none) (e:H D=some (.lst ys)) (f:H D3=none) (s:Same H H4) (e3:H4 D3=some (.lst (r.map V.str))):Lrw H0 (upd H4 D (.lst (ys++[.ref D3]))) D (ys++[.ref D3]) (rows++[r]):=by
 obtain ⟨ds,rfl,ld,nd,fd,hd⟩:=x
 have hDD:D3≠D:=fun z=>by rw [z,e] at f;cases f
 have k3:∀ b ob,b≠D→H4 b=some ob→upd H4 D (.lst (ds.map V.ref++[.ref D3])) b=some ob:=fun b ob n e=>by rw [aq n];exact e
 refine ⟨ds++[D3],by rw [List.map_append];rfl,by rw [List.length_append,List.length_append,ld];rfl,fun d hd'=>?_,fun d hd'=>?_,fun j d r' hj hj'=>?_⟩
 ·rcases List.mem_append.mp hd' with h | h
  ·exact nd d h
  ·rw [List.mem_singleton.mp h];exact hDD
 ·rcases List.mem_append.mp hd' with h | h
  ·exact fd d h
  ·rw [List.mem_singleton.mp h];exact f0
 ·by_cases hjl:j < ds.length
  ·rw [List.getElem?_append_left hjl] at hj
   rw [List.getElem?_append_left (by omega)] at hj'
   exact k3 _ _ (nd d (List.mem_of_getElem? hj)) (s.get (hd j d r' hj hj'))
  ·have hl:=(List.getElem?_eq_some_iff.mp hj).1
   rw [List.length_append,List.length_singleton] at hl
   rw [List.getElem?_append_right (by omega),show j - ds.length=0 by omega] at hj
   rw [List.getElem?_append_right (by omega),show j - rows.length=0 by omega] at hj'
   cases hj;cases hj'
   exact k3 _ _ hDD e3
theorem Lrw.join {H0 H H2 H3:Hp} {D D2:Addr} {ys ys2:List V} {rows rows2:List (List Str)} (x:Lrw H0 H D ys rows) (e:H D=some (.lst ys)) (s0:Same H0 H) (s:Same H H2) (x2:Lrw H H2 D2 ys2 rows2) (u:Upd H2 H3 D (.lst (ys++ys2))):Lrw H0 H3 D (ys++ys2) (rows++rows2):=by
 obtain ⟨ds,rfl,ld,nd,fd,hd⟩:=x
 obtain ⟨ds2,rfl,ld2,nd2,fd2,hd2⟩:=x2
 have n2:∀ d∈ds2,d≠D:=fun d hd' z=>by have:=fd2 d hd';rw [z,e] at this;cases this
 refine ⟨ds++ds2,by rw [List.map_append],by rw [List.length_append,List.length_append,ld,ld2],fun d hd'=>(List.mem_append.mp hd').elim (nd d) (n2 d),fun d hd'=>(List.mem_append.mp hd').elim (fd d) (fun h=>s0.free (fd2 d h)),fun j d r hj hj'=>?_⟩
 by_cases hjl:j < ds.length
 ·rw [List.getElem?_append_left hjl] at hj
  rw [List.getElem?_append_left (by omega)] at hj'
  exact u.oth _ _ (nd d (List.mem_of_getElem? hj)) (s.get (hd j d r hj hj'))
 ·rw [List.getElem?_append_right (by omega)] at hj
  rw [List.getElem?_append_right (by omega),← ld] at hj'
  exact u.oth _ _ (n2 d (List.mem_of_getElem? hj)) (hd2 _ d r hj hj')
noncomputable def Ec (NA:NP):Sp:=fun vs H Q _=>∃ (p:Addr) (N:Nt) (od:List Str),vs=[.ref p]∧NA H p N od∧∀ H2,Same H H2→Q (.str (txtN N)) H2
noncomputable def Ef:Sp:=fun vs H Q _=>∃ (l:Addr) (r:List Str),vs=[.ref l]∧H l=some (.lst (r.map V.str))∧Fm r∧∀ H2,Same H H2→Q (.bl true) H2
noncomputable def yc:Sp:=fun vs H Q _=>∃ (z:Str),vs=[.str z]∧z.length≤100000∧∀ (D:Addr) (H2:Hp),H D=none→Same H H2→H2 D=some (.lst ((Txt.split z ⟨#[32]⟩).map V.str))→Q (.ref D) H2
noncomputable def Ae:Sp:=fun vs H Q _=>∃ (z:Str),vs=[.str z]∧z.length≤100000∧∀ (D:Addr) (H2:Hp),H D=none→Same H H2→H2 D=some (.lst ((if z="" then [] else Txt.split z ⟨#[10]⟩).map V.str))→Q (.ref D) H2
noncomputable def Ed (NA:NP):Sp:=fun vs H Q _=>∃ (rows:List (List Str)),vs=[.str (txtR rows)]∧(∀ r∈rows,Fm r)∧rows.length≤100∧Gn (netR rows)∧∀ (n:Addr) (H2:Hp) (od:List Str),H n=none→Same H H2→NA H2 n (netR rows) od→Q (.ref n) H2
noncomputable def Ai (K:PySem.W.Frag):Sp:=fun vs H Q _=>∃ (p:Addr) (ns:List Int) (st mo:Nat),vs=[.ref p,nat st,nat mo]∧SqL K H p (ns.map V.int)∧st≤900∧mo≤12∧∀ (t i s u o:Addr) (H2:Hp) (rs:List Rw) (qs:List Qs) (N:Nt),Same H H2→H2 t=some (.tup [.ref i,.ref s,.ref u,.ref o])→Hnd H2 i s u o rs qs N→Gn N→N.ins.length≤3→N.sums.length≤mo→Q (.ref t) H2
theorem AR {c:Int} {ni nt:Nat} {rows sums:List (Str×List Str)} {sts:List (Str×Str)} {outs:List Str} (m:Mk c ni nt rows) (h1:ni≤3) (h2:nt≤12) (h3:rows.length≤12) (hp:sums.Perm rows) (hs:sts.map (·.1)=nms c 6 nt) (h4:outs.length≤6)
  (ht:∀ q∈sts,q.2∈nms c 0 ni++nms c 6 nt++nms c 22 rows.length) (ho:∀ z∈outs,z∈nms c 0 ni++nms c 6 nt++nms c 22 rows.length):Gn ⟨nms c 0 ni,sums,sts,outs⟩:=by
 have pn:(sums.map (·.1)).Perm (nms c 22 rows.length):=by rw [← m.nm];exact hp.map _
 have inn:∀ z,z∈nms c 0 ni++nms c 6 nt++nms c 22 rows.length→z∈Nt.names ⟨nms c 0 ni,sums,sts,outs⟩:=fun z hz=>by
  unfold Nt.names
  show z∈nms c 0 ni++sums.map (·.1)++sts.map (·.1)
  rw [hs]
  rcases List.mem_append.mp hz with h | h
  ·rcases List.mem_append.mp h with h | h
   ·exact List.mem_append_left _ (List.mem_append_left _ h)
   ·exact List.mem_append_right _ h
  ·exact List.mem_append_left _ (List.mem_append_right _ (pn.mem_iff.mpr h))
 have lt3:sts.length=nt:=by have:=congrArg List.length hs;rw [List.length_map,cb] at this;exact this
 have row_at:∀ r∈sums,∃ k,rows[k]? =some r:=fun r hr=>List.mem_iff_getElem?.mp (hp.mem_iff.mp hr)
 have num:∀ z∈Nt.names ⟨nms c 0 ni,sums,sts,outs⟩,∃ k:Nat,k < 40∧z=nmf c (k:Int):=fun z hz=>by
  unfold Nt.names at hz
  have hz:z∈nms c 0 ni++sums.map (·.1)++sts.map (·.1):=hz
  rw [hs] at hz
  rcases List.mem_append.mp hz with h | h
  ·rcases List.mem_append.mp h with h | h
   ·obtain ⟨k,hk,e⟩:=gS h;exact ⟨_,by omega,e⟩
   ·obtain ⟨k,hk,e⟩:=gS (pn.mem_iff.mp h);exact ⟨_,by omega,e⟩
  ·obtain ⟨k,hk,e⟩:=gS h;exact ⟨_,by omega,e⟩
 have ndn:∀ (a n:Nat),a + n≤40→(nms c a n).Nodup:=fun a n h=>by
  unfold nms
  refine List.pairwise_map.mpr (List.Pairwise.imp_of_mem (fun {i j} hi hj hij=>?_) List.pairwise_lt_range)
  intro e
  have:=rg c (show a + i < 40 by have:=List.mem_range.mp hi;omega) (show a + j < 40 by have:=List.mem_range.mp hj;omega) e
  omega
 have dis:∀ {a n b k:Nat},a + n≤40→b + k≤40→a + n≤b→∀ x∈nms c a n,∀ y∈nms c b k,x≠y:=fun h1 h2 h3 x hx y hy e=>by
  obtain ⟨i,hi,rfl⟩:=gS hx
  obtain ⟨j,hj,rfl⟩:=gS hy
  have:=rg c (by omega) (by omega) e
  omega
 refine ⟨by show (nms c 0 ni).length≤6;rw [cb];omega,by show sums.length≤40;rw [hp.length_eq];omega,by show sts.length≤16;omega,h4,fun r hr=>?_,fun z hz=>?_,?_,fun r hr z hz=>?_,fun r hr=>inn _ (ht r hr),fun z hz=>inn _ (ho z hz),?_⟩
 ·obtain ⟨k,hk⟩:=row_at r hr
  have:=(m.ws k r hk).1
  omega
 ·obtain ⟨k,hk,rfl⟩:=num z hz
  exact Gx c (by omega) (by omega)
 ·unfold Nt.names
  show (nms c 0 ni++sums.map (·.1)++sts.map (·.1)).Nodup
  rw [hs,List.nodup_append,List.nodup_append]
  refine ⟨⟨ndn _ _ (by omega),pn.nodup_iff.mpr (ndn _ _ (by omega)),fun x hx y hy=>dis (by omega) (by omega) (by omega) x hx y (pn.mem_iff.mp hy)⟩,ndn _ _ (by omega),fun x hx y hy=>?_⟩
  rcases List.mem_append.mp hx with h | h
  ·exact dis (by omega) (by omega) (by omega) x h y hy
  ·exact fun e=>dis (a:=6) (n:=nt) (b:=22) (k:=rows.length) (by omega) (by omega) (by omega) y hy x (pn.mem_iff.mp h) e.symm
 ·obtain ⟨k,hk⟩:=row_at r hr
  have hlt:=(List.getElem?_eq_some_iff.mp hk).1
  refine inn z ?_
  rcases List.mem_append.mp ((m.ws k r hk).2 z hz) with h | h
  ·exact List.mem_append_left _ h
  ·obtain ⟨j,hj,rfl⟩:=gS h
   exact List.mem_append_right _ (Gw (by omega))
 ·refine ⟨fun z=>(nms c 22 rows.length).idxOf z,fun r hr z hz hzs=>?_⟩
  obtain ⟨k,hk⟩:=row_at r hr
  have hlt:=(List.getElem?_eq_some_iff.mp hk).1
  have er:(nms c 22 rows.length)[k]? =some r.1:=by rw [← m.nm,List.getElem?_map,hk];rfl
  have nd:=ndn 22 rows.length (by omega)
  have ik:∀ (j:Nat) y,(nms c 22 rows.length)[j]? =some y→(nms c 22 rows.length).idxOf y=j:=fun j y hj=>by
   obtain ⟨hj1,hj2⟩:=List.getElem?_eq_some_iff.mp hj
   rw [← hj2]
   exact nd.idxOf_getElem j hj1
  obtain ⟨j,hj,ej⟩:=gS (pn.mem_iff.mp hzs)
  have hjk:j < k:=by
   rcases List.mem_append.mp ((m.ws k r hk).2 z hz) with h | h
   ·exfalso
    rcases List.mem_append.mp h with h | h
    ·exact dis (a:=0) (n:=ni) (b:=22) (k:=rows.length) (by omega) (by omega) (by omega) z h z (pn.mem_iff.mp hzs) rfl
    ·exact dis (a:=6) (n:=nt) (b:=22) (k:=rows.length) (by omega) (by omega) (by omega) z h z (pn.mem_iff.mp hzs) rfl
   ·obtain ⟨j',hj',e'⟩:=gS h
    have:=rg c (show 22 + j < 40 by omega) (show 22 + j' < 40 by omega) (ej.symm.trans e')
    omega
  have ez:(nms c 22 rows.length)[j]? =some z:=by unfold nms;rw [List.getElem?_map,List.getElem?_range hj,ej];rfl
  show (nms c 22 rows.length).idxOf z < (nms c 22 rows.length).idxOf r.1
  rw [ik j z ez,ik k r.1 er]
  exact hjk
theorem uW {x y:Str} (h:x.cps.toList=y.cps.toList):x=y:=by cases x;cases y;congr 1;exact Array.toList_inj.mp h
theorem mH (x y:Str):(x++y).cps.toList=x.cps.toList++y.cps.toList:=by
 show (x.cps++y.cps).toList=_
 rw [Array.toList_append]
theorem qt (x y:Str):(x++y).length=x.length + y.length:=by
 show (x.cps++y.cps).size=_
 rw [Array.size_append];rfl
theorem Ew (z:Str):("in ":Str)++z=rowT [("in":Str),z]:=uW (by
 unfold rowT
 rw [mH,gZ,show ("in ":Str).cps.toList=("in":Str).cps.toList++[32] by decide +kernel]
 simp [J])
theorem Cq (z:Str):("out ":Str)++z=rowT [("out":Str),z]:=uW (by
 unfold rowT
 rw [mH,gZ,show ("out ":Str).cps.toList=("out":Str).cps.toList++[32] by decide +kernel]
 simp [J])
theorem yo (z w:Str):("store ":Str)++z++(" = ":Str)++w=rowT [("store":Str),z,("=":Str),w]:=uW (by
 unfold rowT
 rw [mH,mH,mH,gZ,show ("store ":Str).cps.toList=("store":Str).cps.toList++[32] by decide +kernel,show (" = ":Str).cps.toList=32::(("=":Str).cps.toList++[32]) by decide +kernel]
 simp [J])
noncomputable def tY:List Str:=["in","sum","store","out"]
structure Dl (rows R:List (List Str)) (l0 l1 l2 l3:List (List Str)):Prop where
 k0:R.filter (kd "in")++l0=rows.filter (kd "in")
 k1:R.filter (kd "sum")++l1=rows.filter (kd "sum")
 k2:R.filter (kd "store")++l2=rows.filter (kd "store")
 k3:R.filter (kd "out")++l3=rows.filter (kd "out")
 fm:∀ r∈R,Fm r
 len:R.length + (l0.length + l1.length + l2.length + l3.length)=rows.length
theorem Dl.fin {rows R l0 l1 l2 l3:List (List Str)} (d:Dl rows R l0 l1 l2 l3) (h:R.length=rows.length):netR R=netR rows:=by
 have hl:=d.len
 have e0:l0=[]:=List.length_eq_zero_iff.mp (by omega)
 have e1:l1=[]:=List.length_eq_zero_iff.mp (by omega)
 have e2:l2=[]:=List.length_eq_zero_iff.mp (by omega)
 have e3:l3=[]:=List.length_eq_zero_iff.mp (by omega)
 have a0:=d.k0;have a1:=d.k1;have a2:=d.k2;have a3:=d.k3
 rw [e0,List.append_nil] at a0;rw [e1,List.append_nil] at a1;rw [e2,List.append_nil] at a2;rw [e3,List.append_nil] at a3
 unfold netR insR sumR stoR outR
 rw [a0,a1,a2,a3]
theorem GF {r:List Str} (f:Fm r):((if kd "in" r=true then 1 else 0) + (if kd "sum" r=true then 1 else 0) + (if kd "store" r=true then 1 else 0) + (if kd "out" r=true then 1 else 0):Nat)=1:=by
 obtain ⟨n1,n2,n3,n4,n5,n6,n7,n8,n9,n10,n11,n12⟩:=w_ne
 cases f<;>simp [kd,n1,n2,n3,n4,n5,n6,n7,n8,n9,n10,n11,n12]
theorem DK:∀ {rows:List (List Str)},(∀ r∈rows,Fm r)→(rows.filter (kd "in")).length + (rows.filter (kd "sum")).length + (rows.filter (kd "store")).length + (rows.filter (kd "out")).length=rows.length
 | [],_=>rfl
 | r::rows,h=>by
   have ih:=DK fun x hx=>h x (List.mem_cons_of_mem r hx)
   have h1:=GF (h r List.mem_cons_self)
   have fc:∀ k:Str,((r::rows).filter (kd k)).length=(if kd k r=true then 1 else 0) + (rows.filter (kd k)).length:=fun k=>by
    rw [List.filter_cons]
    by_cases e:kd k r=true
    ·rw [if_pos e,if_pos e,List.length_cons];omega
    ·rw [if_neg e,if_neg e];omega
   rw [fc,fc,fc,fc,List.length_cons];omega
theorem Dl.zero {rows:List (List Str)} (h:∀ r∈rows,Fm r):Dl rows [] (rows.filter (kd "in")) (rows.filter (kd "sum")) (rows.filter (kd "store")) (rows.filter (kd "out")):=⟨rfl,rfl,rfl,rfl,fun r hr=>(by cases hr),by have:=DK h;rw [List.length_nil];omega⟩
theorem mi {r:List Str} {k:Str} (h:kd k r=true):∀ {j:Str},k≠j→kd j r=false:=fun {j} n=>by
 have e:r.getD 0 ""=k:=of_decide_eq_true h
 exact decide_eq_false (by rw [e];exact n)
theorem CZ {k:Str} {rows a b:List (List Str)} {h:List Str} (e:a++h::b=rows.filter (kd k)):kd k h=true∧h∈rows:=by
 have m:h∈rows.filter (kd k):=by rw [← e];exact List.mem_append_right _ List.mem_cons_self
 exact ⟨(List.mem_filter.mp m).2,(List.mem_filter.mp m).1⟩
theorem xE {k:Str} {R b X:List (List Str)} {h:List Str} (t:kd k h=true) (e:R.filter (kd k)++h::b=X):(R++[h]).filter (kd k)++b=X:=by
 rw [List.filter_append,List.filter_cons,if_pos t,List.filter_nil,List.append_assoc];exact e
theorem gv {k:Str} {R b X:List (List Str)} {h:List Str} (t:kd k h=false) (e:R.filter (kd k)++b=X):(R++[h]).filter (kd k)++b=X:=by
 rw [List.filter_append,List.filter_cons,if_neg (by rw [t];decide),List.filter_nil,List.append_nil];exact e
theorem Dl.s0 {rows R l0 l1 l2 l3:List (List Str)} {h:List Str} (d:Dl rows R (h::l0) l1 l2 l3) (fm:∀ r∈rows,Fm r):Dl rows (R++[h]) l0 l1 l2 l3:=by
 obtain ⟨t,m⟩:=CZ d.k0
 exact ⟨xE t d.k0,gv (mi t (by decide +kernel)) d.k1,gv (mi t (by decide +kernel)) d.k2,gv (mi t (by decide +kernel)) d.k3,fun r hr=>(by rcases List.mem_append.mp hr with z | z;(exact d.fm r z);(rw [List.mem_singleton.mp z];exact fm h m)),by have:=d.len;rw [List.length_cons] at this;rw [List.length_append,List.length_singleton];omega⟩
theorem Dl.s1 {rows R l0 l1 l2 l3:List (List Str)} {h:List Str} (d:Dl rows R l0 (h::l1) l2 l3) (fm:∀ r∈rows,Fm r):Dl rows (R++[h]) l0 l1 l2 l3:=by
 obtain ⟨t,m⟩:=CZ d.k1
 exact ⟨gv (mi t (by decide +kernel)) d.k0,xE t d.k1,gv (mi t (by decide +kernel)) d.k2,gv (mi t (by decide +kernel)) d.k3,fun r hr=>(by rcases List.mem_append.mp hr with z | z;(exact d.fm r z);(rw [List.mem_singleton.mp z];exact fm h m)),by have:=d.len;rw [List.length_cons] at this;rw [List.length_append,List.length_singleton];omega⟩
theorem Dl.s2 {rows R l0 l1 l2 l3:List (List Str)} {h:List Str} (d:Dl rows R l0 l1 (h::l2) l3) (fm:∀ r∈rows,Fm r):Dl rows (R++[h]) l0 l1 l2 l3:=by
 obtain ⟨t,m⟩:=CZ d.k2
 exact ⟨gv (mi t (by decide +kernel)) d.k0,gv (mi t (by decide +kernel)) d.k1,xE t d.k2,gv (mi t (by decide +kernel)) d.k3,fun r hr=>(by rcases List.mem_append.mp hr with z | z;(exact d.fm r z);(rw [List.mem_singleton.mp z];exact fm h m)),by have:=d.len;rw [List.length_cons] at this;rw [List.length_append,List.length_singleton];omega⟩
theorem Dl.s3 {rows R l0 l1 l2 l3:List (List Str)} {h:List Str} (d:Dl rows R l0 l1 l2 (h::l3)) (fm:∀ r∈rows,Fm r):Dl rows (R++[h]) l0 l1 l2 l3:=by
 obtain ⟨t,m⟩:=CZ d.k3
 exact ⟨gv (mi t (by decide +kernel)) d.k0,gv (mi t (by decide +kernel)) d.k1,gv (mi t (by decide +kernel)) d.k2,xE t d.k3,fun r hr=>(by rcases List.mem_append.mp hr with z | z;(exact d.fm r z);(rw [List.mem_singleton.mp z];exact fm h m)),by have:=d.len;rw [List.length_cons] at this;rw [List.length_append,List.length_singleton];omega⟩
end Sx
namespace My
open PySem L2 Sx
local macro_rules | `(tactic| walk_at "o") =>`(tactic| first | exact Or.inl rfl | exact Or.inr rfl)
local macro_rules | `(tactic| walk_at "s") =>`(tactic| exact ⟨rfl,rfl,rfl,by decide +kernel,rfl,by decide +kernel,by decide +kernel⟩)
local macro_rules | `(tactic| walk_at "l2side") =>`(tactic| first | assumption | rfl | omega | decide | ((try dsimp only [CDiv,HQ,CPow,CMul]);first | omega | decide | (refine ⟨?_,?_⟩<;>first | omega | decide) | (refine ⟨?_,?_,?_⟩<;>first | omega | decide) | (left;refine ⟨?_,?_⟩<;>first | omega | decide) | (right;refine ⟨?_,?_⟩<;>first | omega | decide)))
local macro_rules | `(tactic| walk_at "l2len") =>`(tactic| ((with_reducible show _ + _≤sizeLine);first | assumption | (rw [sizeLine_eq];omega) | omega))
local macro_rules | `(tactic| walk_at "l2at") =>`(tactic| first | assumption | exact al | (refine' Same.get (by assumption) ?h;(case h=>walk_at "l2at")))
local macro_rules | `(tactic| walk_at "l2hp") =>`(tactic| first | assumption | (refine' SqL.of ?h;(case h=>walk_at "l2at")) | (refine' SqT.of ?h;(case h=>walk_at "l2at")) | (refine' Same.seq (by assumption) ?h;(case h=>walk_at "l2hp")) | (refine' Same.tup (by assumption) ?h;(case h=>walk_at "l2hp")) | (refine' Rep.same (by assumption) ?h;(case h=>walk_at "l2hp")) | walk_at "l2at")
local macro_rules | `(tactic| walk_at "l2kind") =>`(tactic| first | assumption | exact rfl | (refine' Or.inl ⟨rfl,_,?e⟩;(case e=>walk_at "l2hp")) | (refine' Or.inr (Or.inl ⟨rfl,_,?e⟩);(case e=>walk_at "l2hp")) | (refine' Or.inr (Or.inr ⟨rfl,_,Or.inl ?e⟩);(case e=>walk_at "l2hp")))
local macro_rules | `(tactic| walk_at "l2step") =>`(tactic| first
 | (with_reducible refine Hk ?_) | (with_reducible refine Hz ?_) | (with_reducible refine s_if ?_) | (with_reducible refine Hl ?_) | (with_reducible refine s_retN ?_) | (with_reducible refine FZ ?_) | (with_reducible refine FN ?_)
 | ((with_reducible refine' Hh ?e ?_);(case e=>repeat constructor)) | (with_reducible refine s_c ?_) | (with_reducible refine s_op ?_) | (with_reducible refine s_un ?_)
 | (with_reducible refine F3 ?_) | (with_reducible refine Hr ?_) | (with_reducible refine Eu ?_) | (with_reducible refine s_cb ?_)
 | (with_reducible refine Hn ?_) | ((with_reducible refine' s_rI ?e ?_);(case e=>walk_at "l2side")) | (with_reducible refine s_rU ?_)
 | ((with_reducible refine' Ho ?e ?_);(case e=>rfl)) | ((with_reducible refine' Hm ?e ?_);(case e=>rfl)) | (with_reducible refine s_leS ?_)
 | (with_reducible refine FJ ?_) | (with_reducible refine s_tB ?_) | (with_reducible refine L2.s_chain ?_) | (with_reducible refine HA ?_) | (with_reducible refine s_or ?_) | (with_reducible refine Hq ?_)
 | (with_reducible refine F5 ?_) | (with_reducible refine s_orV ?_) | (with_reducible refine s_notV ?_) | (with_reducible refine Hv ?_)
 | ((with_reducible refine' Em ?e ?_);(case e=>repeat constructor)) | (with_reducible refine Eo ?_) | (with_reducible refine FY ?_) | ((with_reducible refine' FX ?e ?l ?_);(case e=>walk_at "l2hp");(case l=>rfl))
 | (with_reducible refine Hi ?_) | (with_reducible refine Hs ?_) | ((with_reducible refine' FP ?l ?_);(case l=>exact AU (Nat.le_of_ble_eq_true rfl))) | ((with_reducible refine' FO ?l ?_);(case l=>exact AU (Nat.le_of_ble_eq_true rfl)))
 | (with_reducible refine s_sl ?_) | (with_reducible refine Cm ?_) | (with_reducible refine FM ?_)
 | ((with_reducible refine' Hj ?e ?_);(case e=>walk_at "l2hp")) | ((with_reducible refine' s_slS ?e ?_);(case e=>walk_at "l2side"))
 | ((with_reducible refine' Ap ?e ?a ?_);(case e=>walk_at "l2hp");(case a=>first | assumption | rfl)) | ((with_reducible refine' Ht ?e ?a ?_);(case e=>walk_at "l2hp");(case a=>first | assumption | rfl))
 | ((with_reducible refine' s_ty ?e ?_);(case e=>first | exact rfl | (refine' Or.inl ⟨rfl,_,?f⟩;(case f=>walk_at "l2hp")) | (refine' Or.inr (Or.inr (Or.inl ⟨rfl,Or.inl ⟨_,?f⟩⟩));(case f=>walk_at "l2hp"))))
 | (with_reducible refine s_bm0 ?_) | (with_reducible refine s_bm ?_) | (with_reducible refine s_bits ?_)
 | ((with_reducible refine' FT ?e ?_);(case e=>walk_at "l2hp")) | ((with_reducible refine' s_lenT ?e ?_);(case e=>walk_at "l2hp")) | ((with_reducible refine' FS ?e ?_);(case e=>walk_at "l2side"))
 | ((with_reducible refine' Hu ?e ?m ?_);(case e=>walk_at "l2kind");(case m=>decide))
 | (with_reducible refine F2 ?_) | (with_reducible refine Hw ?_) | (with_reducible refine Ek ?_) | (with_reducible refine FV ?_) | (with_reducible refine FW ?_) | (with_reducible refine FK ?_) | (with_reducible refine s_rng2 ?_)
 | (with_reducible refine Hg ?_) | (with_reducible refine FI ?_) | (with_reducible refine Ep ?_) | (with_reducible refine s_intB ?_) | (with_reducible refine s_inS ?_) | ((with_reducible refine' s_addS ?e ?_);(case e=>walk_at "l2side"))
 | (with_reducible refine F4 ?_) | ((with_reducible refine' j7 ?e ?_);(case e=>first | rfl | decide | assumption)) | ((with_reducible refine' fJ ?e ?_);(case e=>first | rfl | decide | assumption)) | ((with_reducible refine' Co ?a ?b ?_);(case a=>omega);(case b=>omega))
 | (with_reducible refine ⟨_,_,rfl,rfl,?_⟩;(with_reducible refine ⟨?l,?_⟩);(case l=>walk_at "l2len")) | (with_reducible refine ⟨_,_,rfl,rfl,?_⟩) | (with_reducible refine Or.inl ⟨_,rfl,?_⟩) | (with_reducible refine Or.inr ⟨_,rfl,?_⟩)
 | (with_reducible refine ⟨_,rfl,?_⟩) | (with_reducible refine ⟨rfl,?_⟩) | ((with_reducible refine' ⟨⟨_,?e⟩,?_⟩);(case e=>walk_at "l2hp")))
local macro_rules | `(tactic| walk_at "l2") =>`(tactic| repeat walk_at "l2step")
local macro_rules | `(tactic| walk_at "l2step") =>`(tactic| first
 | (with_reducible refine Cl ?_) | (with_reducible refine Hx ?_) | (with_reducible refine FR ?_) | (with_reducible refine Cn ?_) | (with_reducible refine FQ ?_) | (with_reducible refine F0 ?_) | (with_reducible refine s_dget ?_) | (with_reducible refine El ?_)
 | ((with_reducible refine' Ej ?e ?_);(case e=>walk_at "l2hp")) | ((with_reducible refine' Ei ?e ?_);(case e=>walk_at "l2hp")) | ((with_reducible refine' FH ?e ?_);(case e=>walk_at "l2hp")) | ((with_reducible refine' FG ?e ?_);(case e=>walk_at "l2hp")))
local macro_rules | `(tactic| walk_at "l2step") =>`(tactic| first
 | (with_reducible refine Hy ?_) | (with_reducible refine F1 ?_) | (with_reducible refine s_disp1I ?_) | ((with_reducible refine' s_listD ?e ?_);(case e=>walk_at "l2at")))
local macro_rules | `(tactic| walk_at "l2step") =>`(tactic| first | (with_reducible refine s_raise ?_) | (with_reducible refine s_try0 ?_) | (with_reducible refine s_callX ?_))
noncomputable def top (i:Nat):Stmt:=PySem.Challenge.pw_sumwires_k15_written_and_read.main.body.getD i (.Pass ⟨0,0,0,0⟩)
noncomputable abbrev bL:Stmt:=eX (top 12) 0
theorem lC:aK ["self","name"] ["self","name"] (ad bL):=by walk_at "s"
noncomputable abbrev bu:Stmt:=eX (top 13) 0
theorem jo:aK ["self","name","number"] ["self","name","number"] (ad bu):=by walk_at "s"
noncomputable abbrev bh:Stmt:=eX (top 14) 0
theorem iU:aK ["self","name","wires"] ["self","name","wires"] (ad bh):=by walk_at "s"
noncomputable abbrev bc:Stmt:=eX (top 15) 0
theorem gD:aK ["self","name","wire","number"] ["self","name","wire","number"] (ad bc):=by walk_at "s"
noncomputable abbrev dZ:Stmt:=top 20
theorem yl:aK ["thing"] ["thing"] (ad dZ):=by walk_at "s"
noncomputable abbrev dR:Stmt:=top 21
theorem vc:aK ["row"] ["row"] (ad dR):=by walk_at "s"
noncomputable abbrev bT:Stmt:=top 28
theorem oU:aK ["ins","sums","stores","outs"] ["ins","sums","stores","outs"] (ad bT):=by walk_at "s"
noncomputable abbrev cn:Stmt:=top 29
theorem eS:aK ["names","known","name"] ["names"] (ad cn):=by walk_at "s"
noncomputable abbrev cL:Stmt:=top 30
theorem qz:aK ["wire","known"] ["wire","known"] (ad cL):=by walk_at "s"
noncomputable abbrev ck:Stmt:=top 31
theorem cG:aK ["sums","stores","outs","known","row","wire"] ["sums","stores","outs","known"] (ad ck):=by walk_at "s"
noncomputable abbrev aP:Stmt:=top 32
theorem gm:aK ["ins","sums","stores","wires"] ["ins","sums","stores"] (ad aP):=by walk_at "s"
noncomputable abbrev iV:Stmt:=top 33
theorem Ck:aK ["row","waiting"] ["row","waiting"] (ad iV):=by walk_at "s"
noncomputable abbrev dC:Stmt:=top 35
theorem dQ:aK ["sums","names","left","waiting","ready"] ["sums"] (ad dC):=by walk_at "s"
noncomputable abbrev ba:Stmt:=eX (top 36) 0
theorem mQ:aK ["self","ins","sums","stores","outs"] ["self","ins","sums","stores","outs"] (ad ba):=by walk_at "s"
noncomputable abbrev b6:Stmt:=eX (top 36) 1
theorem mP:aK ["self"] ["self"] (ad b6):=by walk_at "s"
noncomputable abbrev b5:Stmt:=eX (top 36) 2
theorem mO:aK ["self"] ["self"] (ad b5):=by walk_at "s"
noncomputable abbrev bC:Stmt:=eX (top 36) 3
theorem j6:aK ["self"] ["self"] (ad bC):=by walk_at "s"
noncomputable abbrev bM:Stmt:=eX (top 36) 4
theorem lD:aK ["self"] ["self"] (ad bM):=by walk_at "s"
noncomputable abbrev dU:Stmt:=eX (top 36) 5
theorem ve:aK ["self"] ["self"] (ad dU):=by walk_at "s"
noncomputable abbrev da:Stmt:=top 38
theorem vd:aK ["words"] ["words"] (ad da):=by walk_at "s"
noncomputable abbrev fo:Stmt:=top 39
theorem yk:aK ["text"] ["text"] (ad fo):=by walk_at "s"
noncomputable abbrev bK:Stmt:=top 40
theorem b9:aK ["text","rows","number","words","ins","sums","stores","outs"] ["text"] (ad bK):=by walk_at "s"
noncomputable abbrev bJ:Stmt:=top 41
theorem mM:aK ["net","rows"] ["net"] (ad bJ):=by walk_at "s"
noncomputable abbrev de:Stmt:=top 43
theorem sH:aK ["_law_script","_law_k"] ["_law_script","_law_k"] (ad de):=by walk_at "s"
noncomputable abbrev dS:Stmt:=top 44
theorem iT:aK ["_law_cell_here","_law_k","_law_number"] ["_law_cell_here","_law_k"] (ad dS):=by walk_at "s"
noncomputable abbrev dc:Stmt:=top 45
theorem eI:aK ["_law_cell_here","_law_k","_law_letters","_law_some"] ["_law_cell_here","_law_k"] (ad dc):=by walk_at "s"
noncomputable abbrev ca:Stmt:=top 46
theorem cj:aK ["_law_cell_here","_law_start","_law_names","_law_digits","_law_left","_law_found","_law_k","_law_many"] ["_law_cell_here","_law_start","_law_names","_law_digits"] (ad ca):=by walk_at "s"
noncomputable abbrev cq:Stmt:=top 47
theorem aI:aK ["_law_script","_law_start","_law_most","_law_cell_here","_law_sizes","_law_ins","_law_stores","_law_known","_law_sums","_law_k","_law_wires_here","_law_at","_law_ends","_law_name_here","_law_outs"] ["_law_script","_law_start","_law_most"] (ad cq):=by walk_at "s"
noncomputable abbrev cK:Stmt:=top 48
theorem sG:aK ["_law_ins","_law_sums","_law_stores","_law_outs"] ["_law_ins","_law_sums","_law_stores","_law_outs"] (ad cK):=by walk_at "s"
noncomputable abbrev bU:Stmt:=top 49
theorem dB:aK ["_law_ins","_law_sums","_law_stores","_law_outs","_law_rows","_law_name_here","_law_wires_here"] ["_law_ins","_law_sums","_law_stores","_law_outs"] (ad bU):=by walk_at "s"
noncomputable abbrev bD:Stmt:=top 50
theorem cM:aK ["_law_rows","_law_cell_here","_law_some","_law_found","_law_k","_law_left"] ["_law_rows","_law_cell_here"] (ad bD):=by walk_at "s"
noncomputable abbrev ym:Stmt:=top 51
theorem gC:aK ["_law_script","_law_ins","_law_sums","_law_stores","_law_outs","_law_due","_law_net_here","_law_text_here","_law_found","_law_other"] ["_law_script"] (ad ym):=by walk_at "s"
set_option genInjectivity false in
set_option genSizeOf false in
structure Ad where
 aR:Addr
 bz:FuncData
 ax:Addr
 di:FuncData
 aw:Addr
 cT:FuncData
 av:Addr
 cE:FuncData
 cS:Addr
 oi:FuncData
 cu:Addr
 ky:FuncData
 bp:Addr
 fW:FuncData
 bq:Addr
 fX:FuncData
 bE:Addr
 g8:FuncData
 bo:Addr
 fV:FuncData
 bb:Addr
 eg:FuncData
 fT:Addr
 wJ:FuncData
 cR:Addr
 oh:FuncData
 aU:Addr
 fg:FuncData
 aT:Addr
 ff:FuncData
 aS:Addr
 eZ:FuncData
 aB:Addr
 dH:FuncData
 aJ:Addr
 eh:FuncData
 bP:Addr
 kE:FuncData
 cx:Addr
 kB:FuncData
 cQ:Addr
 og:FuncData
 cw:Addr
 kA:FuncData
 cv:Addr
 kz:FuncData
 b0:Addr
 je:FuncData
 cz:Addr
 kD:FuncData
 bZ:Addr
 jd:FuncData
 bF:Addr
 g9:FuncData
 cy:Addr
 kC:FuncData
 bX:Addr
 jb:FuncData
 bY:Addr
 jc:FuncData
 bG:Addr
 hG:FuncData
 ub:Addr
 E7:FuncData
 aX:Addr
 am:Addr
 aj:Addr
 ag:Addr
 be:Addr
 bR:Addr
 mG:Tok
 eR:Tok
 j2:Tok
 iQ:Tok
 fI:Tok
 iP:Tok
 gA:Tok
 gz:Tok
open PySem.W in
structure Tx (K:Frag) (mg:Str→Option Value) (a:Ad):Prop where
 cZ:Fun K "__init__" "Wire.__init__" bL a.aR a.bz
 A9:keepIn K (.ref a.aR)=true
 cf:bS K a.bz ["self","name"] []
 cA:Fun K "__init__" "InWire.__init__" bu a.ax a.di
 y9:keepIn K (.ref a.ax)=true
 dk:bS K a.di ["self","name","number"] []
 b8:Fun K "__init__" "SumWire.__init__" bh a.aw a.cT
 xF:keepIn K (.ref a.aw)=true
 cU:bS K a.cT ["self","name","wires"] []
 bI:Fun K "__init__" "StoreWire.__init__" bc a.av a.cE
 uT:keepIn K (.ref a.av)=true
 cF:bS K a.cE ["self","name","wire","number"] []
 jY:Fun K "is_name" "is_name" dZ a.cS a.oi
 gX:keepIn K (.ref a.cS)=true
 eu:bS K a.oi ["thing"] []
 g5:mg "is_name"=some (.ref a.cS)
 ir:Fun K "words_of" "words_of" dR a.cu a.ky
 y4:keepIn K (.ref a.cu)=true
 kK:bS K a.ky ["row"] []
 zc:mg "words_of"=some (.ref a.cu)
 dO:Fun K "check_sizes" "check_sizes" bT a.bp a.fW
 rA:keepIn K (.ref a.bp)=true
 fZ:bS K a.fW ["ins","sums","stores","outs"] []
 rE:mg "check_sizes"=some (.ref a.bp)
 dP:Fun K "check_names" "check_names" cn a.bq a.fX
 rB:keepIn K (.ref a.bq)=true
 gb:bS K a.fX ["names"] []
 rF:mg "check_names"=some (.ref a.bq)
 eO:Fun K "check_wire" "check_wire" cL a.bE a.g8
 gY:keepIn K (.ref a.bE)=true
 dE:bS K a.g8 ["wire","known"] []
 g6:mg "check_wire"=some (.ref a.bE)
 dN:Fun K "check_wires" "check_wires" ck a.bo a.fV
 rz:keepIn K (.ref a.bo)=true
 fY:bS K a.fV ["sums","stores","outs","known"] []
 rD:mg "check_wires"=some (.ref a.bo)
 cX:Fun K "wires_by_name" "wires_by_name" aP a.bb a.eg
 nT:keepIn K (.ref a.bb)=true
 eo:bS K a.eg ["ins","sums","stores"] []
 nV:mg "wires_by_name"=some (.ref a.bb)
 so:Fun K "waits" "waits" iV a.fT a.wJ
 A6:keepIn K (.ref a.fT)=true
 rZ:bS K a.wJ ["row","waiting"] []
 Bg:mg "waits"=some (.ref a.fT)
 jX:Fun K "ordered" "ordered" dC a.cR a.oh
 A8:keepIn K (.ref a.cR)=true
 oG:bS K a.oh ["sums"] []
 Bi:mg "ordered"=some (.ref a.cR)
 dA:Fun K "__init__" "Net.__init__" ba a.aU a.fg
 B6:keepIn K (.ref a.aU)=true
 dw:bS K a.fg ["self","ins","sums","stores","outs"] []
 dz:Fun K "in_names" "Net.in_names" b6 a.aT a.ff
 B5:keepIn K (.ref a.aT)=true
 du:bS K a.ff ["self"] []
 dy:Fun K "sum_rows" "Net.sum_rows" b5 a.aS a.eZ
 B0:keepIn K (.ref a.aS)=true
 dq:bS K a.eZ ["self"] []
 cI:Fun K "store_rows" "Net.store_rows" bC a.aB a.dH
 zZ:keepIn K (.ref a.aB)=true
 cH:bS K a.dH ["self"] []
 c6:Fun K "out_wires" "Net.out_wires" bM a.aJ a.eh
 Ba:keepIn K (.ref a.aJ)=true
 cV:bS K a.eh ["self"] []
 iB:Fun K "told" "Net.told" dU a.bP a.kE
 Fo:keepIn K (.ref a.bP)=true
 fG:bS K a.kE ["self"] []
 iy:Fun K "has_form" "has_form" da a.cx a.kB
 y6:keepIn K (.ref a.cx)=true
 kL:bS K a.kB ["words"] []
 zd:mg "has_form"=some (.ref a.cx)
 jW:Fun K "rows_of" "rows_of" fo a.cQ a.og
 A7:keepIn K (.ref a.cQ)=true
 oF:bS K a.og ["text"] []
 Bh:mg "rows_of"=some (.ref a.cQ)
 iw:Fun K "read_net" "read_net" bK a.cw a.kA
 qc:keepIn K (.ref a.cw)=true
 ip:bS K a.kA ["text"] []
 qd:mg "read_net"=some (.ref a.cw)
 iu:Fun K "show_net" "show_net" bJ a.cv a.kz
 ij:keepIn K (.ref a.cv)=true
 dX:bS K a.kz ["net"] []
 il:mg "show_net"=some (.ref a.cv)
 gj:Fun K "_law_cell" "_law_cell" de a.b0 a.je
 i8:keepIn K (.ref a.b0)=true
 eA:bS K a.je ["_law_script","_law_k"] []
 i9:mg "_law_cell"=some (.ref a.b0)
 iA:Fun K "_law_mix" "_law_mix" dS a.cz a.kD
 bi:keepIn K (.ref a.cz)=true
 bd:bS K a.kD ["_law_cell_here","_law_k"] []
 bj:mg "_law_mix"=some (.ref a.cz)
 gi:Fun K "_law_name" "_law_name" dc a.bZ a.jd
 fR:keepIn K (.ref a.bZ)=true
 dj:bS K a.jd ["_law_cell_here","_law_k"] []
 fS:mg "_law_name"=some (.ref a.bZ)
 eP:Fun K "_law_wires" "_law_wires" ca a.bF a.g9
 tZ:keepIn K (.ref a.bF)=true
 h7:bS K a.g9 ["_law_cell_here","_law_start","_law_names","_law_digits"] []
 t4:mg "_law_wires"=some (.ref a.bF)
 iz:Fun K "_law_net" "_law_net" cq a.cy a.kC
 y8:keepIn K (.ref a.cy)=true
 kM:bS K a.kC ["_law_script","_law_start","_law_most"] []
 ze:mg "_law_net"=some (.ref a.cy)
 gf:Fun K "_law_told" "_law_told" cK a.bX a.jb
 wp:keepIn K (.ref a.bX)=true
 jh:bS K a.jb ["_law_ins","_law_sums","_law_stores","_law_outs"] []
 wu:mg "_law_told"=some (.ref a.bX)
 gh:Fun K "_law_text" "_law_text" bU a.bY a.jc
 wq:keepIn K (.ref a.bY)=true
 ji:bS K a.jc ["_law_ins","_law_sums","_law_stores","_law_outs"] []
 wv:mg "_law_text"=some (.ref a.bY)
 eQ:Fun K "_law_dealt" "_law_dealt" bD a.bG a.hG
 t2:keepIn K (.ref a.bG)=true
 h8:bS K a.hG ["_law_rows","_law_cell_here"] []
 t6:mg "_law_dealt"=some (.ref a.bG)
 Dj:Fun K "law" "law" ym a.ub a.E7
 HV:keepIn K (.ref a.ub)=true
 GU:bS K a.E7 ["_law_script"] []
 HW:mg "law"=some (.ref a.ub)
 Bj:mg "Wire"=some (.ref a.aX)
 HU:Cls K a.aX
 HS:BM K a.aX
 BT:ar K a.aX "by_name"
 Fi:ar K a.aX "ins"
 xA:ar K a.aX "kept_stores"
 EO:ar K a.aX "line"
 EN:ar K a.aX "name"
 CK:ar K a.aX "number"
 EM:ar K a.aX "outs"
 EL:ar K a.aX "ring"
 zS:ar K a.aX "sum_order"
 EK:ar K a.aX "sums"
 EJ:ar K a.aX "wire"
 DH:ar K a.aX "wires"
 C5:mg "InWire"=some (.ref a.am)
 su:Cls K a.am
 G9:BM K a.am
 Dh:Mk K a.am a.ax
 zY:ar K a.am "by_name"
 DJ:ar K a.am "ins"
 uS:ar K a.am "kept_stores"
 CQ:ar K a.am "line"
 jG:ar K a.am "name"
 nE:ar K a.am "number"
 CP:ar K a.am "outs"
 CO:ar K a.am "ring"
 xB:ar K a.am "sum_order"
 CN:ar K a.am "sums"
 CM:ar K a.am "wire"
 BZ:ar K a.am "wires"
 Bk:mg "SumWire"=some (.ref a.aj)
 oP:Cls K a.aj
 G7:BM K a.aj
 BL:Mk K a.aj a.aw
 yO:ar K a.aj "by_name"
 CL:ar K a.aj "ins"
 tO:ar K a.aj "kept_stores"
 BY:ar K a.aj "line"
 iJ:ar K a.aj "name"
 zT:ar K a.aj "number"
 BX:ar K a.aj "outs"
 BW:ar K a.aj "ring"
 vV:ar K a.aj "sum_order"
 BV:ar K a.aj "sums"
 BU:ar K a.aj "wire"
 nA:ar K a.aj "wires"
 ww:mg "StoreWire"=some (.ref a.ag)
 gl:Cls K a.ag
 Fe:BM K a.ag
 xn:Mk K a.ag a.av
 vW:ar K a.ag "by_name"
 AQ:ar K a.ag "ins"
 rh:ar K a.ag "kept_stores"
 zX:ar K a.ag "line"
 gt:ar K a.ag "name"
 jE:ar K a.ag "number"
 zW:ar K a.ag "outs"
 zV:ar K a.ag "ring"
 tP:ar K a.ag "sum_order"
 zU:ar K a.ag "sums"
 lZ:ar K a.ag "wire"
 yP:ar K a.ag "wires"
 GL:mg "Net"=some (.ref a.be)
 c7:Cls K a.be
 HZ:BM K a.be
 G3:Mk K a.be a.aU
 iL:Meth K a.be "in_names" a.aT
 iK:Meth K a.be "sum_rows" a.aS
 gu:Meth K a.be "store_rows" a.aB
 gU:Meth K a.be "out_wires" a.aJ
 km:Meth K a.be "told" a.bP
 jF:ar K a.be "by_name"
 nC:ar K a.be "ins"
 cr:ar K a.be "kept_stores"
 Fn:ar K a.be "line"
 Fl:ar K a.be "name"
 DI:ar K a.be "number"
 kl:ar K a.be "outs"
 Fk:ar K a.be "ring"
 nB:ar K a.be "sum_order"
 fA:ar K a.be "sums"
 Fj:ar K a.be "wire"
 EQ:ar K a.be "wires"
 bz:DX K a.aX "__init__" a.aR
 GK:mg "TooMany"=some (.ref a.bR)
 jk:excIn K a.bR [.type "ValueError",.type "Exception",.type "BaseException",.type "object"] "ValueError.__new__"=true
 G6:XIsi K a.bR
 Bl:mg "LETTERS"=some (.str "abcdefghijklmnopqrstuvwxyz" a.mG)
 pA:mg "LONGEST_NAME"=some (.int 6 a.eR)
 zf:mg "MOST_INS"=some (.int 6 a.j2)
 wy:mg "MOST_OUTS"=some (.int 6 a.iQ)
 rG:mg "MOST_STORES"=some (.int 16 a.fI)
 wx:mg "MOST_SUMS"=some (.int 40 a.iP)
 t9:mg "MOST_WIRES"=some (.int 24 a.gA)
 t7:mg "NAME_SIGNS"=some (.str "abcdefghijklmnopqrstuvwxyz0123456789" a.gz)
 Gz:mg "all"=none
 Gy:mg "any"=none
 DG:mg "dict"=none
 fP:mg "enumerate"=none
 k7:mg "isinstance"=none
 eG:mg "len"=none
 gq:mg "list"=none
 i6:mg "range"=none
 yN:mg "reversed"=none
 EI:mg "str"=none
 gT:mg "tuple"=none
section
variable {P:Program} {w:World} {K:PySem.W.Frag} {mg:Str→Option Value} {base:Heap} {a:Ad}
theorem kZ (T:Tx K mg a):FnOk P w K mg base CX0 1 a.b0 a.je ["_law_script","_law_k"] (xw K):=by
 refine T.gj.ok sH (fun vs H Q E h=>?_) (fun cdv A outer s H vs Q E hr h=>?_)
 ·obtain ⟨a,ns,k,rfl,_⟩:=h;rfl
 ·obtain ⟨p,ns,k,rfl,hS,h0,q⟩:=h
  refine ⟨_,((af (eF (aW ED (pv 1) (aH (aN (K:=K) rfl) (by rfl) T.eG PySem.boot_len (aa (pv 0) ae)) (bf _)) (ak (br (bw (aO (K:=K) rfl) (pv 0) (pv 1) (fun _ _=>rfl)))) bB)
   (ak (br (aF b7 (aF m7 ai (pv 1)) ai))))),aQ (σ':=[some _,some _]) rfl ?_⟩
  walk_at "l2"
  rw [List.length_map]
  unfold cell at q
  refine ite2 (fun hc=>?_) (fun hc=>?_)
  ·have hc:=of_decide_eq_true hc
   have ha:atI (ns.map V.int) k=some (.int (ns.getD k.toNat 0)):=by
    obtain ⟨j,rfl⟩:=Int.eq_ofNat_of_zero_le h0
    have hj:j < ns.length:=by omega
    exact cW (by rw [List.getElem?_map,List.getElem?_eq_getElem hj,List.getD_eq_getElem?_getD,Int.toNat_natCast,List.getElem?_eq_getElem hj];rfl)
   rw [if_pos hc] at q
   walk_at "l2"
   exact q
  ·have hc:¬ k < ns.length:=fun z=>hc (decide_eq_true z)
   rw [if_neg hc] at q
   walk_at "l2"
   exact q
theorem BB {H:Hp} {Q:VK} {E:XK} {c k:Int} (h0:0≤k) (h1:k < 100000) (q:Q (.int (mixV c k)) H):Ag [.int c,.int k] H Q E:=⟨c,k,rfl,h0,h1,q⟩
local macro_rules | `(tactic| walk_at "l2step") =>`(tactic| first | ((with_reducible refine' BB ?a ?b ?_);(case a=>walk_at "l2side");(case b=>walk_at "l2side")) | ((with_reducible refine' rY ?e ?a ?_);(case e=>walk_at "l2hp");(case a=>walk_at "l2side")))
theorem fN (T:Tx K mg a):FnOk P w K mg base CX0 1 a.cz a.kD ["_law_cell_here","_law_k"] Ag:=by
 refine T.iA.ok iT (fun vs H Q E h=>?_) (fun cdv A outer s H vs Q E hr h=>?_)
 ·obtain ⟨c,k,rfl,_⟩:=h;rfl
 ·obtain ⟨c,k,rfl,h0,h1,q⟩:=h
  refine ⟨_,((af (bv (i:=2) iT.nd rfl (by walk_at "o") (aF cC (aF b7 (aF b7 (aF m7 (aF cC (pv 0) ai) ai) (aF m7 ai (pv 1))) ai) ai))
   (af (bv (i:=2) iT.nd rfl (by walk_at "o") (aF cC (aF m7 (pv 2) (pv 2)) ai))
   (ak (br (aF cC (aF m7 (pv 2) (aF b7 (aF b7 (pv 2) (aF m7 ai (pv 1))) ai)) ai)))))),aQ (σ':=[some _,some _,none]) rfl ?_⟩
  walk_at "l2"
  exact q
theorem tz (T:Tx K mg a):FnOk P w K mg base CX0 2 a.bZ a.jd ["_law_cell_here","_law_k"] pR:=by
 have aZ:=@fN P w K mg base a T
 refine T.gi.ok eI (fun vs H Q E h=>?_) (fun cdv A outer s H vs Q E hr h=>?_)
 ·obtain ⟨c,k,rfl,_⟩:=h;rfl
 ·obtain ⟨c,k,rfl,h0,h1,q⟩:=h
  have hk:decide (k < 40)=true:=decide_eq_true h1
  refine ⟨_,((af (bv (i:=2) eI.nd rfl (by walk_at "o") aV)
   (af (bv (i:=3) eI.nd rfl (by walk_at "o") aV)
   (af (bv (i:=3) eI.nd rfl (by walk_at "o") (aF dh (pv 3) aV))
   (af (eF (PW.pt (DD (aW ED (pv 1) ai (bf _)) (AD (aW jv (aF cC (au aZ (hr.mono (by decide)) (by rfl) T.bj T.bi T.bd .nil aL (aa (pv 0) (aa ai ae))) ai) ai (bf _))))) (ak (br (bw (aO (K:=K) rfl) (cB (K:=K) rfl PySem.F.plainAttrs_str PySem.F.slot_str_split PySem.F.type_str_split jH (pv 3) (aa aV ae)) (aF cC (aF b7 (pv 1) (au aZ (hr.mono (by decide)) (by rfl) T.bj T.bi T.bd .nil aL (aa (pv 0) (aa ai ae)))) ai) (fun _ _=>rfl)))) bB)
   (ak (br (aF dh (bw DL (pv 2) (aF cC (au aZ (hr.mono (by decide)) (by rfl) T.bj T.bi T.bd .nil aL (aa (pv 0) (aa ai ae))) ai) (fun _ _=>rfl)) (aM ut (by rfl) T.EI PyProof.Rows.boot_str (aa (aF b7 (aF cC (au aZ (hr.mono (by decide)) (by rfl) T.bj T.bi T.bd .nil aL (aa (pv 0) (aa ai ae))) ai) (aF m7 ai (pv 1))) ae)))))))))),aQ (σ':=[some _,some _,none,none]) rfl ?_⟩
  walk_at "l2"
  refine ⟨by decide +kernel,?_⟩
  walk_at "l2"
  generalize hw:((_:Str)++_)=words
  have hw:words=z6:=hw.symm
  by_cases h2:mixV c 402 % 2=0
  ·refine j7 (decide_eq_true (by rw [h2])) ?_
   walk_at "l2"
   refine mR (by decide +kernel) (by rw [hw];decide +kernel) fun D H2 f2 s2 e2=>?_
   have hm:=Int.emod_lt_of_pos (k + mixV c 403) (show (0:Int) < 40 by decide)
   have hm':=Int.emod_nonneg (k + mixV c 403) (show (40:Int)≠0 by decide)
   rw [hw] at e2
   have hat:atI (W40.map V.str) ((k + mixV c 403) % 40)=some (.str (nmf c k)):=by
    obtain ⟨j,hj⟩:=Int.eq_ofNat_of_zero_le hm'
    have lj:j < W40.length:=by rw [sh];omega
    unfold nmf
    rw [if_pos h2,hj]
    refine cW ?_
    rw [List.getElem?_map,List.getD_eq_getElem?_getD,Int.toNat_natCast,List.getElem?_eq_getElem lj];rfl
   have e2:H2 D=some (.lst (W40.map V.str)):=e2
   walk_at "l2"
   exact q H2 s2
  ·refine fJ (decide_eq_false fun z=>h2 (V.int.inj z)) ?_
   have hm:=Int.emod_lt_of_pos (mixV c 400) (show (0:Int) < 26 by decide)
   have hm':=Int.emod_nonneg (mixV c 400) (show (26:Int)≠0 by decide)
   have hr1:=Int.emod_lt_of_pos (mixV c 401) (show (0:Int) < 1000 by decide)
   have hr0:=Int.emod_nonneg (mixV c 401) (show (1000:Int)≠0 by decide)
   walk_at "l2"
   refine FU (by decide +kernel) (yS _ hm' hm) ?_
   walk_at "l2"
   have hn:(mixV c 401 % 1000 + 37 * k).natAbs < 10 ^ 4:=by omega
   have hlog:(mixV c 401 % 1000 + 37 * k).natAbs.log2 < 1920:=by
    rcases Nat.eq_zero_or_pos (mixV c 401 % 1000 + 37 * k).natAbs with z | z
    ·rw [z];decide
    ·exact (Nat.log2_lt (by omega)).mpr (Nat.lt_of_lt_of_le hn (Nat.le_trans (by decide:10 ^ 4≤2 ^ 14) (Nat.pow_le_pow_right (by decide) (by decide))))
   have hlen:=PyProof.Rows.int_text_len_1921 hlog
   refine ⟨hlog,?_⟩
   walk_at "l2"
   refine ⟨by rw [sizeLine_eq];have:(⟨#[97 + (mixV c 400 % 26).toNat]⟩:Str).length=1:=rfl
              omega,?_⟩
   have e:(mixV c 401 % 1000 + 37 * k)=(((mixV c 401 % 1000).toNat + 37 * k.toNat:Nat):Int):=by omega
   have q':=q H (Same.refl _)
   unfold nmf at q'
   rw [if_neg h2] at q'
   rw [e]
   exact q'
end
section
variable {P:Program} {w:World} {K:PySem.W.Frag} {mg:Str→Option Value} {base:Heap} {a:Ad}
local macro_rules | `(tactic| walk_at "l2step") =>`(tactic| first | ((with_reducible refine' BB ?a ?b ?_);(case a=>walk_at "l2side");(case b=>walk_at "l2side")) | ((with_reducible refine' rY ?e ?a ?_);(case e=>walk_at "l2hp");(case a=>walk_at "l2side")))
theorem qD {K:PySem.W.Frag} {H:Hp} {D:Addr} {ws:List Str} (h:H D=some (.lst (ws.map V.str))):Rep K H (.ref D) (.lst (ws.map Dt.str)):= .lst (SqL.of h) (by rw [List.length_map,List.length_map]) (mT V.str Dt.str (fun z=> .str z) ws)
theorem wA:∀ ws:List Str,dM (ws.map Dt.str)=0
 | []=>rfl
 | w::ws=>by rw [List.map_cons,dM,wA ws];rfl
theorem xK (ws:List Str):eqD (.lst (ws.map Dt.str)) (.lst [])=decide (ws=[]):=by
 cases ws with
 | nil=>rfl
 | cons w l=>rw [decide_eq_false (by simp)];rfl
theorem qO (T:Tx K mg a):FnOk P w K mg base CX0 2 a.bF a.g9 ["_law_cell_here","_law_start","_law_names","_law_digits"] Ah:=by
 have aZ:=@fN P w K mg base a T
 refine T.eP.ok cj (fun vs H Q E h=>?_) (fun cdv A outer s H vs Q E hr h=>?_)
 ·obtain ⟨c,st,l,zs,dg,rfl,_⟩:=h;rfl
 ·obtain ⟨c,st,l,zs,dg,rfl,st0,st1,hl,ll,q⟩:=h
  have hu1:=qC hr
  have elen:(((zs.map V.str).length:Nat):Int)=(zs.length:Int):=by rw [List.length_map]
  refine ⟨_,((af (eF (jp (pv 3)) (af (bv (i:=4) cj.nd rfl (by walk_at "o") (aF cC (pv 0) (aF Gq (aF b7 (aH (aN (K:=K) rfl) (by rfl) T.eG PySem.boot_len (aa (pv 2) ae)) ai) ai)))
   (af (bv (i:=5) cj.nd rfl (by walk_at "o") (c8 ae))
   (af (gF PassesOwn.never rfl (d6 (by rfl) T.i6 (aa ai ae)) (ao (i:=6) cj.nd rfl (by walk_at "o")) (vh (eF (aW tj (aF cC (pv 4) (aF b7 (aH (aN (K:=K) rfl) (by rfl) T.eG PySem.boot_len (aa (pv 2) ae)) ai)) ai (bf _)) (ak (bN (cB (K:=K) rfl PySem.F.plainAttrs_list PySem.F.slot_list_append PySem.F.type_list_append d9 (pv 5) (aa (bw (aO (K:=K) rfl) (pv 2) (aF Gp (aF cC (pv 4) (aF b7 (aH (aN (K:=K) rfl) (by rfl) T.eG PySem.boot_len (aa (pv 2) ae)) ai)) ai) (fun _ _=>rfl)) ae)))) bB)
   (ak (bv (i:=4) cj.nd rfl (by walk_at "o") (aF EE (pv 4) (aF b7 (aH (aN (K:=K) rfl) (by rfl) T.eG PySem.boot_len (aa (pv 2) ae)) ai))))))
   (ak (br (pv 5)))))) bB)
   (af (bv (i:=7) cj.nd rfl (by walk_at "o") (aF cC (au aZ (hr.mono (by decide)) (by rfl) T.bj T.bi T.bd .nil aL (aa (pv 0) (aa (pv 1) ae))) ai))
   (ak (br (bO (osc:=ad ca) (ON:=["_law_cell_here","_law_start","_law_names","_law_digits","_law_left","_law_found","_law_k","_law_many"]) (N:=["_law_k","_law_names","_law_cell_here","_law_start"]) (n:=1) (fx:=[2,0,1]) rfl rfl rfl (by decide +kernel) (d6 (by rfl) T.i6 (aa (pv 7) ae)) (aA (by decide)) (fun _ _ _ _ _=>⟨(ao (i:=0) (show List.Nodup (["_law_k","_law_names","_law_cell_here","_law_start"]:List Str) from by decide +kernel) rfl (by walk_at "o")),(fL (aW (qL (K:=K) rfl hu1) (pv 1) (c8 ae) (bf _))),(bw (aO (K:=K) rfl) (pv 1) (aF cC (au aZ (hr.mono (by decide)) (by rfl) T.bj T.bi T.bd .nil aL (aa (pv 2) (aa (aF b7 (aF b7 (pv 3) ai) (pv 0)) ae))) (aH (aN (K:=K) rfl) (by rfl) T.eG PySem.boot_len (aa (pv 1) ae))) (fun _ _=>rfl))⟩))))))),aQ (σ':=[some _,some _,some _,some _,none,none,none,none]) rfl ?_⟩
  have hpow:(0:Int) < ((((zs.map V.str).length:Nat):Int) + 1) ^ (4:Int).toNat:=Int.pow_pos (by omega)
  have hn1:(0:Int) < (((zs.map V.str).length:Nat):Int) + 1:=by omega
  walk_at "l2"
  cases dg with
  | true=>
    walk_at "l2"
    generalize c % ((((zs.map V.str).length:Nat):Int) + 1) ^ (4:Int).toNat=left
    clear hpow
    intro D H1 f1 s1 e1
    have hl1:=s1.get hl
    walk_at "l2"
    refine nX (fun i σ H'=>∃ (v:Option V) (left:Int) (ws:List Str),σ=[some (V.int c),some (V.int st),some (V.ref l),some (V.bl true),some (V.int left),some (V.ref D),v,none]∧Same H H'∧H' D=some (.lst (ws.map V.str))∧ws.length≤i∧∀ w∈ws,w∈zs) ⟨none,left,[],rfl,s1,e1,Nat.le_refl _,fun _ h=>absurd h (by simp)⟩ ?_ ?_
    ·rintro i σ H' hi ⟨v,left,ws,rfl,s',eD,lw,hw⟩
     have hl':=s'.get hl
     have hi4:i < 4:=hi
     walk_at "l2"
     refine Et (fun σ H2=>∃ ws':List Str,σ=[some (V.int c),some (V.int st),some (V.ref l),some (V.bl true),some (V.int left),some (V.ref D),some (V.int (0 + (i:Int))),none]∧Same H H2∧H2 D=some (.lst (ws'.map V.str))∧ws'.length≤i + 1∧∀ w∈ws',w∈zs) ?_ ?_
     ·have r0:=Int.emod_nonneg left (Int.ne_of_gt hn1)
      have r1:=Int.emod_lt_of_pos left hn1
      walk_at "l2"
      by_cases hr0:0 < left % ((((zs.map V.str).length:Nat):Int) + 1)
      ·refine j7 (decide_eq_true hr0) ?_
       obtain ⟨j,hj⟩:=Int.eq_ofNat_of_zero_le (show 0≤left % ((((zs.map V.str).length:Nat):Int) + 1) - 1 by omega)
       have hjl:j < zs.length:=by omega
       have hat:atI (zs.map V.str) (left % ((((zs.map V.str).length:Nat):Int) + 1) - 1)=some (.str zs[j]):=by
        rw [hj]
        exact cW (by rw [List.getElem?_map,List.getElem?_eq_getElem hjl];rfl)
       walk_at "l2"
       refine eJ eD (by rw [List.length_map,sizeLine_eq];omega) fun H3 u3=>?_
       walk_at "l2"
       refine ⟨ws++[zs[j]],rfl,fun b o e=>u3.oth _ _ (ah e f1) (s'.get e),by rw [u3.at',List.map_append];rfl,by rw [List.length_append];show _ + 1≤_;omega,fun w hw'=>?_⟩
       rcases List.mem_append.mp hw' with h | h
       ·exact hw w h
       ·rw [List.mem_singleton.mp h];exact List.getElem_mem hjl
      ·refine fJ (decide_eq_false hr0) ?_
       walk_at "l2"
       exact ⟨ws,rfl,s',eD,by omega,hw⟩
     ·rintro σ H2 ⟨ws',rfl,s2,eD2,lw',hw'⟩
      have hl2:=s2.get hl
      walk_at "l2"
      exact ⟨_,_,ws',rfl,s2,eD2,lw',hw'⟩
    ·rintro σ H' ⟨v,left,ws,rfl,s',eD,lw,hw⟩
     walk_at "l2"
     exact q D H' ws f1 s' eD lw hw
  | false=>
    have m0:=Int.emod_nonneg (mixV c st) (show (5:Int)≠0 by decide)
    have m1:=Int.emod_lt_of_pos (mixV c st) (show (0:Int) < 5 by decide)
    walk_at "l2"
    intro D hD
    refine im (fun i ys H'=>∃ ws:List Str,ys=ws.map V.str∧Same H H'∧H' D=some (.lst ys)∧ws.length≤i∧∀ w∈ws,w∈zs) ⟨[],rfl,a9 hD,al,Nat.le_refl _,fun _ h=>absurd h (by simp)⟩ ?_ ?_
    ·rintro i ys H' hi ⟨ws,rfl,s',eD,lw,hw⟩
     have hl':=s'.get hl
     walk_at "l2"
     intro L2 H2 f2 s2 e2
     have hl2:=s2.get hl'
     have eD2:=s2.get eD
     refine yn (qD hl2) (qD (ws:=[]) e2) (by rw [depD,wA];decide) ?_
     rw [show (List.map Dt.str [])=[] from rfl,xK]
     by_cases hz:zs=[]
     ·rw [decide_eq_true hz]
      walk_at "l2"
      exact ⟨s'.trans s2,eD2,by omega,hw⟩
     ·rw [decide_eq_false hz]
      have hzl:0 < zs.length:=List.length_pos_iff.mpr hz
      have hzp:(0:Int) < (((zs.map V.str).length:Nat):Int):=by omega
      walk_at "l2"
      obtain ⟨j,hj,hjl⟩:=fU (c:=mixV c (st + 1 + (0 + (i:Int)))) hzp
      have hjl:j < zs.length:=by omega
      have hat:atI (zs.map V.str) (mixV c (st + 1 + (0 + (i:Int))) % (((zs.map V.str).length:Nat):Int))=some (.str zs[j]):=by
       rw [hj]
       exact cW (by rw [List.getElem?_map,List.getElem?_eq_getElem hjl];rfl)
      walk_at "l2"
      refine ⟨eD2,by rw [List.length_map];exact aE (by omega),ws++[zs[j]],by rw [List.map_append];rfl,fun b o e=>?_,al,by rw [List.length_append];show _ + 1≤_;omega,fun w hw'=>?_⟩
      ·rw [aq (ah e hD)];exact s2.get (s'.get e)
      ·rcases List.mem_append.mp hw' with h | h
       ·exact hw w h
       ·rw [List.mem_singleton.mp h];exact List.getElem_mem hjl
    ·rintro ys H' ⟨ws,rfl,s',eD,lw,hw⟩
     exact q D H' ws hD s' eD (by omega) hw
end
section
variable {P:Program} {w:World} {K:PySem.W.Frag} {mg:Str→Option Value} {base:Heap} {a:Ad}
theorem rU {H:Hp} {Q:VK} {E:XK} {c k:Int} (h0:0≤k) (h1:k < 40) (q:∀ H2,Same H H2→Q (.str (nmf c k)) H2):pR [.int c,.int k] H Q E:=⟨c,k,rfl,h0,h1,q⟩
local macro_rules | `(tactic| walk_at "l2step") =>`(tactic| first | (with_reducible refine dn ?_) | ((with_reducible refine' BB ?a ?b ?_);(case a=>omega);(case b=>omega)) | ((with_reducible refine' rY ?e ?a ?_);(case e=>walk_at "l2hp");(case a=>walk_at "l2side")))
theorem vx (T:Tx K mg a):FnOk P w K mg base CX0 3 a.cy a.kC ["_law_script","_law_start","_law_most"] (Ai K):=by
 have ge:=@kZ P w K mg base a T
 have aZ:=@fN P w K mg base a T
 have gc:=@tz P w K mg base a T
 have uO:=@qO P w K mg base a T
 refine T.iz.ok aI (fun vs H Q E h=>?_) (fun cdv A outer s H vs Q E hr h=>?_)
 ·obtain ⟨p,ns,st,mo,rfl,_⟩:=h;rfl
 ·obtain ⟨p,ns,st,mo,rfl,hS,hst,hmo,q⟩:=h
  have hu1:=qC hr
  refine ⟨_,((af (bv (i:=3) aI.nd rfl (by walk_at "o") (au ge (hr.mono (by decide)) (by rfl) T.i9 T.i8 T.eA .nil aL (aa (pv 0) (aa (pv 1) ae))))
   (af (bv (i:=4) aI.nd rfl (by walk_at "o") (c8 (aa (aF cC (au aZ (hr.mono (by decide)) (by rfl) T.bj T.bi T.bd .nil aL (aa (pv 3) (aa ai ae))) ai) (aa (aF cC (au aZ (hr.mono (by decide)) (by rfl) T.bj T.bi T.bd .nil aL (aa (pv 3) (aa ai ae))) (aF b7 (pv 2) ai)) (aa (aF cC (au aZ (hr.mono (by decide)) (by rfl) T.bj T.bi T.bd .nil aL (aa (pv 3) (aa ai ae))) (aF b7 (pv 2) ai)) ae)))))
   (af (cO (osc:=ad cq) (ON:=["_law_script","_law_start","_law_most","_law_cell_here","_law_sizes","_law_ins","_law_stores","_law_known","_law_sums","_law_k","_law_wires_here","_law_at","_law_ends","_law_name_here","_law_outs"]) (N:=["_law_k","_law_cell_here"]) (n:=1) (fx:=[3]) (i:=5) aI.nd rfl rfl rfl rfl rfl rfl (by decide +kernel) (d6 (by rfl) T.i6 (aa (bw (aO (K:=K) rfl) (pv 4) ai (fun _ _=>rfl)) ae)) (aA (by decide)) (fun _ _ _ _ _=>⟨(ao (i:=0) (show List.Nodup (["_law_k","_law_cell_here"]:List Str) from by decide +kernel) rfl (by walk_at "o")),bg,(au gc (hr.mono (by decide)) (by rfl) T.fS T.fR T.dj .nil aL (aa (pv 1) (aa (pv 0) ae)))⟩))
   (af (cO (osc:=ad cq) (ON:=["_law_script","_law_start","_law_most","_law_cell_here","_law_sizes","_law_ins","_law_stores","_law_known","_law_sums","_law_k","_law_wires_here","_law_at","_law_ends","_law_name_here","_law_outs"]) (N:=["_law_k","_law_cell_here"]) (n:=1) (fx:=[3]) (i:=6) aI.nd rfl rfl rfl rfl rfl rfl (by decide +kernel) (d6 (by rfl) T.i6 (aa (bw (aO (K:=K) rfl) (pv 4) ai (fun _ _=>rfl)) ae)) (aA (by decide)) (fun _ _ _ _ _=>⟨(ao (i:=0) (show List.Nodup (["_law_k","_law_cell_here"]:List Str) from by decide +kernel) rfl (by walk_at "o")),bg,(au gc (hr.mono (by decide)) (by rfl) T.fS T.fR T.dj .nil aL (aa (pv 1) (aa (aF b7 ai (pv 0)) ae)))⟩))
   (af (bv (i:=7) aI.nd rfl (by walk_at "o") (aF jw (pv 5) (pv 6)))
   (af (bv (i:=8) aI.nd rfl (by walk_at "o") (c8 ae))
   (af (gF PassesOwn.never rfl (d6 (by rfl) T.i6 (aa (bw (aO (K:=K) rfl) (pv 4) ai (fun _ _=>rfl)) ae)) (ao (i:=9) aI.nd rfl (by walk_at "o")) (af (bv (i:=10) aI.nd rfl (by walk_at "o") (au uO (hr.mono (by decide)) (by rfl) T.t4 T.tZ T.h7 .nil aL (aa (au ge (hr.mono (by decide)) (by rfl) T.i9 T.i8 T.eA .nil aL (aa (pv 0) (aa (aF b7 (aF b7 (pv 1) ai) (pv 9)) ae))) (aa ai (aa (pv 7) (aa (fM jv (aF cC (pv 3) ai) ai (bf _)) ae))))))
   (af (bN (cB (K:=K) rfl PySem.F.plainAttrs_list PySem.F.slot_list_append PySem.F.type_list_append d9 (pv 8) (aa (fq (aa (au gc (hr.mono (by decide)) (by rfl) T.fS T.fR T.dj .nil aL (aa (pv 3) (aa (aF b7 ai (pv 9)) ae))) (aa (pv 10) ae))) ae)))
   (ak (bv (i:=7) aI.nd rfl (by walk_at "o") (aF jw (pv 7) (c8 (aa (au gc (hr.mono (by decide)) (by rfl) T.fS T.fR T.dj .nil aL (aa (pv 3) (aa (aF b7 ai (pv 9)) ae))) ae))))))))
   (af (bv (i:=11) aI.nd rfl (by walk_at "o") (aF cC (au aZ (hr.mono (by decide)) (by rfl) T.bj T.bi T.bd .nil aL (aa (pv 3) (aa ai ae))) (aF b7 (aH (aN (K:=K) rfl) (by rfl) T.eG PySem.boot_len (aa (pv 8) ae)) ai)))
   (af (bv (i:=8) aI.nd rfl (by walk_at "o") (aF jw (mD (mB (K:=K) rfl) (pv 8) (qE (pv 11)) qF) (yv (by rfl) (by rfl) T.gq T.yN rfl (mD (mB (K:=K) rfl) (pv 8) qF (qE (pv 11))))))
   (af (bv (i:=12) aI.nd rfl (by walk_at "o") (c8 ae))
   (af (gF PassesOwn.never rfl (qJ (K:=K) rfl (by rfl) T.fP (pv 6)) (sU rfl (bA (ao (i:=9) aI.nd rfl (by walk_at "o")) (bA (ao (i:=13) aI.nd rfl (by walk_at "o")) gH))) (ak (bN (cB (K:=K) rfl PySem.F.plainAttrs_list PySem.F.slot_list_append PySem.F.type_list_append d9 (pv 12) (aa (fq (aa (pv 13) (aa (bw (aO (K:=K) rfl) (pv 7) (aF cC (au aZ (hr.mono (by decide)) (by rfl) T.bj T.bi T.bd .nil aL (aa (pv 3) (aa (aF b7 ai (pv 9)) ae))) (aH (aN (K:=K) rfl) (by rfl) T.eG PySem.boot_len (aa (pv 7) ae))) (fun _ _=>rfl)) ae))) ae)))))
   (af (bv (i:=14) aI.nd rfl (by walk_at "o") (c8 ae))
   (vh (eF (aW (qL (K:=K) rfl hu1) (pv 7) (c8 ae) (bf _)) (ak (cO (osc:=ad cq) (ON:=["_law_script","_law_start","_law_most","_law_cell_here","_law_sizes","_law_ins","_law_stores","_law_known","_law_sums","_law_k","_law_wires_here","_law_at","_law_ends","_law_name_here","_law_outs"]) (N:=["_law_k","_law_known","_law_cell_here"]) (n:=1) (fx:=[7,3]) (i:=14) aI.nd rfl rfl rfl rfl rfl rfl (by decide +kernel) (d6 (by rfl) T.i6 (aa (aF cC (au aZ (hr.mono (by decide)) (by rfl) T.bj T.bi T.bd .nil aL (aa (pv 3) (aa ai ae))) ai) ae)) (aA (by decide)) (fun _ _ _ _ _=>⟨(ao (i:=0) (show List.Nodup (["_law_k","_law_known","_law_cell_here"]:List Str) from by decide +kernel) rfl (by walk_at "o")),bg,(bw (aO (K:=K) rfl) (pv 1) (aF cC (au aZ (hr.mono (by decide)) (by rfl) T.bj T.bi T.bd .nil aL (aa (pv 2) (aa (aF b7 ai (pv 0)) ae))) (aH (aN (K:=K) rfl) (by rfl) T.eG PySem.boot_len (aa (pv 1) ae))) (fun _ _=>rfl))⟩))) bB)
   (ak (br (fq (aa (pv 5) (aa (pv 8) (aa (pv 12) (aa (pv 14) ae))))))))))))))))))))),aQ (σ':=[some _,some _,some _,none,none,none,none,none,none,none,none,none,none,none,none]) rfl ?_⟩
  walk_at "l2"
  generalize cell ns ((st:Nat):Int)=c
  intro Z H1 f1 s1 e1
  obtain ⟨ni,hni,lni⟩:=fU (c:=mixV c 1) (m:=4) (by decide)
  obtain ⟨nt,hnt,lnt⟩:=fU (c:=mixV c 2) (m:=(mo:Int) + 1) (by omega)
  obtain ⟨nz,hnz,lnz⟩:=fU (c:=mixV c 3) (m:=(mo:Int) + 1) (by omega)
  rw [hni,hnt,hnz] at e1
  have hni3:ni≤3:=by omega
  have hnt6:nt≤12:=by omega
  have hnz6:nz≤12:=by omega
  have hnzo:nz≤mo:=by omega
  have hS1:=Same.seq s1 hS
  clear hni hnt hnz lni lnt lnz
  walk_at "l2"
  intro D2 hD2
  refine im (fun i ys H'=>Cs (fun i ys=>ys=(nms c 0 i).map V.str) H1 D2 i ys H') (Cs.zero hD2 rfl) (fun i ys H' hi cs=>?_) (fun ys H2 cs=>?_)
  ·have hi3:i < 3:=by omega
   walk_at "l2"
   refine rU (by omega) (by omega) fun H3 s3=>?_
   refine Cs.put hD2 (cs.same.trans s3) (s3.get cs.at') cs.len (by omega) ?_
   rw [cs.pv,jD,List.map_append,show (0:Int) + (i:Int)=((0 + i:Nat):Int) by push_cast;rfl];rfl
  ·have e2:=cs.at'
   rw [cs.pv,Int.toNat_natCast] at e2
   have s12:=cs.same
   clear cs
   have e12:=s12.get e1
   walk_at "l2"
   intro D3 hD3
   refine im (fun i ys H'=>Cs (fun i ys=>ys=(nms c 6 i).map V.str) H2 D3 i ys H') (Cs.zero hD3 rfl) (fun i ys H' hi cs=>?_) (fun ys H3 cs=>?_)
   ·have hi6:i < 12:=by omega
    walk_at "l2"
    refine rU (by omega) (by omega) fun H4 s4=>?_
    refine Cs.put hD3 (cs.same.trans s4) (s4.get cs.at') cs.len (by omega) ?_
    rw [cs.pv,jD,List.map_append,show (6:Int) + (0 + (i:Int))=((6 + i:Nat):Int) by push_cast;omega];rfl
   ·have e3:=cs.at'
    rw [cs.pv,Int.toNat_natCast] at e3
    have s23:=cs.same
    clear cs
    walk_at "l2"
    refine qA (s23.get e2) e3 (by rw [List.length_map,List.length_map,cb,cb,sizeLine_eq];omega) fun D4 H4 f4 s4 e4=>?_
    rw [← List.map_append] at e4
    have s14:=s12.trans (s23.trans s4)
    have e14:=s14.get e1
    have e24:=s4.get (s23.get e2)
    have e34:=s4.get e3
    have hS4:=Same.seq s14 hS1
    have s04:=s1.trans s14
    clear e12 hD2 hD3 f1 f4 s12 s23 s4 s14 e1 e2 e3 hS1 s1
    walk_at "l2"
    intro D5 H5 f5 s5 e5
    have e15:=s5.get e14
    have s05:=s04.trans s5
    have f50:H D5=none:=s04.free f5
    walk_at "l2"
    refine nX (fun i σ H'=>∃ (v9 v10:Option V) (Dk:Addr) (rs:List Rw),σ=[some (V.ref p),some (nat st),some (nat mo),some (V.int c),some (V.ref Z),some (V.ref D2),some (V.ref D3),some (V.ref Dk),some (V.ref D5),v9,v10,none,none,none,none]∧Same H4 H'∧H' Dk=some (.lst ((nms c 0 ni++nms c 6 nt++nms c 22 i).map V.str))∧Dk≠D5∧H' D5=some (.lst (rs.map fun r=>V.ref r.1))∧RwL H' rs∧(∀ r∈rs,r.2.1≠D5)∧Mk c ni nt (rs.map (·.2.2))∧rs.length=i) ⟨none,none,D4,[],rfl,s5,by rw [show nms c 22 0=[] from rfl,List.append_nil];exact s5.get e4,ah e4 f5,e5,fun _ h=>absurd h (by simp),fun _ h=>absurd h (by simp),Mk.nil ..,rfl⟩ ?_ ?_
    ·rintro i σ H' hi ⟨v9,v10,Dk,rs,rfl,s',ek,nk,eD,rl,nr,mk,lr⟩
     have hi6:i < 12:=by omega
     have hS':=Same.seq s' hS4
     walk_at "l2"
     refine ⟨_,10,Dk,_,_,rfl,by decide,by decide,ek,by rw [List.length_append,List.length_append,cb,cb,cb];omega,fun Dw H6 ws f6 s6 e6 l4 hw=>?_⟩
     have eD6:=s6.get eD
     walk_at "l2"
     refine rU (by omega) (by omega) fun H7 s7=>?_
     walk_at "l2"
     intro tr H8 f8 s8 e8
     have s78:=s7.trans s8
     have eD8:=s78.get eD6
     have ek8:=s78.get (s6.get ek)
     have ew8:=s78.get e6
     walk_at "l2"
     refine eJ eD8 (by rw [List.length_map,sizeLine_eq];omega) fun H9 u9=>?_
     have nw:Dw≠D5:=(ah eD f6).symm
     have s'9:Same H4 H9:=fun b o e=>u9.oth _ _ (ah e f5) (s78.get (s6.get (s'.get e)))
     have ek9:=u9.oth _ _ nk ek8
     have et9:=u9.oth _ _ (fz e8 eD8 fun z=>by cases z) e8
     have ew9:=u9.oth _ _ nw ew8
     have rl9:RwL H9 rs:=fun r hr=>⟨u9.oth _ _ (fz ((rl.same s6).same s78 r hr).1 eD8 fun z=>by cases z) ((rl.same s6).same s78 r hr).1,u9.oth _ _ (nr r hr) ((rl.same s6).same s78 r hr).2⟩
     have eD9:=u9.at'
     clear u9 e8 ew8 ek8 eD8 s78 s7 s8 f8 eD6 e6 hS'
     walk_at "l2"
     refine rU (by omega) (by omega) fun H10 s10=>?_
     walk_at "l2"
     intro D11 H11 f11 s11 e11
     have s911:=s10.trans s11
     refine qA (s911.get ek9) e11 (by rw [List.length_map,List.length_append,List.length_append,cb,cb,cb,sizeLine_eq];show _ + 1≤_;omega) fun D12 H12 f12 s12 e12=>?_
     have s912:=s911.trans s12
     have ei:(22:Int) + (0 + (i:Int))=((22 + i:Nat):Int):=by push_cast;omega
     rw [ei] at e12 et9
     have ekn:(nms c 0 ni++nms c 6 nt++nms c 22 i).map V.str++[V.str (nmf c ((22 + i:Nat):Int))]=(nms c 0 ni++nms c 6 nt++nms c 22 (i + 1)).map V.str:=by
      rw [jD,← List.append_assoc,List.map_append (l₂:=[_])];rfl
     rw [ekn] at e12
     walk_at "l2"
     refine ⟨_,_,D12,rs++[(tr,Dw,nmf c ((22 + i:Nat):Int),ws)],rfl,s'9.trans s912,e12,(ah (s911.get eD9) f12).symm,by rw [s912.get eD9,List.map_append];rfl,fun r hr=>?_,fun r hr=>?_,?_,by rw [List.length_append,lr];rfl⟩
     ·rcases List.mem_append.mp hr with h | h
      ·exact rl9.same s912 r h
      ·rw [List.mem_singleton] at h;subst h
       exact ⟨s912.get et9,s912.get ew9⟩
     ·rcases List.mem_append.mp hr with h | h
      ·exact nr r h
      ·rw [List.mem_singleton] at h;subst h;exact nw
     ·have lm:(rs.map (·.2.2)).length=i:=by rw [List.length_map,lr]
      have:=mk.put (ws:=ws) l4 (by rw [lm];exact hw)
      rw [lm] at this
      rw [List.map_append]
      exact this
    ·rintro σ H' ⟨v9,v10,Dk,rs,rfl,s',ek,nk,eD,rl,nr,mk,lr⟩
     rw [Int.toNat_natCast] at lr
     rw [Int.toNat_natCast] at ek
     have e2':=s'.get e24
     have e3':=s'.get e34
     have hS':=Same.seq s' hS4
     have s0':=s04.trans s'
     obtain ⟨j,hj,hjl⟩:=fU (c:=mixV c 4) (m:=(((rs.map fun r=>V.ref r.1).length:Nat):Int) + 1) (by omega)
     have lrm:(rs.map fun r=>V.ref r.1).length=rs.length:=List.length_map ..
     have hjr:j≤rs.length:=by omega
     clear e14 e24 e34 e4 e5 hS4 s04 s05 s5 f5 f50 e15
     walk_at "l2"
     rw [hj]
     intro D6 H6 f6 s6 e6
     rw [mF _ j (by rw [lrm];exact hjr),← List.map_drop] at e6
     have eD6:=s6.get eD
     walk_at "l2"
     refine FL ?_
     walk_at "l2"
     intro D7 H7 f7 s7 e7
     rw [C8 _ j (by rw [lrm];exact hjr),← List.map_take] at e7
     refine ⟨D7,_,rfl,SqL.of e7,fun D8 f8=>?_⟩
     rw [← List.map_reverse]
     have s8:=a9 (o:=HO.lst ((rs.take j).reverse.map fun r=>V.ref r.1)) f8
     have e8:upd H7 D8 (HO.lst ((rs.take j).reverse.map fun r=>V.ref r.1)) D8=some (HO.lst ((rs.take j).reverse.map fun r=>V.ref r.1)):=al
     generalize upd H7 D8 (HO.lst ((rs.take j).reverse.map fun r=>V.ref r.1))=H8 at s8 e8 ⊢
     refine qA (s8.get (s7.get e6)) e8 (by rw [List.length_map,List.length_map,List.length_reverse,List.length_drop,List.length_take,sizeLine_eq];omega) fun D9 H9 f9 s9 e9=>?_
     rw [← List.map_append] at e9
     have s'9:=s6.trans (s7.trans (s8.trans s9))
     have e29:=s'9.get e2'
     have e39:=s'9.get e3'
     have ek9:=s'9.get ek
     have rl9:=rl.same s'9
     have s09:=s0'.trans s'9
     have perm:(rs.drop j++(rs.take j).reverse).Perm rs:=by
      refine List.Perm.trans (List.Perm.append_left _ (List.reverse_perm _)) ?_
      refine List.Perm.trans List.perm_append_comm ?_
      rw [List.take_append_drop]
     generalize hrs':rs.drop j++(rs.take j).reverse=rs' at e9 perm
     have rl':RwL H9 rs':=fun r hr=>rl9 r (perm.mem_iff.mp hr)
     clear rl9 rl s8 e8 e7 f7 f8 s7 e6 f6 s6 s9 f9 s'9 e2' e3' eD eD6 nr nk s' s0' hS' ek hrs'
     walk_at "l2"
     intro D10 H10 f10 s10 e10
     have e310:=s10.get e39
     walk_at "l2"
     refine .inl ⟨⟨_,SqL.of e310⟩,?_⟩
     have lk:(nms c 0 ni++nms c 6 nt++nms c 22 nz).length=ni + nt + nz:=by rw [List.length_append,List.length_append,cb,cb,cb]
     generalize hkn:nms c 0 ni++nms c 6 nt++nms c 22 nz=kn at ek9 lk
     refine xI (xs:=(nms c 6 nt).map V.str) (fun i σ H'=>∃ (v9 v13:Option V) (qs:List Qs),σ=[some (V.ref p),some (nat st),some (nat mo),some (V.int c),some (V.ref Z),some (V.ref D2),some (V.ref D3),some (V.ref Dk),some (V.ref D9),v9,v10,some (V.int j),some (V.ref D10),v13,none]∧Same H9 H'∧H' D10=some (.lst (qs.map fun q=>V.ref q.1))∧QsK H' qs∧qs.map (·.2.1)=nms c 6 i∧∀ q∈qs,q.2.2∈kn) ⟨_,none,[],rfl,s10,e10,fun _ h=>absurd h (by simp),rfl,fun _ h=>absurd h (by simp)⟩ (fun i σ H' _ ⟨_,_,_,_,s',_⟩=>SqL.of (s'.get e39)) ?_ ?_
     ·rintro i y σ H' pz H7 hy ⟨v9,v13,qs,rfl,s',eq,qk,qn,qw⟩ fp s7 e7
      obtain ⟨z,hz,rfl⟩:=az hy
      have hlt:=(List.getElem?_eq_some_iff.mp hz).1
      rw [cb] at hlt
      have ez:z=nmf c ((6 + i:Nat):Int):=by
       unfold nms at hz
       rw [List.getElem?_map,List.getElem?_range hlt] at hz
       exact (Option.some.inj hz).symm
      have lq:qs.length=i:=by have:=congrArg List.length qn;rw [List.length_map,cb] at this;exact this
      have ek7:=s7.get (s'.get ek9)
      have elen:(kn.map V.str).length=ni + nt + nz:=by rw [List.length_map,lk]
      have eq7:=s7.get eq
      walk_at "l2"
      obtain ⟨m,hm,hml⟩:=fU (c:=mixV c (50 + (i:Int))) (m:=(((kn.map V.str).length:Nat):Int)) (by omega)
      have hml:m < kn.length:=by rw [List.length_map] at hml;omega
      have hat:atI (kn.map V.str) (mixV c (50 + (i:Int)) % (((kn.map V.str).length:Nat):Int))=some (.str kn[m]):=by
       rw [hm]
       exact cW (by rw [List.getElem?_map,List.getElem?_eq_getElem hml];rfl)
      walk_at "l2"
      intro tq H8 f8 s8 e8
      walk_at "l2"
      refine eJ (s8.get eq7) (by rw [List.length_map,sizeLine_eq];omega) fun H9' u9=>?_
      walk_at "l2"
      refine ⟨_,_,qs++[(tq,z,kn[m])],rfl,fun b o e=>u9.oth _ _ (ah e f10) (s8.get (s7.get (s'.get e))),by rw [u9.at',List.map_append];rfl,?_,?_,fun q' hq'=>?_⟩
      ·intro q' hq'
       rcases List.mem_append.mp hq' with h | h
       ·exact ((qk.same s7).same s8).updL (s8.get eq7) u9.oth q' h
       ·rw [List.mem_singleton] at h;subst h
        exact u9.oth _ _ (fz e8 (s8.get eq7) fun z=>by cases z) e8
      ·rw [List.map_append,qn,jD,ez];rfl
      ·rcases List.mem_append.mp hq' with h | h
       ·exact qw q' h
       ·rw [List.mem_singleton] at h;subst h;exact List.getElem_mem hml
     ·rintro σ H' ⟨v9,v13,qs,rfl,s',eq,qk,qn,qw⟩
      rw [List.length_map,cb] at qn
      have ek':=s'.get ek9
      have e2':=s'.get e29
      have e9':=s'.get e9
      have rl2:=rl'.same s'
      walk_at "l2"
      intro D11 H11 f11 s11 e11
      walk_at "l2"
      refine Et (fun σ H2=>∃ (Do:Addr) (outs:List Str),σ=[some (V.ref p),some (nat st),some (nat mo),some (V.int c),some (V.ref Z),some (V.ref D2),some (V.ref D3),some (V.ref Dk),some (V.ref D9),v9,v10,some (V.int j),some (V.ref D10),v13,some (V.ref Do)]∧Same H' H2∧H2 Do=some (.lst (outs.map V.str))∧outs.length≤3∧∀ z∈outs,z∈kn) ?_ ?_
      ·have ek11:=s11.get ek'
       walk_at "l2"
       intro L12 H12 f12 s12 e12
       have ek12:=s12.get ek11
       refine yn (qD ek12) (qD (ws:=[]) e12) (by rw [depD,wA];decide) ?_
       rw [show (List.map Dt.str [])=[] from rfl,xK]
       have s'12:=s11.trans s12
       have e1112:=s12.get e11
       by_cases hz:kn=[]
       ·rw [decide_eq_true hz]
        walk_at "l2"
        exact ⟨D11,[],rfl,s'12,e1112,Nat.zero_le _,fun _ h=>absurd h (by simp)⟩
       ·rw [decide_eq_false hz]
        have m0:=Int.emod_nonneg (mixV c 5) (show (4:Int)≠0 by decide)
        have m1:=Int.emod_lt_of_pos (mixV c 5) (show (0:Int) < 4 by decide)
        have hzl:1≤kn.length:=List.length_pos_iff.mpr hz
        have elen:(kn.map V.str).length=kn.length:=List.length_map ..
        walk_at "l2"
        intro D13 hD13
        refine im (fun i ys H2=>∃ ws:List Str,ys=ws.map V.str∧Same H12 H2∧H2 D13=some (.lst ys)∧ws.length=i∧∀ w∈ws,w∈kn) ⟨[],rfl,a9 hD13,al,rfl,fun _ h=>absurd h (by simp)⟩ ?_ ?_
        ·rintro i ys H2 hi ⟨ws,rfl,s2,eD,lw,hw⟩
         have ek2:=s2.get ek12
         have hi4:i < 4:=by omega
         walk_at "l2"
         obtain ⟨m,hm,hml⟩:=fU (c:=mixV c (80 + (0 + (i:Int)))) (m:=(((kn.map V.str).length:Nat):Int)) (by omega)
         have hml:m < kn.length:=by omega
         have hat:atI (kn.map V.str) (mixV c (80 + (0 + (i:Int))) % (((kn.map V.str).length:Nat):Int))=some (.str kn[m]):=by
          rw [hm]
          exact cW (by rw [List.getElem?_map,List.getElem?_eq_getElem hml];rfl)
         walk_at "l2"
         refine ⟨eD,by rw [List.length_map];exact aE (by omega),ws++[kn[m]],by rw [List.map_append];rfl,fun b o e=>?_,al,by rw [List.length_append,lw];rfl,fun w hw'=>?_⟩
         ·rw [aq (ah e hD13)];exact s2.get e
         ·rcases List.mem_append.mp hw' with h | h
          ·exact hw w h
          ·rw [List.mem_singleton.mp h];exact List.getElem_mem hml
        ·rintro ys H2 ⟨ws,rfl,s2,eD,lw,hw⟩
         walk_at "l2"
         exact ⟨D13,ws,rfl,s'12.trans s2,eD,by omega,hw⟩
      ·rintro σ H12 ⟨Do,outs,rfl,s12,e12,lo,ho⟩
       have e212:=s12.get e2'
       walk_at "l2"
       intro tt H13 f13 s13 e13
       have s'13:=s12.trans s13
       have hzl:(rs.map (·.2.2)).length=nz:=by rw [List.length_map,lr]
       subst hkn
       refine q tt D2 D9 D10 Do H13 rs' qs ⟨nms c 0 ni,rs'.map (·.2.2),qs.map (·.2),outs⟩ (s09.trans (s'.trans s'13)) e13 ⟨s13.get e212,s'13.get e9',fun r hr=>rl2.same s'13 r hr,rfl,s'13.get eq,fun q' hq'=>qk.same s'13 q' hq',rfl,s13.get e12⟩ (AR mk hni3 hnt6 (by rw [hzl];exact hnz6) (perm.map _) (by rw [List.map_map];exact qn) (by omega) (fun q' hq'=>?_) (by rw [hzl];exact ho)) (by show (nms c 0 ni).length≤3;rw [cb];exact hni3) (by show (rs'.map (·.2.2)).length≤mo;rw [(perm.map _).length_eq,hzl];exact hnzo)
       obtain ⟨q'',hq'',rfl⟩:=List.mem_map.mp hq'
       rw [hzl]
       exact qw q'' hq''
end
section
variable {P:Program} {w:World} {K:PySem.W.Frag} {mg:Str→Option Value} {base:Heap} {a:Ad}
theorem kb (T:Tx K mg a):FnOk P w K mg base CX0 1 a.cS a.oi ["thing"] (Af K):=by
 refine T.jY.ok yl (fun vs H Q E h=>?_) (fun cdv A outer s H vs Q E hr h=>?_)
 ·obtain ⟨x,k,rfl,_⟩:=h;rfl
 ·obtain ⟨x,k,rfl,hk,hz,q⟩:=h
  have q0:=q H (Same.refl H)
  refine ⟨_,((af (eF (PW.pt (vg (pZ (jp (aH (uv (K:=K) rfl) (by rfl) T.k7 PyProof.Rows.boot_isinstance (aa (pv 0) (aa (AF (v:= .ty "str") (by rfl) T.EI PyProof.Rows.boot_str rfl) ae))))) (vg (aW jv (pv 0) aV (bf _)) (sP (aW tj (aH (aN (K:=K) rfl) (by rfl) T.eG PySem.boot_len (aa (pv 0) ae)) (gI (v:= .int 6) (by rfl) T.pA ⟨_,rfl⟩) (bf _)))))) (ak (br yw)) bB)
   (ak (br (p4 (fM tf (bw DL (pv 0) ai (fun _ _=>rfl)) (gI (v:= .str "abcdefghijklmnopqrstuvwxyz") (by rfl) T.Bl ⟨_,rfl⟩) (by rfl)) (xy (aH (ux (K:=K) rfl rfl) (by rfl) T.Gz PyProof.Rows.boot_all (aa (bO (osc:=ad dZ) (ON:=["thing"]) (N:=["sign"]) (n:=1) (fx:=[]) rfl rfl rfl (by decide +kernel) (Gi (pv 0)) (aA (by decide)) (fun _ _ _ _ _=>⟨(ao (i:=0) (show List.Nodup (["sign"]:List Str) from by decide +kernel) rfl (by walk_at "o")),bg,(fM tf (pv 0) (gI (v:= .str "abcdefghijklmnopqrstuvwxyz0123456789") (by rfl) T.t7 ⟨_,rfl⟩) (by rfl))⟩)) ae)))))))),aQ (σ':=[some _]) rfl ?_⟩
  walk_at "l2"
  cases x with
  | int i=>have hk:k="int":=hk;subst hk;walk_at "l2";exact q0
  | bl b=>have hk:k="bool":=hk;subst hk;walk_at "l2";exact q0
  | non=>have hk:k="NoneType":=hk;subst hk;walk_at "l2";exact q0
  | ref p=>rcases hk with ⟨rfl,_⟩ | ⟨rfl,_⟩ | ⟨rfl,_⟩<;>walk_at "l2"<;>exact q0
  | str z=>
    have hk:k="str":=hk
    subst hk
    have hz:=hz z rfl
    have hs:z.length≤sizeLine:=Nat.le_of_lt (aE hz)
    have q:∀ H',Same H H'→Q (.bl (nm z.cps.toList)) H':=q
    have q0:=q H (Same.refl H)
    walk_at "l2"
    by_cases h1:z=""
    ·rw [uV.mp h1] at q0
     refine j7 (by rw [decide_eq_true];rw [h1]) ?_
     walk_at "l2"
     exact q0
    ·refine fJ (by rw [decide_eq_false];exact fun z=>h1 (V.str.inj z)) ?_
     walk_at "l2"
     obtain ⟨c,r,hcr⟩:∃ c r,z.cps.toList=c::r:=by
      cases hl:z.cps.toList with
      | nil=>exact absurd (uV.mpr hl) h1
      | cons c r=>exact ⟨c,r,rfl⟩
     have hlen:=ii z
     rw [hcr] at q0 hlen
     have q:∀ H',Same H H'→Q (.bl (decide ((c::r).length≤6)&&low c&&(c::r).all fun c=>low c||fig c)) H':=fun H' s=>by have:=q H' s;rw [hcr] at this;exact this
     by_cases h2:(6:Int) < z.length
     ·refine j7 (decide_eq_true h2) ?_
      walk_at "l2"
      have:=q H (Same.refl H)
      rw [decide_eq_false (show ¬ (c::r).length≤6 by omega)] at this
      exact this
     ·refine fJ (decide_eq_false h2) ?_
      rw [decide_eq_true (show (c::r).length≤6 by omega)] at q
      walk_at "l2"
      refine FU hs (c:=c) (by rw [hcr];exact cW (j:=0) rfl) ?_
      walk_at "l2"
      rw [StrLaws.found_one,memL]
      cases hlo:low c
      ·rw [hlo] at q
       walk_at "l2"
       exact q H (Same.refl H)
      ·rw [hlo] at q
       walk_at "l2"
       intro D f
       refine Da (Cs (fun i ys=>ys=(((c::r).take i).map fun c=>low c||fig c).map V.bl) H D) (Cs.zero f rfl) (fun i d ys H' hd ⟨e,s,at',len⟩=>?_) (fun ys H' ⟨e,s,at',len⟩=>?_)
       ·have hi:i < z.cps.size:=(Array.getElem?_eq_some_iff.mp hd).1
        have hd':(c::r)[i]? =some d:=by rw [← hcr];simpa using hd
        walk_at "l2"
        rw [StrLaws.found_one,memN]
        refine Cs.put f s at' len (by have:z.cps.size=z.length:=rfl;omega) ?_
        rw [e,List.take_succ,hd',List.map_append,List.map_append];rfl
       ·have hsz:z.cps.size=(c::r).length:=hlen.symm
        rw [hsz,List.take_length] at e
        refine Ar (SqL.of (by rw [at',e])) ?_
        have:=q H' s
        rw [List.all_map]
        exact this
  | _=>exact False.elim hk
theorem dG (T:Tx K mg a):FnOk P w K mg base CX0 1 a.aR a.bz ["self","name"] (Ch K):=by
 refine T.cZ.ok lC (fun vs H Q E h=>?_) (fun cdv A outer s H vs Q E hr h=>?_)
 ·obtain ⟨x,C,dx,nm,rfl,_⟩:=h;rfl
 ·obtain ⟨x,C,dx,nm,rfl,hc,hn,hx,q⟩:=h
  refine ⟨_,((ak (d5 (K:=K) rfl (pv 0) (pv 1) rfl))),aQ (σ':=[some _,some _]) rfl ?_⟩
  walk_at "l2"
  exact dY hx hc hn (by decide) rfl q
theorem jx (T:Tx K mg a):FnOk P w K mg base CX0 2 a.ax a.di ["self","name","number"] (Cg a.am):=by
 have ci:=@dG P w K mg base a T
 refine T.cA.ok jo (fun vs H Q E h=>?_) (fun cdv A outer s H vs Q E hr h=>?_)
 ·obtain ⟨x,dx,nm,k,rfl,_⟩:=h;rfl
 ·obtain ⟨x,dx,nm,k,rfl,hx,q⟩:=h
  refine ⟨_,((af (bN (mY (by rfl) T.Bj T.bz ci (hr.mono (by decide)) T.cf .nil aL (aa (pv 0) (aa (pv 1) ae))))
   (ak (d5 (K:=K) rfl (pv 0) (pv 2) rfl)))),aQ (σ':=[some _,some _,some _]) rfl ?_⟩
  walk_at "l2"
  refine ⟨x,_,dx,nm,rfl,T.su,T.jG,hx,fun H2 u=>?_⟩
  walk_at "l2"
  exact dY u.at' T.su T.nE (by show 1 < 1000;decide) rfl fun H3 u3=>q H3 (u.trans u3)
theorem gK (T:Tx K mg a):FnOk P w K mg base CX0 2 a.av a.cE ["self","name","wire","number"] (Cf a.ag):=by
 have ci:=@dG P w K mg base a T
 refine T.bI.ok gD (fun vs H Q E h=>?_) (fun cdv A outer s H vs Q E hr h=>?_)
 ·obtain ⟨x,dx,nm,w,k,rfl,_⟩:=h;rfl
 ·obtain ⟨x,dx,nm,wr,k,rfl,hx,q⟩:=h
  refine ⟨_,((af (bN (mY (by rfl) T.Bj T.bz ci (hr.mono (by decide)) T.cf .nil aL (aa (pv 0) (aa (pv 1) ae))))
   (af (d5 (K:=K) rfl (pv 0) (pv 2) rfl)
   (ak (d5 (K:=K) rfl (pv 0) (pv 3) rfl))))),aQ (σ':=[some _,some _,some _,some _]) rfl ?_⟩
  walk_at "l2"
  refine ⟨x,_,dx,nm,rfl,T.gl,T.gt,hx,fun H2 u=>?_⟩
  walk_at "l2"
  refine dY u.at' T.gl T.lZ (by show 1 < 1000;decide) rfl fun H3 u3=>?_
  walk_at "l2"
  exact dY u3.at' T.gl T.jE (by show 2 < 1000;decide) rfl fun H4 u4=>q H4 ((u.trans u3).trans u4)
theorem iX (T:Tx K mg a):FnOk P w K mg base CX0 2 a.aw a.cT ["self","name","wires"] (Ak K a.aj):=by
 have ci:=@dG P w K mg base a T
 refine T.b8.ok iU (fun vs H Q E h=>?_) (fun cdv A outer s H vs Q E hr h=>?_)
 ·obtain ⟨x,dx,nm,tw,ws,rfl,_⟩:=h;rfl
 ·obtain ⟨x,dx,nm,tw,ws,rfl,hw,hx,q⟩:=h
  have hne:tw≠x:=fz hw hx fun z=>by cases z
  refine ⟨_,((af (bN (mY (by rfl) T.Bj T.bz ci (hr.mono (by decide)) T.cf .nil aL (aa (pv 0) (aa (pv 1) ae))))
   (ak (d5 (K:=K) rfl (pv 0) (aM (cc (K:=K) rfl) (by rfl) T.gT PyProof.Rows.boot_tuple (aa (pv 2) ae)) rfl)))),aQ (σ':=[some _,some _,some _]) rfl ?_⟩
  walk_at "l2"
  refine ⟨x,_,dx,nm,rfl,T.oP,T.iJ,hx,fun H2 u=>?_⟩
  have hw2:=u.oth _ _ hne hw
  walk_at "l2"
  exact dY u.at' T.oP T.nA (by show 1 < 1000;decide) rfl fun H4 u4=>q H4 (u.trans u4)
end
section
variable {P:Program} {w:World} {K:PySem.W.Frag} {mg:Str→Option Value} {base:Heap} {a:Ad}
local macro_rules | `(tactic| walk_at "l2step") =>`(tactic| first | ((with_reducible refine' c_whole ?e ?_);(case e=>walk_at "l2kind")) | ((with_reducible refine' c_mask ?e ?_);(case e=>walk_at "l2kind")) | (with_reducible refine dn ?_) | (with_reducible refine s_methX ?_))
theorem oZ (T:Tx K mg a):FnOk P w K mg base CX0 1 a.bp a.fW ["ins","sums","stores","outs"] Am:=by
 refine T.dO.ok oU (fun vs H Q E h=>?_) (fun cdv A outer s H vs Q E hr h=>?_)
 ·obtain ⟨i,s,t,o,rs,qs,N,rfl,_⟩:=h;rfl
 ·obtain ⟨i,s,t,o,rs,qs,N,rfl,hn,g,q⟩:=h
  have hi:=hn.i
  have hs:=hn.s
  have ht:=hn.t
  have ho:=hn.o
  have li:=g.li
  have ls:=g.ls
  have lt:=g.lt
  have lo:=g.lo
  have lrs:rs.length=N.sums.length:=by rw [← hn.es,List.length_map]
  have lqs:qs.length=N.sts.length:=by rw [← hn.et,List.length_map]
  refine ⟨_,((af (eF (aW tj (aH (aN (K:=K) rfl) (by rfl) T.eG PySem.boot_len (aa (pv 0) ae)) (gI (v:= .int 6) (by rfl) T.zf ⟨_,rfl⟩) (bf _)) (ak eU) bB)
   (af (eF (aW tj (aH (aN (K:=K) rfl) (by rfl) T.eG PySem.boot_len (aa (pv 1) ae)) (gI (v:= .int 40) (by rfl) T.wx ⟨_,rfl⟩) (bf _)) (ak eU) bB)
   (af (eF (aW tj (aH (aN (K:=K) rfl) (by rfl) T.eG PySem.boot_len (aa (pv 2) ae)) (gI (v:= .int 16) (by rfl) T.rG ⟨_,rfl⟩) (bf _)) (ak eU) bB)
   (af (eF (aW tj (aH (aN (K:=K) rfl) (by rfl) T.eG PySem.boot_len (aa (pv 3) ae)) (gI (v:= .int 6) (by rfl) T.wy ⟨_,rfl⟩) (bf _)) (ak eU) bB)
   (ak (eF (jp (aH (uw (K:=K) rfl rfl) (by rfl) T.Gy PyProof.Rows.boot_any (aa (bO (osc:=ad bT) (ON:=["ins","sums","stores","outs"]) (N:=["row"]) (n:=1) (fx:=[]) rfl rfl rfl (by decide +kernel) (aG (K:=K) rfl (pv 1)) (aA (by decide)) (fun _ _ _ _ _=>⟨(ao (i:=0) (show List.Nodup (["row"]:List Str) from by decide +kernel) rfl (by walk_at "o")),bg,(fM tj (aH (aN (K:=K) rfl) (by rfl) T.eG PySem.boot_len (aa (bw (bW (K:=K) rfl) (pv 0) ai (fun _ _=>rfl)) ae)) (gI (v:= .int 24) (by rfl) T.t9 ⟨_,rfl⟩) (bf _))⟩)) ae))) (ak eU) bB))))))),aQ (σ':=[some _,some _,some _,some _]) rfl ?_⟩
  walk_at "l2"
  rw [List.length_map]
  refine fJ (decide_eq_false (by omega)) ?_
  walk_at "l2"
  rw [List.length_map]
  refine fJ (decide_eq_false (by omega)) ?_
  walk_at "l2"
  rw [List.length_map]
  refine fJ (decide_eq_false (by omega)) ?_
  walk_at "l2"
  rw [List.length_map]
  refine fJ (decide_eq_false (by omega)) ?_
  walk_at "l2"
  intro D hD
  refine ay (xs:=rs.map fun r=>V.ref r.1) (fun i ys H'=>Cs (fun i ys=>ys=(List.replicate i false).map V.bl) H D i ys H') (Cs.zero hD rfl) (fun i ys H' _ c=>SqL.of (c.same.get hs)) (fun i x ys H' hx c=>?_) (fun ys H' c=>?_)
  ·obtain ⟨r,hr',rfl⟩:=az hx
   have hi:=(List.getElem?_eq_some_iff.mp hr').1
   have hm:=List.mem_of_getElem? hr'
   have er:=c.same.get (hn.sr r hm).1
   have ew:=c.same.get (hn.sr r hm).2
   have hw:=g.lw r.2.2 (by rw [← hn.es];exact List.mem_map.mpr ⟨r,hm,rfl⟩)
   walk_at "l2"
   rw [List.length_map,decide_eq_false (show ¬ (24:Int) < (r.2.2.2.length:Int) by omega)]
   refine Cs.put hD c.same c.at' c.len (by omega) ?_
   rw [c.pv,List.replicate_succ',List.map_append];rfl
  ·have ec:=c.at'
   rw [c.pv] at ec
   walk_at "l2"
   refine Dq (SqL.of ec) ?_
   walk_at "l2"
   refine fJ (by simp) ?_
   walk_at "l2"
   exact q H' c.same
theorem o0 (T:Tx K mg a):FnOk P w K mg base CX0 2 a.bq a.fX ["names"] An:=by
 have eB:=@kb P w K mg base a T
 refine T.dP.ok eS (fun vs H Q E h=>?_) (fun cdv A outer s H vs Q E hr h=>?_)
 ·obtain ⟨l,zs,rfl,_⟩:=h;rfl
 ·obtain ⟨l,zs,rfl,hl,ln,nd,hn,q⟩:=h
  have hu:=EW hr
  refine ⟨_,((af (bv (i:=1) eS.nd rfl (by walk_at "o") CD)
   (ak (gF PassesOwn.never rfl (aG (K:=K) rfl (pv 0)) (ao (i:=2) eS.nd rfl (by walk_at "o")) (af (eF (pZ (jp (au eB (hr.mono (by decide)) (by rfl) T.g5 T.gX T.eu .nil aL (aa (pv 2) ae)))) (ak eU) bB)
   (af (eF (DE (DF hu (pv 2) (pv 1))) (ak eU) bB)
   (ak (EA hu (pv 1) (pv 2) yw rfl)))))))),aQ (σ':=[some _,none,none]) rfl ?_⟩
  walk_at "l2"
  intro D H1 f1 s1 e1
  have hl1:=s1.get hl
  walk_at "l2"
  refine xH (xs:=zs.map V.str) (fun i σ H'=>∃ v,σ=[some (.ref l),some (.ref D),v]∧Same H H'∧∃ kvs:List (Key×V),H' D=some (.dK kvs)∧kvs.map (·.1)=(zs.take i).map Sum.inr) ⟨none,rfl,s1,[],e1,rfl⟩ (fun i σ H' _ ⟨_,_,s',_⟩=>SqL.of (s'.get hl)) ?_ ?_
  ·rintro i y σ H' hy ⟨v,rfl,s',kvs,eD,ek⟩
   obtain ⟨z,hz,rfl⟩:=az hy
   have hi:=(List.getElem?_eq_some_iff.mp hz).1
   have hnot:z∉zs.take i:=fun m=>by
    have h2:=nd
    rw [← List.take_append_drop i zs,List.nodup_append] at h2
    exact h2.2.2 z m z (List.mem_of_getElem? (i:=0) (by rw [List.getElem?_drop,Nat.add_zero];exact hz)) rfl
   have lk:kvs.length≤1000:=by have:=congrArg List.length ek;rw [List.length_map,List.length_map,List.length_take] at this;omega
   walk_at "l2"
   refine c_nm (hn z (List.mem_of_getElem? hz)) fun H2 s2=>?_
   have eD2:=s2.get eD
   walk_at "l2"
   refine Dp eD2 ?_
   rw [mz ek z,decide_eq_false hnot]
   walk_at "l2"
   refine Er eD2 (aE lk) fun H3 u3=>?_
   rw [Ez ek hnot] at u3
   walk_at "l2"
   refine ⟨fun b o e=>u3.oth _ _ (ah e f1) (s2.get (s'.get e)),_,u3.at',?_⟩
   rw [List.map_append,ek,take_succ hz,List.map_append];rfl
  ·rintro σ H' ⟨v,rfl,s',_⟩
   walk_at "l2"
   exact q H' s'
theorem qN (T:Tx K mg a):FnOk P w K mg base CX0 2 a.bE a.g8 ["wire","known"] Ci:=by
 have eB:=@kb P w K mg base a T
 refine T.eO.ok qz (fun vs H Q E h=>?_) (fun cdv A outer s H vs Q E hr h=>?_)
 ·obtain ⟨z,d,zs,rfl,_⟩:=h;rfl
 ·obtain ⟨z,d,zs,rfl,⟨kvs,ed,ek⟩,hz,hn,q⟩:=h
  have hu:=EW hr
  refine ⟨_,((ak (eF (PW.pt (vg (pZ (jp (au eB (hr.mono (by decide)) (by rfl) T.g5 T.gX T.eu .nil aL (aa (pv 0) ae)))) (sP (DE (AG hu (pv 0) (pv 1)))))) (ak eU) bB))),aQ (σ':=[some _,some _]) rfl ?_⟩
  walk_at "l2"
  refine c_nm hn fun H2 s2=>?_
  have ed2:=s2.get ed
  walk_at "l2"
  refine Es ed2 ?_
  rw [mz ek z,decide_eq_true hz]
  walk_at "l2"
  exact q H2 s2
theorem oY (T:Tx K mg a):FnOk P w K mg base CX0 3 a.bo a.fV ["sums","stores","outs","known"] Al:=by
 have ia:=@qN P w K mg base a T
 refine T.dN.ok cG (fun vs H Q E h=>?_) (fun cdv A outer s H vs Q E hr h=>?_)
 ·obtain ⟨i,s,t,o,d,rs,qs,N,rfl,_⟩:=h;rfl
 ·obtain ⟨i,s,t,o,d,rs,qs,N,rfl,kp,g,kn,q⟩:=h
  have hs:=kp.s
  have ht:=kp.t
  have ho:=kp.o
  refine ⟨_,((af (gF PassesOwn.never rfl (j9 (K:=K) rfl (pv 0)) (ao (i:=4) cG.nd rfl (by walk_at "o")) (ak (gF PassesOwn.never rfl (j9 (K:=K) rfl (bw (bW (K:=K) rfl) (pv 4) ai (fun _ _=>rfl))) (ao (i:=5) cG.nd rfl (by walk_at "o")) (ak (bN (au ia (hr.mono (by decide)) (by rfl) T.g6 T.gY T.dE .nil aL (aa (pv 5) (aa (pv 3) ae))))))))
   (af (gF PassesOwn.never rfl (j9 (K:=K) rfl (pv 1)) (ao (i:=4) cG.nd rfl (by walk_at "o")) (ak (bN (au ia (hr.mono (by decide)) (by rfl) T.g6 T.gY T.dE .nil aL (aa (bw (bW (K:=K) rfl) (pv 4) ai (fun _ _=>rfl)) (aa (pv 3) ae))))))
   (ak (gF PassesOwn.never rfl (j9 (K:=K) rfl (pv 2)) (ao (i:=5) cG.nd rfl (by walk_at "o")) (ak (bN (au ia (hr.mono (by decide)) (by rfl) T.g6 T.gY T.dE .nil aL (aa (pv 5) (aa (pv 3) ae)))))))))),aQ (σ':=[some _,some _,some _,some _,none,none]) rfl ?_⟩
  walk_at "l2"
  refine rH (xs:=rs.map fun r=>V.ref r.1) (fun i σ H'=>∃ v1 v2,σ=[some (.ref s),some (.ref t),some (.ref o),some (.ref d),v1,v2]∧Same H H') ⟨none,none,rfl,Same.refl _⟩ (fun i σ H' _ ⟨_,_,_,s'⟩=>SqT.of (s'.get hs)) ?_ ?_
  ·rintro i y σ H' hy ⟨v1,v2,rfl,s'⟩
   obtain ⟨r,hr',rfl⟩:=az hy
   have hm:=List.mem_of_getElem? hr'
   have er:=s'.get (kp.sr r hm).1
   have ew:=s'.get (kp.sr r hm).2
   have hin:r.2.2∈N.sums:=by rw [← kp.es];exact List.mem_map.mpr ⟨r,hm,rfl⟩
   walk_at "l2"
   refine rH (xs:=r.2.2.2.map V.str) (fun j σ H2=>∃ v,σ=[some (.ref s),some (.ref t),some (.ref o),some (.ref d),some (.ref r.1),v]∧Same H' H2) ⟨_,rfl,Same.refl _⟩ (fun j σ H2 _ ⟨_,_,s2⟩=>SqT.of (s2.get ew)) ?_ ?_
   ·rintro j y σ H2 hy ⟨v,rfl,s2⟩
    obtain ⟨z,hz,rfl⟩:=az hy
    have hzn:=g.ws r.2.2 hin z (List.mem_of_getElem? hz)
    walk_at "l2"
    refine ⟨z,d,N.names,rfl,(kn.same s').same s2,hzn,g.nm z hzn,fun H3 s3=>?_⟩
    walk_at "l2"
    exact s2.trans s3
   ·rintro σ H2 ⟨v,rfl,s2⟩
    walk_at "l2"
    exact ⟨_,_,rfl,s'.trans s2⟩
  ·rintro σ H' ⟨v1,v2,rfl,s'⟩
   have ht':=s'.get ht
   walk_at "l2"
   refine rH (xs:=qs.map fun r=>V.ref r.1) (fun i σ H2=>∃ v1,σ=[some (.ref s),some (.ref t),some (.ref o),some (.ref d),v1,v2]∧Same H' H2) ⟨_,rfl,Same.refl _⟩ (fun i σ H2 _ ⟨_,_,s2⟩=>SqT.of (s2.get ht')) ?_ ?_
   ·rintro i y σ H2 hy ⟨v1,rfl,s2⟩
    obtain ⟨r,hr',rfl⟩:=az hy
    have hm:=List.mem_of_getElem? hr'
    have er:=s2.get (s'.get (kp.tr r hm))
    have hin:r.2∈N.sts:=by rw [← kp.et];exact List.mem_map.mpr ⟨r,hm,rfl⟩
    have hzn:=g.ts r.2 hin
    walk_at "l2"
    refine ⟨r.2.2,d,N.names,rfl,(kn.same s').same s2,hzn,g.nm _ hzn,fun H3 s3=>?_⟩
    walk_at "l2"
    exact s2.trans s3
   ·rintro σ H2 ⟨v1,rfl,s2⟩
    have s02:=s'.trans s2
    have ho':=s02.get ho
    walk_at "l2"
    refine rH (xs:=N.outs.map V.str) (fun i σ H3=>∃ v2,σ=[some (.ref s),some (.ref t),some (.ref o),some (.ref d),v1,v2]∧Same H2 H3) ⟨_,rfl,Same.refl _⟩ (fun i σ H3 _ ⟨_,_,s3⟩=>SqT.of (s3.get ho')) ?_ ?_
    ·rintro i y σ H3 hy ⟨v2,rfl,s3⟩
     obtain ⟨z,hz,rfl⟩:=az hy
     have hzn:=g.os z (List.mem_of_getElem? hz)
     walk_at "l2"
     refine ⟨z,d,N.names,rfl,(kn.same s02).same s3,hzn,g.nm z hzn,fun H4 s4=>?_⟩
     walk_at "l2"
     exact s3.trans s4
    ·rintro σ H3 ⟨v2,rfl,s3⟩
     walk_at "l2"
     exact q _ (s02.trans s3)
end
section
variable {P:Program} {w:World} {K:PySem.W.Frag} {mg:Str→Option Value} {base:Heap} {a:Ad}
local macro_rules | `(tactic| walk_at "l2step") =>`(tactic| first | ((with_reducible refine' c_whole ?e ?_);(case e=>walk_at "l2kind")) | ((with_reducible refine' c_mask ?e ?_);(case e=>walk_at "l2kind")) | (with_reducible refine dn ?_) | (with_reducible refine s_methX ?_))
theorem CF (T:Tx K mg a):FnOk P w K mg base CX0 1 a.fT a.wJ ["row","waiting"] Cb:=by
 refine T.so.ok Ck (fun vs H Q E h=>?_) (fun cdv A outer s H vs Q E hr h=>?_)
 ·obtain ⟨r,d,zs,rfl,_⟩:=h;rfl
 ·obtain ⟨r,d,zs,rfl,er,ew,lw,⟨kvs,ed,ek⟩,q⟩:=h
  have hu:=EW hr
  refine ⟨_,((ak (br (aH (uw (K:=K) rfl rfl) (by rfl) T.Gy PyProof.Rows.boot_any (aa (bO (osc:=ad iV) (ON:=["row","waiting"]) (N:=["wire","waiting"]) (n:=1) (fx:=[1]) rfl rfl rfl (by decide +kernel) (j9 (K:=K) rfl (bw (bW (K:=K) rfl) (pv 0) ai (fun _ _=>rfl))) (aA (by decide)) (fun _ _ _ _ _=>⟨(ao (i:=0) (show List.Nodup (["wire","waiting"]:List Str) from by decide +kernel) rfl (by walk_at "o")),bg,(Gm (DF hu (pv 0) (pv 1)))⟩)) ae))))),aQ (σ':=[some _,some _]) rfl ?_⟩
  walk_at "l2"
  intro D hD
  refine xN (xs:=r.2.2.2.map V.str) (fun i ys H'=>Cs (fun i ys=>ys=((r.2.2.2.take i).map fun w=>decide (w∈zs)).map V.bl) H D i ys H') (Cs.zero hD rfl) (fun i ys H' _ c=>SqT.of (c.same.get ew)) (fun i x ys H' hx c=>?_) (fun ys H' c=>?_)
  ·obtain ⟨z,hz,rfl⟩:=az hx
   have hi:=(List.getElem?_eq_some_iff.mp hz).1
   walk_at "l2"
   refine Dp (c.same.get ed) ?_
   rw [mz ek z]
   refine Cs.put hD c.same c.at' c.len (by omega) ?_
   rw [c.pv,take_succ hz,List.map_append,List.map_append];rfl
  ·have ec:=c.at'
   rw [c.pv,List.length_map,List.take_length] at ec
   walk_at "l2"
   refine Dq (SqL.of ec) ?_
   have eany:(r.2.2.2.map fun w=>decide (w∈zs)).any id=c9 zs r.2.2.2:=by rw [List.any_map];rfl
   walk_at "l2"
   rw [eany]
   exact q H' c.same
theorem lH (T:Tx K mg a):FnOk P w K mg base CX0 4 a.bb a.eg ["ins","sums","stores"] (yd a.am a.aj a.ag):=by
 have kP:=@jx P w K mg base a T
 have jV:=@iX P w K mg base a T
 have iH:=@gK P w K mg base a T
 refine T.cX.ok gm (fun vs H Q E h=>?_) (fun cdv A outer s H vs Q E hr h=>?_)
 ·obtain ⟨i,s,t,o,rs,qs,N,rfl,_⟩:=h;rfl
 ·obtain ⟨i,s,t,o,rs,qs,N,rfl,kp,g,q⟩:=h
  have hi:=kp.i
  have hs:=kp.s
  have ht:=kp.t
  have li:=g.li
  have ls:=g.ls
  have lt:=g.lt
  have lrs:rs.length=N.sums.length:=by rw [← kp.es,List.length_map]
  have lqs:qs.length=N.sts.length:=by rw [← kp.et,List.length_map]
  refine ⟨_,((af (cO (osc:=ad aP) (ON:=["ins","sums","stores","wires"]) (N:=["number","name"]) (n:=2) (fx:=[]) (i:=3) gm.nd rfl rfl rfl rfl rfl rfl (by decide +kernel) (qJ (K:=K) rfl (by rfl) T.fP (pv 0)) (xG (eL (aA (by decide)) (eL (aA (by decide)) rC))) (fun _ _ _ _ _=>⟨(qK (K:=K) (n:=2) rfl rfl (bA (ao (i:=0) (show List.Nodup (["number","name"]:List Str) from by decide +kernel) rfl (by walk_at "o")) (bA (ao (i:=1) (show List.Nodup (["number","name"]:List Str) from by decide +kernel) rfl (by walk_at "o")) gH))),bg,(mX T.Dh kP (hr.mono (by decide)) (by rfl) T.C5 T.dk .nil aL (aa (pv 1) (aa (pv 0) ae)))⟩))
   (af (bN (cB (K:=K) rfl PySem.F.plainAttrs_list PySem.F.slot_list_extend PySem.F.type_list_extend fC (pv 3) (aa (bO (osc:=ad aP) (ON:=["ins","sums","stores","wires"]) (N:=["row"]) (n:=1) (fx:=[]) rfl rfl rfl (by decide +kernel) (j9 (K:=K) rfl (pv 1)) (aA (by decide)) (fun _ _ _ _ _=>⟨(ao (i:=0) (show List.Nodup (["row"]:List Str) from by decide +kernel) rfl (by walk_at "o")),bg,(mX T.BL jV (hr.mono (by decide)) (by rfl) T.Bk T.cU .nil aL (aa (bw (bW (K:=K) rfl) (pv 0) ai (fun _ _=>rfl)) (aa (bw (bW (K:=K) rfl) (pv 0) ai (fun _ _=>rfl)) ae)))⟩)) ae)))
   (af (bN (cB (K:=K) rfl PySem.F.plainAttrs_list PySem.F.slot_list_extend PySem.F.type_list_extend fC (pv 3) (aa (bO (osc:=ad aP) (ON:=["ins","sums","stores","wires"]) (N:=["number","row"]) (n:=2) (fx:=[]) rfl rfl rfl (by decide +kernel) (qJ (K:=K) rfl (by rfl) T.fP (pv 2)) (xG (eL (aA (by decide)) (eL (aA (by decide)) rC))) (fun _ _ _ _ _=>⟨(qK (K:=K) (n:=2) rfl rfl (bA (ao (i:=0) (show List.Nodup (["number","row"]:List Str) from by decide +kernel) rfl (by walk_at "o")) (bA (ao (i:=1) (show List.Nodup (["number","row"]:List Str) from by decide +kernel) rfl (by walk_at "o")) gH))),bg,(mX T.xn iH (hr.mono (by decide)) (by rfl) T.ww T.cF .nil aL (aa (bw (bW (K:=K) rfl) (pv 1) ai (fun _ _=>rfl)) (aa (bw (bW (K:=K) rfl) (pv 1) ai (fun _ _=>rfl)) (aa (pv 0) ae))))⟩)) ae)))
   (ak (br (aM (ql rfl) (by rfl) T.DG PyProof.Rows.boot_dict (aa (bO (osc:=ad aP) (ON:=["ins","sums","stores","wires"]) (N:=["wire"]) (n:=1) (fx:=[]) rfl rfl rfl (by decide +kernel) (aG (K:=K) rfl (pv 3)) (aA (by decide)) (fun _ _ _ _ _=>⟨(ao (i:=0) (show List.Nodup (["wire"]:List Str) from by decide +kernel) rfl (by walk_at "o")),bg,(fq (aa (df (K:=K) rfl (pv 0) rfl) (aa (pv 0) ae)))⟩)) ae)))))))),aQ (σ':=[some _,some _,some _,none]) rfl ?_⟩
  walk_at "l2"
  refine .inr ⟨⟨_,SqT.of hi⟩,?_⟩
  intro D hD
  refine qf (xs:=N.ins.map V.str) (fun i ys H'=>∃ ws,WL H H' a.am a.aj a.ag N D ys (N.ins.take i) ws) ⟨[],rfl,rfl,fun _ h=>absurd h (by simp),a9 hD,al⟩ (fun i ys H' _ ⟨ws,c⟩=>SqT.of (c.same.get hi)) (fun i x ys H' pz H2 hx ⟨ws,c⟩ fp s2 e2=>?_) (fun ys H' ⟨ws,c⟩=>?_)
  ·obtain ⟨z,hz,rfl⟩:=az hx
   have hlt:=(List.getElem?_eq_some_iff.mp hz).1
   have lw:ws.length=i:=by have:=congrArg List.length c.nm;rw [List.length_map,List.length_take] at this;omega
   walk_at "l2"
   intro x dx H3 f3 s3 e3
   refine ⟨x,dx,.str z,nat i,rfl,e3,fun H4 u4=>⟨rfl,?_⟩⟩
   have s24:Same H2 H4:=fun b o e=>u4.oth _ _ (ah e f3) (s3.get e)
   exact c.put hD (s2.trans s24) (.i i dx hz u4.at') (by rw [List.length_take];omega) (take_succ hz)
  ·rw [List.length_map,List.take_length] at c
   have hs1:=c.same.get hs
   have ht1:=c.same.get ht
   have hD1:=c.d
   walk_at "l2"
   intro D2 hD2
   refine xN (xs:=rs.map fun r=>V.ref r.1) (fun i ys H2=>∃ ws,WL H' H2 a.am a.aj a.ag N D2 ys ((rs.take i).map (·.2.2.1)) ws) ⟨[],rfl,rfl,fun _ h=>absurd h (by simp),a9 hD2,al⟩ (fun i ys H2 _ ⟨ws,c2⟩=>SqT.of (c2.same.get hs1)) (fun i x ys2 H2 hx ⟨ws2,c2⟩=>?_) (fun ys2 H2 ⟨ws2,c2⟩=>?_)
   ·obtain ⟨r,hr',rfl⟩:=az hx
    have hlt:=(List.getElem?_eq_some_iff.mp hr').1
    have hm:=List.mem_of_getElem? hr'
    have s02:=c.same.trans c2.same
    have er:=s02.get (kp.sr r hm).1
    have ew:=s02.get (kp.sr r hm).2
    walk_at "l2"
    intro x dx H3 f3 s3 e3
    refine ⟨x,dx,.str r.2.2.1,r.2.1,_,rfl,s3.get ew,e3,fun H4 u4=>⟨rfl,?_⟩⟩
    have s24:Same H2 H4:=fun b o e=>u4.oth _ _ (ah e f3) (s3.get e)
    exact c2.put hD2 s24 (.s r.2.2.2 dx r.2.1 (by rw [← kp.es];exact List.mem_map.mpr ⟨r,hm,rfl⟩) u4.at' (s24.get ew)) (by rw [List.length_map,List.length_take];omega) (by rw [take_succ hr',List.map_append];rfl)
   ·rw [List.length_map,List.take_length] at c2
    have hD12:=c2.same.get hD1
    have eD2:=c2.d
    have lys:ys.length=N.ins.length:=by rw [c.ey,← c.nm,List.length_map,List.length_map]
    have lys2:ys2.length=rs.length:=by rw [c2.ey,List.length_map,← List.length_map (f:=(·.1)),c2.nm,List.length_map]
    walk_at "l2"
    refine ie hD12 eD2 (by rw [sizeLine_eq];omega) fun H3 u3=>?_
    have c3:=c.join c2 hD u3
    have hD3:=c3.d
    have ht3:=c3.same.get ht
    have lys3:(ys++ys2).length=N.ins.length + rs.length:=by rw [List.length_append,lys,lys2]
    clear c c2 hD12 eD2 hs1 ht1 hD1 lys lys2 hD2
    generalize ys++ys2=ys3 at *
    walk_at "l2"
    refine .inr ⟨⟨_,SqT.of ht3⟩,?_⟩
    intro D4 hD4
    refine qf (xs:=qs.map fun q=>V.ref q.1) (fun i ys H'=>∃ ws,WL H3 H' a.am a.aj a.ag N D4 ys ((qs.take i).map (·.2.1)) ws) ⟨[],rfl,rfl,fun _ h=>absurd h (by simp),a9 hD4,al⟩ (fun i ys H' _ ⟨ws,c⟩=>SqT.of (c.same.get ht3)) (fun i x ys H4 pz H5 hx ⟨ws,c⟩ fp s5 e5=>?_) (fun ys4 H4 ⟨ws4,c4⟩=>?_)
    ·obtain ⟨r,hr',rfl⟩:=az hx
     have hlt:=(List.getElem?_eq_some_iff.mp hr').1
     have hm:=List.mem_of_getElem? hr'
     have er:=s5.get (c.same.get (c3.same.get (kp.tr r hm)))
     walk_at "l2"
     intro x dx H6 f6 s6 e6
     refine ⟨x,dx,.str r.2.1,.str r.2.2,nat i,rfl,e6,fun H7 u7=>⟨rfl,?_⟩⟩
     have s57:Same H5 H7:=fun b o e=>u7.oth _ _ (ah e f6) (s6.get e)
     exact c.put hD4 (s5.trans s57) (.t i r.2.2 dx (by rw [← kp.et,List.getElem?_map,hr'];rfl) u7.at') (by rw [List.length_map,List.length_take];omega) (by rw [take_succ hr',List.map_append];rfl)
    ·rw [List.length_map,List.take_length] at c4
     have hD34:=c4.same.get hD3
     have eD4:=c4.d
     have lys4:ys4.length=qs.length:=by rw [c4.ey,List.length_map,← List.length_map (f:=(·.1)),c4.nm,List.length_map]
     walk_at "l2"
     refine ie hD34 eD4 (by rw [sizeLine_eq];omega) fun H5 u5=>?_
     have c5:=c3.join c4 hD u5
     have hD5:=c5.d
     have ey5:=c5.ey
     have enm:N.ins++rs.map (·.2.2.1)++qs.map (·.2.1)=N.names:=by
      unfold Nt.names
      rw [← kp.es,← kp.et,List.map_map,List.map_map];rfl
     rw [enm] at c5
     clear c3 c4 hD34 eD4 hD3 ht3 hD4
     rw [ey5] at hD5
     generalize ws++ws2++ws4=wl at *
     have lwl:wl.length≤100:=by rw [← List.length_map (f:=(·.1)),c5.nm,← enm,List.length_append,List.length_append,List.length_map,List.length_map];omega
     walk_at "l2"
     intro D6 hD6
     refine ay (xs:=wl.map fun q=>V.ref q.2) (fun i ys H'=>∃ ps:List (Addr×Key×V),ys=ps.map (fun q=>V.ref q.1)∧ps.map (·.2)=(wl.take i).map (fun q=>((Sum.inr q.1:Key),V.ref q.2))∧(∀ q∈ps,H' q.1=some (.tup [kV q.2.1,q.2.2]))∧Same H5 H'∧H' D6=some (.lst ys)) ⟨[],rfl,rfl,fun _ h=>absurd h (by simp),a9 hD6,al⟩ (fun i ys H' _ ⟨_,_,_,_,s',_⟩=>SqL.of (s'.get hD5)) ?_ ?_
     ·rintro i y ys H' hy ⟨ps,rfl,hps,hq,s',eD⟩
      obtain ⟨q0,hq0,rfl⟩:=az hy
      have hlt:=(List.getElem?_eq_some_iff.mp hq0).1
      have hlen:ps.length=i:=by have:=congrArg List.length hps;rw [List.length_map,List.length_map,List.length_take] at this;omega
      have wb:=(c5.ob q0 (List.mem_of_getElem? hq0)).same s'
      have fld:∀ {Q:VK},Q (.str q0.1) H'→Ff K (Str.ofString "name") Q (V.ref q0.2) H':=fun h=>by
       cases wb with
       | i k dx hk e=>exact cJ e T.su T.jG rfl h
       | s ws dx tw hk e et=>exact cJ e T.oP T.iJ rfl h
       | t k y dx hk e=>exact cJ e T.gl T.gt rfl h
      walk_at "l2"
      refine fld ?_
      walk_at "l2"
      intro tt H6 f6 s6 e6
      have ntt:tt≠D6:=fun z=>by rw [z,eD] at f6;cases f6
      refine ⟨s6.get eD,by rw [List.length_map];exact aE (by omega),ps++[(tt,Sum.inr q0.1,.ref q0.2)],by rw [List.map_append];rfl,by rw [List.map_append,hps,take_succ hq0,List.map_append];rfl,fun q' hq'=>?_,fun b o e=>?_,al⟩
      ·rcases List.mem_append.mp hq' with h | h
       ·have e:=hq q' h
        rw [aq (fz e eD fun z=>by cases z)]
        exact s6.get e
       ·rw [List.mem_singleton] at h;subst h
        rw [aq ntt];exact e6
      ·rw [aq (ah e hD6)]
       exact s6.get (s'.get e)
     ·rintro ys H6 ⟨ps,rfl,hps,hq,s',eD⟩
      rw [List.length_map,List.take_length] at hps
      have ek:ps.map (fun q=>q.2.1)=N.names.map Sum.inr:=by
       have:=congrArg (List.map (·.1)) hps
       rw [List.map_map,List.map_map] at this
       rw [← c5.nm,List.map_map]
       exact this
      walk_at "l2"
      refine Aq eD hq (by rw [ek];exact List.Pairwise.map _ (fun x y h z=>h (Sum.inr.inj z)) g.nd) fun d H7 f7 s7 e7=>?_
      have s57:=s'.trans s7
      rw [hps] at e7
      exact q d H7 wl ((c5.same.trans s').free f7) (c5.same.trans s57) ⟨e7,c5.nm,fun q' hq'=>(c5.ob q' hq').same s57⟩
theorem yy (T:Tx K mg a):FnOk P w K mg base CX0 2 a.cR a.oh ["sums"] ye:=by
 have BN:=@CF P w K mg base a T
 refine T.jX.ok dQ (fun vs H Q E h=>?_) (fun cdv A outer s H vs Q E hr h=>?_)
 ·obtain ⟨s,rs,N,rfl,_⟩:=h;rfl
 ·obtain ⟨s,rs,N,rfl,hs,hsr,hes,g,q⟩:=h
  have lrs:rs.length=N.sums.length:=by rw [← hes,List.length_map]
  have ls:=g.ls
  refine ⟨_,((af (bv (i:=1) dQ.nd rfl (by walk_at "o") (c8 ae))
   (af (bv (i:=2) dQ.nd rfl (by walk_at "o") (aM (bQ (K:=K) rfl) (by rfl) T.gq PyProof.Rows.boot_list (aa (pv 0) ae)))
   (af (Cz PassesOwn.never (aW tj (aH (aN (K:=K) rfl) (by rfl) T.eG PySem.boot_len (aa (pv 2) ae)) ai (bf _)) (af (bv (i:=3) dQ.nd rfl (by walk_at "o") (aM (ql rfl) (by rfl) T.DG PyProof.Rows.boot_dict (aa (pv 2) ae)))
   (af (cO (osc:=ad dC) (ON:=["sums","names","left","waiting","ready"]) (N:=["row","waiting"]) (n:=1) (fx:=[3]) (i:=4) dQ.nd rfl rfl rfl rfl rfl rfl (by decide +kernel) (aG (K:=K) rfl (pv 2)) (aA (by decide)) (fun _ _ _ _ _=>⟨(ao (i:=0) (show List.Nodup (["row","waiting"]:List Str) from by decide +kernel) rfl (by walk_at "o")),(fL (pZ (jp (au BN (hr.mono (by decide)) (by rfl) T.Bg T.A6 T.rZ .nil aL (aa (pv 0) (aa (pv 1) ae)))))),(bw (bW (K:=K) rfl) (pv 0) ai (fun _ _=>rfl))⟩))
   (af (eF (aW jv (aH (aN (K:=K) rfl) (by rfl) T.eG PySem.boot_len (aa (pv 4) ae)) ai (bf _)) (ak eU) bB)
   (af (bN (cB (K:=K) rfl PySem.F.plainAttrs_list PySem.F.slot_list_extend PySem.F.type_list_extend fC (pv 1) (aa (pv 4) ae)))
   (ak (cO (osc:=ad dC) (ON:=["sums","names","left","waiting","ready"]) (N:=["row","waiting"]) (n:=1) (fx:=[3]) (i:=2) dQ.nd rfl rfl rfl rfl rfl rfl (by decide +kernel) (aG (K:=K) rfl (pv 2)) (aA (by decide)) (fun _ _ _ _ _=>⟨(ao (i:=0) (show List.Nodup (["row","waiting"]:List Str) from by decide +kernel) rfl (by walk_at "o")),(fL (jp (au BN (hr.mono (by decide)) (by rfl) T.Bg T.A6 T.rZ .nil aL (aa (pv 0) (aa (pv 1) ae))))),(pv 0)⟩))))))))
   (ak (br (pv 1))))))),aQ (σ':=[some _,none,none,none,none]) rfl ?_⟩
  walk_at "l2"
  intro Dn H1 f1 s1 e1
  have hs1:=s1.get hs
  walk_at "l2"
  intro Dl H2 f2 s2 e2
  walk_at "l2"
  have nd:=g.nds
  refine ⟨fun μ σ' H'=>∃ (od:List Str) (lf:List Rw) (Dl:Addr) (v3 v4:Option V),σ'=[some (.ref s),some (.ref Dn),some (.ref Dl),v3,v4]∧Same H H'∧H' Dn=some (.lst (od.map V.str))∧H' Dl=some (.lst (lf.map fun r=>V.ref r.1))∧Dl≠Dn∧(∀ r∈lf,r∈rs)∧Otp N.sums od (lf.map (·.2.2))∧μ=lf.length,⟨rs.length,[],rs,Dl,none,none,rfl,s1.trans s2,s2.get e1,e2,fun z=>(by rw [z,e1] at f2;cases f2),fun _ h=>h,by rw [hes];exact Otp.start _,rfl⟩,?_⟩
  rintro μ σ' H3 ⟨od,lf,Dl,v3,v4,rfl,s3,en,el,nln,sub,ot,rfl⟩
  walk_at "l2"
  rw [List.length_map]
  by_cases h0:lf=[]
  ·subst h0
   refine fJ (decide_eq_false (by simp)) ?_
   walk_at "l2"
   exact q Dn H3 od f1 s3 en ot.done
  ·have hpos:0 < lf.length:=List.length_pos_iff.mpr h0
   refine j7 (decide_eq_true (by omega)) ?_
   have hperm:=ot.perm.nodup_iff.mpr nd
   rw [List.nodup_append] at hperm
   have ndl:(lf.map (·.2.2.1)).Nodup:=by have:=hperm.2.1;rw [List.map_map] at this;exact this
   have lod:od.length + lf.length=N.sums.length:=by have:=ot.perm.length_eq;rw [List.length_append,List.length_map,List.length_map,List.length_map] at this;exact this
   have hrd:=ot.ready g (by simpa using h0)
   have zsE:(lf.map (·.2.2)).map (·.1)=lf.map (·.2.2.1):=by rw [List.map_map];rfl
   rw [zsE] at hrd
   have lfr:∀ r∈lf,∀ {H'},Same H H'→H' r.1=some (.tup [.str r.2.2.1,.ref r.2.1])∧H' r.2.1=some (.tup (r.2.2.2.map V.str)):=fun r hr H' s'=>⟨s'.get (hsr r (sub r hr)).1,s'.get (hsr r (sub r hr)).2⟩
   have lwr:∀ r∈lf,r.2.2.2.length≤24:=fun r hr=>g.lw r.2.2 (by rw [← hes];exact List.mem_map.mpr ⟨r,sub r hr,rfl⟩)
   refine ⟨fun σ' H'=>∃ (od:List Str) (lf':List Rw) (Dl:Addr) (v3 v4:Option V),σ'=[some (.ref s),some (.ref Dn),some (.ref Dl),v3,v4]∧Same H H'∧H' Dn=some (.lst (od.map V.str))∧H' Dl=some (.lst (lf'.map fun r=>V.ref r.1))∧Dl≠Dn∧(∀ r∈lf',r∈rs)∧Otp N.sums od (lf'.map (·.2.2))∧lf'.length < lf.length,fun σ' H' ⟨od,lf',Dl,v3,v4,a1,a2,a3,a4,a5,a6,a7,a8⟩=>⟨lf'.length,a8,od,lf',Dl,v3,v4,a1,a2,a3,a4,a5,a6,a7,rfl⟩,?_⟩
   walk_at "l2"
   refine Aq (ps:=lf.map fun r=>(r.1,Sum.inr r.2.2.1,V.ref r.2.1)) (by rw [List.map_map];exact el) (fun q' hq'=>?_) ?_ fun d H4 f4 s4 e4=>?_
   ·obtain ⟨r,hr',rfl⟩:=List.mem_map.mp hq'
    exact (lfr r hr' s3).1
   ·rw [List.map_map]
    have:=List.Pairwise.map (Sum.inr:Str→Key) (S:=fun a b=>a≠b) (fun x y h z=>h (Sum.inr.inj z)) ndl
    rw [List.map_map] at this
    exact this
   have kn:Knw H4 d (lf.map (·.2.2.1)):=⟨_,e4,by rw [List.map_map,List.map_map,List.map_map];rfl⟩
   have el4:=s4.get el
   have en4:=s4.get en
   have s04:=s3.trans s4
   walk_at "l2"
   intro D5 hD5
   refine ay (xs:=lf.map fun r=>V.ref r.1) (fun i ys H'=>ys=(((lf.take i).filter fun r=> !c9 (lf.map (·.2.2.1)) r.2.2.2).map (·.2.2.1)).map V.str∧Same H4 H'∧H' D5=some (.lst ys)) ⟨rfl,a9 hD5,al⟩ (fun i ys H' _ ⟨_,s',_⟩=>SqL.of (s'.get el4)) (fun i x ys H' hx ⟨ey,s',e'⟩=>?_) (fun ys H5 ⟨ey,s5,e5⟩=>?_)
   ·obtain ⟨r,hr',rfl⟩:=az hx
    have hm:=List.mem_of_getElem? hr'
    have hlt:=(List.getElem?_eq_some_iff.mp hr').1
    have rr:=lfr r hm (s04.trans s')
    have r1:=rr.1
    have fs:(lf.take (i + 1)).filter (fun r=> !c9 (lf.map (·.2.2.1)) r.2.2.2)=(lf.take i).filter (fun r=> !c9 (lf.map (·.2.2.1)) r.2.2.2)++(if (!c9 (lf.map (·.2.2.1)) r.2.2.2)=true then [r] else []):=by rw [take_succ hr',List.filter_append,List.filter_cons];rfl
    walk_at "l2"
    refine ⟨r,d,lf.map (·.2.2.1),rfl,rr.1,rr.2,lwr r hm,kn.same s',fun H6 s6=>?_⟩
    have r16:=s6.get r1
    cases hw:c9 (lf.map (·.2.2.1)) r.2.2.2 with
    | true=>
      walk_at "l2"
      refine ⟨?_,s'.trans s6,s6.get e'⟩
      rw [fs,hw,ey];simp
    | false=>
      walk_at "l2"
      refine ⟨s6.get e',?_,?_,fun b o e=>?_,al⟩
      ·rw [ey,List.length_map,List.length_map]
       have:=List.length_filter_le (fun r:Rw=> !c9 (lf.map (·.2.2.1)) r.2.2.2) (lf.take i)
       rw [List.length_take] at this
       exact aE (by omega)
      ·rw [fs,hw,ey];simp
      ·rw [aq (ah e hD5)]
       exact s6.get (s'.get e)
   ·rw [List.length_map,List.take_length] at ey
    have fm:((lf.map (·.2.2)).filter fun r=> !c9 (lf.map (·.2.2.1)) r.2)=(lf.filter fun r=> !c9 (lf.map (·.2.2.1)) r.2.2.2).map (·.2.2):=by rw [List.filter_map];rfl
    have fm2:((lf.map (·.2.2)).filter fun r=>c9 (lf.map (·.2.2.1)) r.2)=(lf.filter fun r=>c9 (lf.map (·.2.2.1)) r.2.2.2).map (·.2.2):=by rw [List.filter_map];rfl
    rw [fm,List.length_map] at hrd
    have lys:ys.length=(lf.filter fun r=> !c9 (lf.map (·.2.2.1)) r.2.2.2).length:=by rw [ey,List.length_map,List.length_map]
    have lle:=List.length_filter_le (fun r:Rw=> !c9 (lf.map (·.2.2.1)) r.2.2.2) lf
    have hless:=wz (fun r:Rw=>c9 (lf.map (·.2.2.1)) r.2.2.2) lf hrd
    have ot':=ot.step nd
    rw [zsE,fm,fm2,List.map_map] at ot'
    have el5:=s5.get el4
    have en5:=s5.get en4
    walk_at "l2"
    refine fJ (decide_eq_false fun z=>by have:=V.int.inj z;omega) ?_
    walk_at "l2"
    refine ie en5 e5 (by rw [List.length_map,lys,sizeLine_eq];omega) fun H6 u6=>?_
    have s46:∀ b o,b≠Dn→H4 b=some o→H6 b=some o:=fun b o n e=>u6.oth _ _ n (s5.get e)
    have s06:Same H H6:=fun b o e=>s46 b o (ah e f1) (s04.get e)
    have el6:=u6.oth _ _ nln el5
    have en6:=u6.at'
    rw [ey,← List.map_append] at en6
    have kn6:Knw H6 d (lf.map (·.2.2.1)):=by
     obtain ⟨kvs,ed,ek⟩:=kn
     exact ⟨kvs,s46 _ _ (fz ed en4 fun z=>by cases z) ed,ek⟩
    walk_at "l2"
    intro D7 hD7
    refine ay (xs:=lf.map fun r=>V.ref r.1) (fun i ys H'=>ys=((lf.take i).filter fun r=>c9 (lf.map (·.2.2.1)) r.2.2.2).map (fun r=>V.ref r.1)∧Same H6 H'∧H' D7=some (.lst ys)) ⟨rfl,a9 hD7,al⟩ (fun i ys H' _ ⟨_,s',_⟩=>SqL.of (s'.get el6)) (fun i x ys H' hx ⟨ey,s',e'⟩=>?_) (fun ys H7 ⟨ey7,s7,e7⟩=>?_)
    ·obtain ⟨r,hr',rfl⟩:=az hx
     have hm:=List.mem_of_getElem? hr'
     have hlt:=(List.getElem?_eq_some_iff.mp hr').1
     have rr:=lfr r hm (s06.trans s')
     have fs:(lf.take (i + 1)).filter (fun r=>c9 (lf.map (·.2.2.1)) r.2.2.2)=(lf.take i).filter (fun r=>c9 (lf.map (·.2.2.1)) r.2.2.2)++(if c9 (lf.map (·.2.2.1)) r.2.2.2=true then [r] else []):=by rw [take_succ hr',List.filter_append,List.filter_cons];rfl
     walk_at "l2"
     refine ⟨r,d,lf.map (·.2.2.1),rfl,rr.1,rr.2,lwr r hm,kn6.same s',fun H8 s8=>?_⟩
     cases hw:c9 (lf.map (·.2.2.1)) r.2.2.2 with
     | false=>
       walk_at "l2"
       refine ⟨?_,s'.trans s8,s8.get e'⟩
       rw [fs,hw,ey];simp
     | true=>
       walk_at "l2"
       refine ⟨s8.get e',?_,?_,fun b o e=>?_,al⟩
       ·rw [ey,List.length_map]
        have:=List.length_filter_le (fun r:Rw=>c9 (lf.map (·.2.2.1)) r.2.2.2) (lf.take i)
        rw [List.length_take] at this
        exact aE (by omega)
       ·rw [fs,hw,ey];simp
       ·rw [aq (ah e hD7)]
        exact s8.get (s'.get e)
    ·rw [List.length_map,List.take_length] at ey7
     rw [ey7] at e7
     walk_at "l2"
     have hsub:∀ r∈lf.filter (fun r=>c9 (lf.map (·.2.2.1)) r.2.2.2),r∈rs:=fun r hr=>sub r (List.mem_filter.mp hr).1
     have nd7:D7≠Dn:=fun z=>(by rw [z,en6] at hD7;cases hD7)
     exact ⟨_,_,D7,_,_,rfl,s06.trans s7,s7.get en6,e7,nd7,hsub,ot',hless⟩
end
section
variable {P:Program} {w:World} {K:PySem.W.Frag} {mg:Str→Option Value} {base:Heap} {a:Ad}
local macro_rules | `(tactic| walk_at "l2step") =>`(tactic| first | ((with_reducible refine' c_whole ?e ?_);(case e=>walk_at "l2kind")) | ((with_reducible refine' c_mask ?e ?_);(case e=>walk_at "l2kind")) | (with_reducible refine dn ?_) | (with_reducible refine s_methX ?_))
theorem gN (T:Tx K mg a):FnOk P w K mg base CX0 5 a.aU a.fg ["self","ins","sums","stores","outs"] (FE a.be a.am a.aj a.ag):=by
 have sj:=@oZ P w K mg base a T
 have sk:=@o0 P w K mg base a T
 have si:=@oY P w K mg base a T
 have oO:=@lH P w K mg base a T
 have BP:=@yy P w K mg base a T
 refine T.dA.ok mQ (fun vs H Q E h=>?_) (fun cdv A outer s H vs Q E hr h=>?_)
 ·obtain ⟨x,dx,i,s,t,o,rs,qs,N,rfl,_⟩:=h;rfl
 ·obtain ⟨x,dx,i,s,t,o,rs,qs,N,rfl,hx,hn,g,q⟩:=h
  have li:=g.li
  have ls:=g.ls
  have lt:=g.lt
  have lo:=g.lo
  have lrs:rs.length=N.sums.length:=by rw [← hn.es,List.length_map]
  have lqs:qs.length=N.sts.length:=by rw [← hn.et,List.length_map]
  refine ⟨_,((af (bN (au sj (hr.mono (by decide)) (by rfl) T.rE T.rA T.fZ .nil aL (aa (pv 1) (aa (pv 2) (aa (pv 3) (aa (pv 4) ae))))))
   (af (bN (au sk (hr.mono (by decide)) (by rfl) T.rF T.rB T.gb .nil aL (aa (aF jw (aF jw (aM (bQ (K:=K) rfl) (by rfl) T.gq PyProof.Rows.boot_list (aa (pv 1) ae)) (bO (osc:=ad ba) (ON:=["self","ins","sums","stores","outs"]) (N:=["row"]) (n:=1) (fx:=[]) rfl rfl rfl (by decide +kernel) (aG (K:=K) rfl (pv 2)) (aA (by decide)) (fun _ _ _ _ _=>⟨(ao (i:=0) (show List.Nodup (["row"]:List Str) from by decide +kernel) rfl (by walk_at "o")),bg,(bw (bW (K:=K) rfl) (pv 0) ai (fun _ _=>rfl))⟩))) (bO (osc:=ad ba) (ON:=["self","ins","sums","stores","outs"]) (N:=["row"]) (n:=1) (fx:=[]) rfl rfl rfl (by decide +kernel) (aG (K:=K) rfl (pv 3)) (aA (by decide)) (fun _ _ _ _ _=>⟨(ao (i:=0) (show List.Nodup (["row"]:List Str) from by decide +kernel) rfl (by walk_at "o")),bg,(bw (bW (K:=K) rfl) (pv 0) ai (fun _ _=>rfl))⟩))) ae)))
   (af (d5 (K:=K) rfl (pv 0) (aM (cc (K:=K) rfl) (by rfl) T.gT PyProof.Rows.boot_tuple (aa (pv 1) ae)) rfl)
   (af (d5 (K:=K) rfl (pv 0) (aM (cc (K:=K) rfl) (by rfl) T.gT PyProof.Rows.boot_tuple (aa (bO (osc:=ad ba) (ON:=["self","ins","sums","stores","outs"]) (N:=["row"]) (n:=1) (fx:=[]) rfl rfl rfl (by decide +kernel) (aG (K:=K) rfl (pv 2)) (aA (by decide)) (fun _ _ _ _ _=>⟨(ao (i:=0) (show List.Nodup (["row"]:List Str) from by decide +kernel) rfl (by walk_at "o")),bg,(fq (aa (bw (bW (K:=K) rfl) (pv 0) ai (fun _ _=>rfl)) (aa (aM (cc (K:=K) rfl) (by rfl) T.gT PyProof.Rows.boot_tuple (aa (bw (bW (K:=K) rfl) (pv 0) ai (fun _ _=>rfl)) ae)) ae)))⟩)) ae)) rfl)
   (af (d5 (K:=K) rfl (pv 0) (aM (cc (K:=K) rfl) (by rfl) T.gT PyProof.Rows.boot_tuple (aa (bO (osc:=ad ba) (ON:=["self","ins","sums","stores","outs"]) (N:=["row"]) (n:=1) (fx:=[]) rfl rfl rfl (by decide +kernel) (aG (K:=K) rfl (pv 3)) (aA (by decide)) (fun _ _ _ _ _=>⟨(ao (i:=0) (show List.Nodup (["row"]:List Str) from by decide +kernel) rfl (by walk_at "o")),bg,(fq (aa (bw (bW (K:=K) rfl) (pv 0) ai (fun _ _=>rfl)) (aa (bw (bW (K:=K) rfl) (pv 0) ai (fun _ _=>rfl)) ae)))⟩)) ae)) rfl)
   (af (d5 (K:=K) rfl (pv 0) (aM (cc (K:=K) rfl) (by rfl) T.gT PyProof.Rows.boot_tuple (aa (pv 4) ae)) rfl)
   (af (d5 (K:=K) rfl (pv 0) (au oO (hr.mono (by decide)) (by rfl) T.nV T.nT T.eo .nil aL (aa (df (K:=K) rfl (pv 0) rfl) (aa (df (K:=K) rfl (pv 0) rfl) (aa (df (K:=K) rfl (pv 0) rfl) ae)))) rfl)
   (af (bN (au si (hr.mono (by decide)) (by rfl) T.rD T.rz T.fY .nil aL (aa (df (K:=K) rfl (pv 0) rfl) (aa (df (K:=K) rfl (pv 0) rfl) (aa (df (K:=K) rfl (pv 0) rfl) (aa (df (K:=K) rfl (pv 0) rfl) ae))))))
   (ak (d5 (K:=K) rfl (pv 0) (aM (cc (K:=K) rfl) (by rfl) T.gT PyProof.Rows.boot_tuple (aa (au BP (hr.mono (by decide)) (by rfl) T.Bi T.A8 T.oG .nil aL (aa (df (K:=K) rfl (pv 0) rfl) ae)) ae)) rfl))))))))))),aQ (σ':=[some _,some _,some _,some _,some _]) rfl ?_⟩
  walk_at "l2"
  refine ⟨i,s,t,o,rs,qs,N,rfl,hn,g,fun H1 s1=>?_⟩
  have hn1:=hn.same s1
  have hi1:=hn1.i
  have hs1:=hn1.s
  have ht1:=hn1.t
  walk_at "l2"
  intro D2 H2 f2 s2 e2
  have hs2:=s2.get hs1
  walk_at "l2"
  intro D3 hD3
  refine ay (xs:=rs.map fun r=>V.ref r.1) (fun i ys H'=>Cs (fun i ys=>ys=((rs.take i).map (·.2.2.1)).map V.str) H2 D3 i ys H') (Cs.zero hD3 rfl) (fun i ys H' _ c=>SqL.of (c.same.get hs2)) (fun i x ys H' hx c=>?_) (fun ys H3 c=>?_)
  ·obtain ⟨r,hr',rfl⟩:=az hx
   have hlt:=(List.getElem?_eq_some_iff.mp hr').1
   have er:=c.same.get (s2.get (hn1.sr r (List.mem_of_getElem? hr')).1)
   walk_at "l2"
   refine Cs.put hD3 c.same c.at' c.len (by omega) ?_
   rw [c.pv,take_succ hr',List.map_append,List.map_append];rfl
  ·have e3:=c.at'
   rw [c.pv,List.length_map,List.take_length] at e3
   have s23:=c.same
   clear c
   refine qA (s23.get e2) e3 (by rw [List.length_map,List.length_map,List.length_map,sizeLine_eq];omega) fun D4 H4 f4 s4 e4=>?_
   have s14:=s2.trans (s23.trans s4)
   have ht4:=s14.get ht1
   walk_at "l2"
   intro D5 hD5
   refine ay (xs:=qs.map fun r=>V.ref r.1) (fun i ys H'=>Cs (fun i ys=>ys=((qs.take i).map (·.2.1)).map V.str) H4 D5 i ys H') (Cs.zero hD5 rfl) (fun i ys H' _ c=>SqL.of (c.same.get ht4)) (fun i x ys H' hx c=>?_) (fun ys H5 c=>?_)
   ·obtain ⟨r,hr',rfl⟩:=az hx
    have hlt:=(List.getElem?_eq_some_iff.mp hr').1
    have er:=c.same.get (s14.get (hn1.tr r (List.mem_of_getElem? hr')))
    walk_at "l2"
    refine Cs.put hD5 c.same c.at' c.len (by omega) ?_
    rw [c.pv,take_succ hr',List.map_append,List.map_append];rfl
   ·have e5:=c.at'
    rw [c.pv,List.length_map,List.take_length] at e5
    have s45:=c.same
    clear c
    have enm:N.ins++rs.map (·.2.2.1)++qs.map (·.2.1)=N.names:=by
     unfold Nt.names
     rw [← hn.es,← hn.et,List.map_map,List.map_map];rfl
    have lnm:N.names.length≤100:=by rw [← enm,List.length_append,List.length_append,List.length_map,List.length_map];omega
    refine qA (s45.get e4) e5 (by rw [List.length_append,List.length_map,List.length_map,List.length_map,List.length_map,List.length_map,sizeLine_eq];omega) fun D6 H6 f6 s6 e6=>?_
    rw [← List.map_append,← List.map_append,enm] at e6
    have s16:=s14.trans (s45.trans s6)
    walk_at "l2"
    refine ⟨D6,N.names,rfl,e6,by omega,g.nd,g.nm,fun H7 s7=>?_⟩
    have s07:=s1.trans (s16.trans s7)
    have hn7:=hn.same s07
    have hx7:=s07.get hx
    clear e6 e5 e4 e3 e2 s16 s14 hs2 ht4 hi1 hs1 ht1 hn1 hD3 hD5 f2 f4 f6 s1 s2 s23 s4 s45 s6 s7
    have hi7:=hn7.i
    walk_at "l2"
    intro ti H8 f8 s8 e8
    walk_at "l2"
    refine dY (s8.get hx7) T.c7 T.nC (by show 0 < 1000;decide) rfl fun H9 u9=>?_
    have hx8:=s8.get hx7
    have hn9:=(Kx.upd u9).hnd hx8 (hn7.same s8)
    have e9:=(Kx.upd u9).tup hx8 e8
    have hx9:=u9.at'
    have k9:Kx x H H9:=(Kx.same (s07.trans s8)).trans (Kx.upd u9)
    have hs9:=hn9.s
    clear u9 hx8 s8 e8 f8 hi7 hx7 hn7 s07
    walk_at "l2"
    intro D10 hD10
    refine ay (xs:=rs.map fun r=>V.ref r.1) (fun i ys H'=>∃ rs':List Rw,ys=rs'.map (fun r=>V.ref r.1)∧rs'.map (·.2.2)=(rs.take i).map (·.2.2)∧RwK H' rs'∧Same H9 H'∧H' D10=some (.lst ys)) ⟨[],rfl,rfl,fun _ h=>absurd h (by simp),a9 hD10,al⟩ (fun i ys H' _ ⟨_,_,_,_,s',_⟩=>SqL.of (s'.get hs9)) ?_ ?_
    ·rintro i y ys H' hy ⟨rs',rfl,hrs,hk,s',eD⟩
     obtain ⟨r,hr',rfl⟩:=az hy
     have hlt:=(List.getElem?_eq_some_iff.mp hr').1
     have hm:=List.mem_of_getElem? hr'
     have er:=s'.get (hn9.sr r hm).1
     have ew:=s'.get (hn9.sr r hm).2
     have hlen:rs'.length=i:=by have:=congrArg List.length hrs;rw [List.length_map,List.length_map,List.length_take] at this;omega
     walk_at "l2"
     intro tw H11 f11 s11 e11
     walk_at "l2"
     intro tr H12 f12 s12 e12
     have ntr:tr≠D10:=fun z=>(by rw [z,s11.get eD] at f12;cases f12)
     have ntw:tw≠D10:=fun z=>(by rw [z,eD] at f11;cases f11)
     have eD12:=s12.get (s11.get eD)
     refine ⟨eD12,by rw [List.length_map];exact aE (by omega),rs'++[(tr,tw,r.2.2)],by rw [List.map_append];rfl,by rw [List.map_append,hrs,take_succ hr',List.map_append];rfl,fun r2 h2=>?_,fun b ob e=>?_,al⟩
     ·rcases List.mem_append.mp h2 with h2 | h2
      ·exact ((hk.same s11).same s12).updL eD12 (fun b ob n e=>by rw [aq n];exact e) r2 h2
      ·rw [List.mem_singleton] at h2;subst h2
       exact ⟨by rw [aq ntr];exact e12,by rw [aq ntw];exact s12.get e11⟩
     ·rw [aq (ah e hD10)]
      exact s12.get (s11.get (s'.get e))
    ·rintro ys H10 ⟨rs',rfl,hrs,hk,s10,eD10⟩
     rw [List.length_map,List.take_length,hn.es] at hrs
     walk_at "l2"
     intro ts H11 f11 s11 e11
     have s911:=s10.trans s11
     have hx11:=s911.get hx9
     walk_at "l2"
     refine dY hx11 T.c7 T.fA (by show 1 < 1000;decide) rfl fun H12 u12=>?_
     have hn12:=(Kx.upd u12).hnd hx11 (hn9.same s911)
     have e912:=(Kx.upd u12).tup hx11 (s911.get e9)
     have e12:=(Kx.upd u12).tup hx11 e11
     have rk12:=(Kx.upd u12).rw hx11 (hk.same s11)
     have hx12:=u12.at'
     have k12:Kx x H H12:=k9.trans ((Kx.same s911).trans (Kx.upd u12))
     have ht12:=hn12.t
     clear u12 hx11 s911 s10 s11 e11 f11 hk eD10 hD10 hn9 hs9 hx9 e9 k9
     walk_at "l2"
     intro D13 hD13
     refine ay (xs:=qs.map fun r=>V.ref r.1) (fun i ys H'=>∃ qs':List Qs,ys=qs'.map (fun r=>V.ref r.1)∧qs'.map (·.2)=(qs.take i).map (·.2)∧QsK H' qs'∧Same H12 H'∧H' D13=some (.lst ys)) ⟨[],rfl,rfl,fun _ h=>absurd h (by simp),a9 hD13,al⟩ (fun i ys H' _ ⟨_,_,_,_,s',_⟩=>SqL.of (s'.get ht12)) ?_ ?_
     ·rintro i y ys H' hy ⟨qs',rfl,hqs,hk,s',eD⟩
      obtain ⟨r,hr',rfl⟩:=az hy
      have hlt:=(List.getElem?_eq_some_iff.mp hr').1
      have er:=s'.get (hn12.tr r (List.mem_of_getElem? hr'))
      have hlen:qs'.length=i:=by have:=congrArg List.length hqs;rw [List.length_map,List.length_map,List.length_take] at this;omega
      walk_at "l2"
      intro tr H14 f14 s14 e14
      have ntr:tr≠D13:=fun z=>(by rw [z,eD] at f14;cases f14)
      have eD14:=s14.get eD
      refine ⟨eD14,by rw [List.length_map];exact aE (by omega),qs'++[(tr,r.2)],by rw [List.map_append];rfl,by rw [List.map_append,hqs,take_succ hr',List.map_append];rfl,fun r2 h2=>?_,fun b ob e=>?_,al⟩
      ·rcases List.mem_append.mp h2 with h2 | h2
       ·exact (hk.same s14).updL eD14 (fun b ob n e=>by rw [aq n];exact e) r2 h2
       ·rw [List.mem_singleton] at h2;subst h2
        rw [aq ntr];exact e14
      ·rw [aq (ah e hD13)]
       exact s14.get (s'.get e)
     ·rintro ys H13 ⟨qs',rfl,hqs,hqk,s13,eD13⟩
      rw [List.length_map,List.take_length,hn.et] at hqs
      walk_at "l2"
      intro tk H14 f14 s14 e14
      have s1214:=s13.trans s14
      have hx14:=s1214.get hx12
      walk_at "l2"
      refine dY hx14 T.c7 T.cr (by show 2 < 1000;decide) rfl fun H15 u15=>?_
      have hn15:=(Kx.upd u15).hnd hx14 (hn12.same s1214)
      have ei15:=(Kx.upd u15).tup hx14 (s1214.get e912)
      have es15:=(Kx.upd u15).tup hx14 (s1214.get e12)
      have rk15:=(Kx.upd u15).rw hx14 (rk12.same s1214)
      have et15:=(Kx.upd u15).tup hx14 e14
      have qk15:=(Kx.upd u15).qs hx14 (hqk.same s14)
      have hx15:=u15.at'
      have k15:Kx x H H15:=k12.trans ((Kx.same s1214).trans (Kx.upd u15))
      have ho15:=hn15.o
      clear u15 hx14 s1214 s13 s14 e14 f14 hqk eD13 hD13 hn12 ht12 hx12 e12 e912 k12 rk12
      walk_at "l2"
      intro to H16 f16 s16 e16
      have hx16:=s16.get hx15
      walk_at "l2"
      refine dY hx16 T.c7 T.kl (by show 3 < 1000;decide) rfl fun H17 u17=>?_
      have kp17:Kpt H17 ti ts tk to rs' qs' N:=(Kx.upd u17).kpt hx16 ⟨s16.get ei15,s16.get es15,rk15.same s16,hrs,s16.get et15,qk15.same s16,hqs,e16⟩
      have hx17:=u17.at'
      have k17:Kx x H H17:=k15.trans ((Kx.same s16).trans (Kx.upd u17))
      clear u17 hx16 s16 e16 f16 hx15 k15 ei15 es15 rk15 et15 qk15 ho15 hn15
      walk_at "l2"
      refine cJ hx17 T.c7 T.nC rfl ?_
      walk_at "l2"
      refine cJ hx17 T.c7 T.fA rfl ?_
      walk_at "l2"
      refine cJ hx17 T.c7 T.cr rfl ?_
      walk_at "l2"
      refine ⟨ti,ts,tk,to,rs',qs',N,rfl,kp17,g,fun db H18 ws f18 s18 wi=>?_⟩
      have hx18:=s18.get hx17
      walk_at "l2"
      refine dY hx18 T.c7 T.jF (by show 4 < 1000;decide) rfl fun H19 u19=>?_
      have hdb:db≠x:=fz wi.d hx18 fun z=>by cases z
      have hws:∀ q∈ws,q.2≠x:=fun q hq z=>by
       obtain ⟨C,dx',fs,e,_⟩:=(wi.ob q hq).name
       rw [z,hx18] at e
       injection e with e
       injection e with _ _ e
       injection e with e _
       injection e with e _
       exact absurd e (by decide)
      have wi19:=(Kx.upd u19).wia wi hdb hws hx18
      have kp19:=(Kx.upd u19).kpt hx18 (kp17.same s18)
      have hx19:=u19.at'
      have k19:Kx x H H19:=k17.trans ((Kx.same s18).trans (Kx.upd u19))
      clear u19 wi kp17 hx17 hx18 s18 k17 f18
      walk_at "l2"
      refine cJ hx19 T.c7 T.fA rfl ?_
      walk_at "l2"
      refine cJ hx19 T.c7 T.cr rfl ?_
      walk_at "l2"
      refine cJ hx19 T.c7 T.kl rfl ?_
      walk_at "l2"
      refine cJ hx19 T.c7 T.jF rfl ?_
      walk_at "l2"
      refine ⟨ti,ts,tk,to,db,rs',qs',N,rfl,kp19,g,wi19.knw,fun H20 s20=>?_⟩
      have hx20:=s20.get hx19
      have kp20:=kp19.same s20
      walk_at "l2"
      refine cJ hx20 T.c7 T.fA rfl ?_
      walk_at "l2"
      refine ⟨ts,rs',N,rfl,kp20.s,kp20.sr,hrs,g,fun Do H21 od f21 s21 e21 tp=>?_⟩
      walk_at "l2"
      intro tq H22 f22 s22 e22
      have s1922:=s20.trans (s21.trans s22)
      have hx22:=s1922.get hx19
      walk_at "l2"
      refine dY hx22 T.c7 T.nB (by show 5 < 1000;decide) rfl fun H23 u23=>?_
      walk_at "l2"
      exact q H23 od (k19.trans ((Kx.same s1922).trans (Kx.upd u23))) ⟨⟨dx,ti,ts,tk,to,db,tq,rs',qs',ws,u23.at',(Kx.upd u23).kpt hx22 (kp19.same s1922),(Kx.upd u23).wia (wi19.same s1922) hdb hws hx22,(Kx.upd u23).tup hx22 e22⟩,g,tp⟩
end
section
variable {P:Program} {w:World} {K:PySem.W.Frag} {mg:Str→Option Value} {base:Heap} {a:Ad}
local macro_rules | `(tactic| walk_at "l2step") =>`(tactic| first | ((with_reducible refine' c_whole ?e ?_);(case e=>walk_at "l2kind")) | ((with_reducible refine' c_mask ?e ?_);(case e=>walk_at "l2kind")) | (with_reducible refine dn ?_) | (with_reducible refine s_methX ?_))
noncomputable abbrev NAof (a:Ad):NP:=fun H p N od=>NetA H a.be a.am a.aj a.ag p N od
theorem gM (T:Tx K mg a):FnOk P w K mg base CX0 1 a.aT a.ff ["self"] (yf (NAof a)):=by
 refine T.dz.ok mP (fun vs H Q E h=>?_) (fun cdv A outer s H vs Q E hr h=>?_)
 ·obtain ⟨p,N,od,rfl,_⟩:=h;rfl
 ·obtain ⟨p,N,od,rfl,na,q⟩:=h
  obtain ⟨dx,i,s,t,o,d,tq,rs,qs,ws,hp,kp,wi,eq⟩:=na.ho
  have hi:=kp.i
  refine ⟨_,((ak (br (aM (bQ (K:=K) rfl) (by rfl) T.gq PyProof.Rows.boot_list (aa (df (K:=K) rfl (pv 0) rfl) ae))))),aQ (σ':=[some _]) rfl ?_⟩
  walk_at "l2"
  refine cJ hp T.c7 T.nC rfl ?_
  walk_at "l2"
  exact q
theorem gn (T:Tx K mg a):FnOk P w K mg base CX0 1 a.aJ a.eh ["self"] (Ee (NAof a)):=by
 refine T.c6.ok lD (fun vs H Q E h=>?_) (fun cdv A outer s H vs Q E hr h=>?_)
 ·obtain ⟨p,N,od,rfl,_⟩:=h;rfl
 ·obtain ⟨p,N,od,rfl,na,q⟩:=h
  obtain ⟨dx,i,s,t,o,d,tq,rs,qs,ws,hp,kp,wi,eq⟩:=na.ho
  have ho:=kp.o
  refine ⟨_,((ak (br (aM (bQ (K:=K) rfl) (by rfl) T.gq PyProof.Rows.boot_list (aa (df (K:=K) rfl (pv 0) rfl) ae))))),aQ (σ':=[some _]) rfl ?_⟩
  walk_at "l2"
  refine cJ hp T.c7 T.kl rfl ?_
  walk_at "l2"
  exact q
theorem fw (T:Tx K mg a):FnOk P w K mg base CX0 1 a.aB a.dH ["self"] (Ac (NAof a)):=by
 refine T.cI.ok j6 (fun vs H Q E h=>?_) (fun cdv A outer s H vs Q E hr h=>?_)
 ·obtain ⟨p,N,od,rfl,_⟩:=h;rfl
 ·obtain ⟨p,N,od,rfl,na,q⟩:=h
  obtain ⟨dx,i,s,t,o,d,tq,rs,qs,ws,hp,kp,wi,eq⟩:=na.ho
  have ht:=kp.t
  refine ⟨_,((ak (br (aM (bQ (K:=K) rfl) (by rfl) T.gq PyProof.Rows.boot_list (aa (df (K:=K) rfl (pv 0) rfl) ae))))),aQ (σ':=[some _]) rfl ?_⟩
  walk_at "l2"
  refine cJ hp T.c7 T.cr rfl ?_
  walk_at "l2"
  intro D H2 f2 s2 e2
  exact q D H2 qs f2 s2 e2 (fun q' m=>s2.get (kp.tr q' m)) kp.et
end
section
variable {P:Program} {w:World} {K:PySem.W.Frag} {mg:Str→Option Value} {base:Heap} {a:Ad}
local macro_rules | `(tactic| walk_at "l2step") =>`(tactic| first | ((with_reducible refine' c_whole ?e ?_);(case e=>walk_at "l2kind")) | ((with_reducible refine' c_mask ?e ?_);(case e=>walk_at "l2kind")) | (with_reducible refine dn ?_) | (with_reducible refine s_methX ?_))
theorem vq (T:Tx K mg a):FnOk P w K mg base CX0 1 a.cu a.ky ["row"] yc:=by
 refine T.ir.ok vc (fun vs H Q E h=>?_) (fun cdv A outer s H vs Q E hr h=>?_)
 ·obtain ⟨z,rfl,_⟩:=h;rfl
 ·obtain ⟨z,rfl,hl,q⟩:=h
  refine ⟨_,((ak (br (cB (K:=K) rfl PySem.F.plainAttrs_str PySem.F.slot_str_split PySem.F.type_str_split jH (pv 0) (aa aV ae))))),aQ (σ':=[some _]) rfl ?_⟩
  walk_at "l2"
  refine mR (by decide +kernel) (by rw [sizeLine_eq];omega) fun D H2 f2 s2 e2=>?_
  rw [ib] at e2
  exact q D H2 f2 s2 e2
theorem yx (T:Tx K mg a):FnOk P w K mg base CX0 1 a.cQ a.og ["text"] Ae:=by
 refine T.jW.ok yk (fun vs H Q E h=>?_) (fun cdv A outer s H vs Q E hr h=>?_)
 ·obtain ⟨z,rfl,_⟩:=h;rfl
 ·obtain ⟨z,rfl,hl,q⟩:=h
  refine ⟨_,((ak (br (CC (aW jv (pv 0) aV (bf _)) (c8 ae) (cB (K:=K) rfl PySem.F.plainAttrs_str PySem.F.slot_str_split PySem.F.type_str_split jH (pv 0) (aa aV ae)))))),aQ (σ':=[some _]) rfl ?_⟩
  walk_at "l2"
  by_cases hz:z=""
  ·refine j7 (decide_eq_true (by rw [hz])) ?_
   rw [if_pos hz] at q
   walk_at "l2"
   intro D H2 f2 s2 e2
   exact q D H2 f2 s2 e2
  ·refine fJ (decide_eq_false fun e=>hz (V.str.inj e)) ?_
   rw [if_neg hz] at q
   walk_at "l2"
   refine mR (by decide +kernel) (by rw [sizeLine_eq];omega) fun D H2 f2 s2 e2=>?_
   rw [iR] at e2
   exact q D H2 f2 s2 e2
theorem vw (T:Tx K mg a):FnOk P w K mg base CX0 2 a.cx a.kB ["words"] Ef:=by
 have eB:=@kb P w K mg base a T
 refine T.iy.ok vd (fun vs H Q E h=>?_) (fun cdv A outer s H vs Q E hr h=>?_)
 ·obtain ⟨l,r,rfl,_⟩:=h;rfl
 ·obtain ⟨l,r,rfl,hl,fm,q⟩:=h
  have a0:∀ (z:Str) (xs:List Str),atI ((z::xs).map V.str) 0=some (.str z):=fun z xs=>cW (j:=0) rfl
  have a1:∀ (y z:Str) (xs:List Str),atI ((y::z::xs).map V.str) 1=some (.str z):=fun y z xs=>cW (j:=1) rfl
  have a2:∀ (x y z:Str) (xs:List Str),atI ((x::y::z::xs).map V.str) 2=some (.str z):=fun x y z xs=>cW (j:=2) rfl
  have i1:inV (V.str "in") [V.str "in",V.str "out"]=true:=by decide +kernel
  have i2:inV (V.str "out") [V.str "in",V.str "out"]=true:=by decide +kernel
  have i3:inV (V.str "sum") [V.str "in",V.str "out"]=false:=by decide +kernel
  have i4:inV (V.str "store") [V.str "in",V.str "out"]=false:=by decide +kernel
  have j3:inV (V.str "sum") [V.str "sum",V.str "store"]=true:=by decide +kernel
  have j4:inV (V.str "store") [V.str "sum",V.str "store"]=true:=by decide +kernel
  have ne1:("sum":Str)≠"store":=by decide +kernel
  refine ⟨_,((af (eF (aW (Gr (K:=K) rfl) (bw (aO (K:=K) rfl) (pv 0) ai (fun _ _=>rfl)) (fq (aa aV (aa aV ae))) (by rfl)) (ak (br (p4 (fM jv (aH (aN (K:=K) rfl) (by rfl) T.eG PySem.boot_len (aa (pv 0) ae)) ai (bf _)) (xy (au eB (hr.mono (by decide)) (by rfl) T.g5 T.gX T.eu .nil aL (aa (bw (aO (K:=K) rfl) (pv 0) ai (fun _ _=>rfl)) ae)))))) bB)
   (af (eF (PW.pt (vg (aW (AI (K:=K) rfl) (bw (aO (K:=K) rfl) (pv 0) ai (fun _ _=>rfl)) (fq (aa aV (aa aV ae))) (by rfl)) (vg (aW ED (aH (aN (K:=K) rfl) (by rfl) T.eG PySem.boot_len (aa (pv 0) ae)) ai (bf _)) (sP (aW AJ (bw (aO (K:=K) rfl) (pv 0) ai (fun _ _=>rfl)) aV (bf _)))))) (ak (br yw)) bB)
   (af (eF (PW.pt (DD (aW jv (bw (aO (K:=K) rfl) (pv 0) ai (fun _ _=>rfl)) aV (bf _)) (AD (aW AJ (aH (aN (K:=K) rfl) (by rfl) T.eG PySem.boot_len (aa (pv 0) ae)) ai (bf _))))) (ak (br yw)) bB)
   (ak (br (p4 (au eB (hr.mono (by decide)) (by rfl) T.g5 T.gX T.eu .nil aL (aa (bw (aO (K:=K) rfl) (pv 0) ai (fun _ _=>rfl)) ae)) (xy (aH (ux (K:=K) rfl rfl) (by rfl) T.Gz PyProof.Rows.boot_all (aa (bO (osc:=ad da) (ON:=["words"]) (N:=["word"]) (n:=1) (fx:=[]) rfl rfl rfl (by decide +kernel) (aG (K:=K) rfl (mD (mB (K:=K) rfl) (pv 0) (qE ai) qF)) (aA (by decide)) (fun _ _ _ _ _=>⟨(ao (i:=0) (show List.Nodup (["word"]:List Str) from by decide +kernel) rfl (by walk_at "o")),bg,(au eB (hr.mono (by decide)) (by rfl) T.g5 T.gX T.eu .nil aL (aa (pv 0) ae))⟩)) ae)))))))))),aQ (σ':=[some _]) rfl ?_⟩
  cases fm with
  | i z h=>
    have hz:=a0 "in" [z]
    have hz1:=a1 "in" z []
    walk_at "l2"
    intro D1 H1 g1 s1 e1
    refine ⟨D1,_,rfl,.inr (SqT.of e1),rfl,rfl,?_⟩
    rw [if_neg Bool.false_ne_true,i1]
    have hl1:=s1.get hl
    walk_at "l2"
    exact c_nm h fun H3 s3=>q H3 (s1.trans s3)
  | o z h=>
    have hz:=a0 "out" [z]
    have hz1:=a1 "out" z []
    walk_at "l2"
    intro D1 H1 g1 s1 e1
    refine ⟨D1,_,rfl,.inr (SqT.of e1),rfl,rfl,?_⟩
    rw [if_neg Bool.false_ne_true,i2]
    have hl1:=s1.get hl
    walk_at "l2"
    exact c_nm h fun H3 s3=>q H3 (s1.trans s3)
  | s z ws h hw hlw=>
    have hz:=a0 "sum" (z::"="::ws)
    have hz1:=a1 "sum" z ("="::ws)
    have hz2:=a2 "sum" z "=" ws
    walk_at "l2"
    intro D1 H1 g1 s1 e1
    refine ⟨D1,_,rfl,.inr (SqT.of e1),rfl,rfl,?_⟩
    rw [if_neg Bool.false_ne_true,i3]
    have hl1:=s1.get hl
    walk_at "l2"
    intro D2 H2 g2 s2 e2
    refine ⟨D2,_,rfl,.inr (SqT.of e2),rfl,rfl,?_⟩
    rw [if_pos rfl,j3]
    have hl2:=s2.get hl1
    walk_at "l2"
    refine c_nm h fun H3 s3=>?_
    have hl3:=s3.get hl2
    walk_at "l2"
    intro D4 H4 f4 s4 e4
    rw [show cutV ((("sum":Str)::z::("=":Str)::ws).map V.str) (some 3) none=(ws).map V.str from (mF _ 3 (by simp)).trans rfl] at e4
    have s04:=s1.trans (s2.trans (s3.trans s4))
    walk_at "l2"
    intro D5 hD5
    refine ay (xs:=(ws).map V.str) (fun i ys H'=>Cs (fun i ys=>ys=(List.replicate i true).map V.bl) H4 D5 i ys H') (Cs.zero hD5 rfl) (fun i ys H' _ c=>SqL.of (c.same.get e4)) (fun i x ys H' hx c=>?_) (fun ys H5 c=>?_)
    ·obtain ⟨w',hw',rfl⟩:=az hx
     have hi:=(List.getElem?_eq_some_iff.mp hw').1
     have hll:=hlw
     walk_at "l2"
     refine c_nm (hw w' (List.mem_of_getElem? hw')) fun H6 s6=>?_
     refine Cs.put hD5 (c.same.trans s6) (s6.get c.at') c.len (by omega) ?_
     rw [c.pv,List.replicate_succ',List.map_append];rfl
    ·have e5:=c.at'
     rw [c.pv] at e5
     walk_at "l2"
     refine Ar (SqL.of e5) ?_
     rw [show (List.replicate ((ws).map V.str).length true).all id=true from List.all_eq_true.mpr fun b hb=>(List.mem_replicate.mp hb).2]
     exact q _ (s04.trans c.same)
  | t z y h hy=>
    have hwy:∀ w∈[y],Nm w:=fun w hw=>by rw [List.mem_singleton.mp hw];exact hy
    have hz:=a0 "store" [z,"=",y]
    have hz1:=a1 "store" z ["=",y]
    have hz2:=a2 "store" z "=" [y]
    walk_at "l2"
    intro D1 H1 g1 s1 e1
    refine ⟨D1,_,rfl,.inr (SqT.of e1),rfl,rfl,?_⟩
    rw [if_neg Bool.false_ne_true,i4]
    have hl1:=s1.get hl
    walk_at "l2"
    intro D2 H2 g2 s2 e2
    refine ⟨D2,_,rfl,.inr (SqT.of e2),rfl,rfl,?_⟩
    rw [if_pos rfl,j4]
    have hl2:=s2.get hl1
    walk_at "l2"
    refine c_nm h fun H3 s3=>?_
    have hl3:=s3.get hl2
    walk_at "l2"
    intro D4 H4 f4 s4 e4
    rw [show cutV (([("store":Str),z,("=":Str),y]).map V.str) (some 3) none=([y]).map V.str from (mF _ 3 (by simp)).trans rfl] at e4
    have s04:=s1.trans (s2.trans (s3.trans s4))
    walk_at "l2"
    intro D5 hD5
    refine ay (xs:=([y]).map V.str) (fun i ys H'=>Cs (fun i ys=>ys=(List.replicate i true).map V.bl) H4 D5 i ys H') (Cs.zero hD5 rfl) (fun i ys H' _ c=>SqL.of (c.same.get e4)) (fun i x ys H' hx c=>?_) (fun ys H5 c=>?_)
    ·obtain ⟨w',hw',rfl⟩:=az hx
     have hi:=(List.getElem?_eq_some_iff.mp hw').1
     have hll:=(show ([y]:List Str).length≤24 by simp)
     walk_at "l2"
     refine c_nm (hwy w' (List.mem_of_getElem? hw')) fun H6 s6=>?_
     refine Cs.put hD5 (c.same.trans s6) (s6.get c.at') c.len (by omega) ?_
     rw [c.pv,List.replicate_succ',List.map_append];rfl
    ·have e5:=c.at'
     rw [c.pv] at e5
     walk_at "l2"
     refine Ar (SqL.of e5) ?_
     rw [show (List.replicate (([y]).map V.str).length true).all id=true from List.all_eq_true.mpr fun b hb=>(List.mem_replicate.mp hb).2]
     exact q _ (s04.trans c.same)
theorem vv (T:Tx K mg a):FnOk P w K mg base CX0 7 a.cw a.kA ["text"] (Ed (NAof a)):=by
 have zO:=@vq P w K mg base a T
 have BO:=@yx P w K mg base a T
 have zP:=@vw P w K mg base a T
 have fk:=@gN P w K mg base a T
 refine T.iw.ok b9 (fun vs H Q E h=>?_) (fun cdv A outer s H vs Q E hr h=>?_)
 ·obtain ⟨rows,rfl,_⟩:=h;rfl
 ·obtain ⟨rows,rfl,fm,lr,g,q⟩:=h
  have tl:=xr fm
  have erow:(if txtR rows="" then [] else Txt.split (txtR rows) ⟨#[10]⟩)=rows.map rowT:=by
   by_cases e:rows=[]
   ·subst e;rw [if_pos (show txtR []="" from rfl)];rfl
   ·rw [if_neg (Ea fm e),pO (fun r hr'=>(fm r hr').wd) e]
  have rl:∀ r∈rows,(rowT r).length≤1000:=fun r hr'=>by
   have b1:=(fm r hr').len
   have b2:=ig b1.2
   omega
  have gd:∀ (r:List Str) (k:Nat),k < r.length→atI (r.map V.str) (k:Int)=some (.str (r.getD k "")):=fun r k hk=>cW (by rw [List.getElem?_map,List.getElem?_eq_getElem hk,List.getD_eq_getElem?_getD,List.getElem?_eq_getElem hk];rfl)
  have fl:∀ r∈rows,2≤r.length:=fun r hr'=>by cases fm r hr'<;>simp
  have f4:∀ r∈rows,kd "store" r=true→4≤r.length:=fun r hr' hk=>by
   obtain ⟨n1,n2,n3,n4,n5,n6,n7,n8,n9,n10,n11,n12⟩:=w_ne
   cases fm r hr' with
   | i z h=>exact absurd (of_decide_eq_true hk) n2
   | o z h=>exact absurd (of_decide_eq_true hk) n12
   | s z ws h hw hlw=>exact absurd (of_decide_eq_true hk) n5
   | t z y h hy=>simp
  have f3:∀ r∈rows,kd "sum" r=true→3≤r.length:=fun r hr' hk=>by
   obtain ⟨n1,n2,n3,n4,n5,n6,n7,n8,n9,n10,n11,n12⟩:=w_ne
   cases fm r hr' with
   | i z h=>exact absurd (of_decide_eq_true hk) n1
   | o z h=>exact absurd (of_decide_eq_true hk) n11
   | s z ws h hw hlw=>simp
   | t z y h hy=>simp
  have fs:∀ (k:Str) (i:Nat) (r:List Str),rows[i]? =some r→(rows.take (i + 1)).filter (kd k)=(rows.take i).filter (kd k)++(if kd k r=true then [r] else []):=fun k i r h=>by
   rw [take_succ h,List.filter_append,List.filter_cons];rfl
  refine ⟨_,((af (cO (osc:=ad bK) (ON:=["text","rows","number","words","ins","sums","stores","outs"]) (N:=["row"]) (n:=1) (fx:=[]) (i:=1) b9.nd rfl rfl rfl rfl rfl rfl (by decide +kernel) (aG (K:=K) rfl (au BO (hr.mono (by decide)) (by rfl) T.Bh T.A7 T.oF .nil aL (aa (pv 0) ae))) (aA (by decide)) (fun _ _ _ _ _=>⟨(ao (i:=0) (show List.Nodup (["row"]:List Str) from by decide +kernel) rfl (by walk_at "o")),bg,(au zO (hr.mono (by decide)) (by rfl) T.zc T.y4 T.kK .nil aL (aa (pv 0) ae))⟩))
   (af (gF PassesOwn.never rfl (EC (K:=K) rfl (by rfl) T.fP (pv 1)) (sU rfl (bA (ao (i:=2) b9.nd rfl (by walk_at "o")) (bA (ao (i:=3) b9.nd rfl (by walk_at "o")) gH))) (ak (eF (pZ (jp (au zP (hr.mono (by decide)) (by rfl) T.zd T.y6 T.kL .nil aL (aa (pv 3) ae)))) (ak eU) bB)))
   (af (cO (osc:=ad bK) (ON:=["text","rows","number","words","ins","sums","stores","outs"]) (N:=["words"]) (n:=1) (fx:=[]) (i:=4) b9.nd rfl rfl rfl rfl rfl rfl (by decide +kernel) (aG (K:=K) rfl (pv 1)) (aA (by decide)) (fun _ _ _ _ _=>⟨(ao (i:=0) (show List.Nodup (["words"]:List Str) from by decide +kernel) rfl (by walk_at "o")),(fL (aW jv (bw (aO (K:=K) rfl) (pv 0) ai (fun _ _=>rfl)) aV (bf _))),(bw (aO (K:=K) rfl) (pv 0) ai (fun _ _=>rfl))⟩))
   (af (cO (osc:=ad bK) (ON:=["text","rows","number","words","ins","sums","stores","outs"]) (N:=["words"]) (n:=1) (fx:=[]) (i:=5) b9.nd rfl rfl rfl rfl rfl rfl (by decide +kernel) (aG (K:=K) rfl (pv 1)) (aA (by decide)) (fun _ _ _ _ _=>⟨(ao (i:=0) (show List.Nodup (["words"]:List Str) from by decide +kernel) rfl (by walk_at "o")),(fL (aW jv (bw (aO (K:=K) rfl) (pv 0) ai (fun _ _=>rfl)) aV (bf _))),(fq (aa (bw (aO (K:=K) rfl) (pv 0) ai (fun _ _=>rfl)) (aa (mD (mB (K:=K) rfl) (pv 0) (qE ai) qF) ae)))⟩))
   (af (cO (osc:=ad bK) (ON:=["text","rows","number","words","ins","sums","stores","outs"]) (N:=["words"]) (n:=1) (fx:=[]) (i:=6) b9.nd rfl rfl rfl rfl rfl rfl (by decide +kernel) (aG (K:=K) rfl (pv 1)) (aA (by decide)) (fun _ _ _ _ _=>⟨(ao (i:=0) (show List.Nodup (["words"]:List Str) from by decide +kernel) rfl (by walk_at "o")),(fL (aW jv (bw (aO (K:=K) rfl) (pv 0) ai (fun _ _=>rfl)) aV (bf _))),(fq (aa (bw (aO (K:=K) rfl) (pv 0) ai (fun _ _=>rfl)) (aa (bw (aO (K:=K) rfl) (pv 0) ai (fun _ _=>rfl)) ae)))⟩))
   (af (cO (osc:=ad bK) (ON:=["text","rows","number","words","ins","sums","stores","outs"]) (N:=["words"]) (n:=1) (fx:=[]) (i:=7) b9.nd rfl rfl rfl rfl rfl rfl (by decide +kernel) (aG (K:=K) rfl (pv 1)) (aA (by decide)) (fun _ _ _ _ _=>⟨(ao (i:=0) (show List.Nodup (["words"]:List Str) from by decide +kernel) rfl (by walk_at "o")),(fL (aW jv (bw (aO (K:=K) rfl) (pv 0) ai (fun _ _=>rfl)) aV (bf _))),(bw (aO (K:=K) rfl) (pv 0) ai (fun _ _=>rfl))⟩))
   (ak (br (mX T.G3 fk (hr.mono (by decide)) (by rfl) T.GL T.dw .nil aL (aa (pv 4) (aa (pv 5) (aa (pv 6) (aa (pv 7) ae)))))))))))))),aQ (σ':=[some _,none,none,none,none,none,none,none]) rfl ?_⟩
  walk_at "l2"
  refine ⟨txtR rows,rfl,by omega,fun D1 H1 f1 s1 e1=>?_⟩
  rw [erow] at e1
  walk_at "l2"
  intro D2 hD2
  refine ay (xs:=(rows.map rowT).map V.str) (fun i ys H'=>∃ ds:List Addr,ys=ds.map V.ref∧Same H1 H'∧H' D2=some (.lst ys)∧ds.length=i∧(∀ d∈ds,d≠D2)∧∀ (j:Nat) (d:Addr) (r:List Str),ds[j]? =some d→rows[j]? =some r→H' d=some (.lst (r.map V.str))) ⟨[],rfl,a9 hD2,al,rfl,fun _ h=>(by cases h),fun j d r h=>(by simp at h)⟩ (fun i ys H' _ ⟨_,_,s',_⟩=>SqL.of (s'.get e1)) ?_ ?_
  ·rintro i y ys H' hy ⟨ds,rfl,s',e',ld,nd,hd⟩
   obtain ⟨z,hz,rfl⟩:=az hy
   rw [List.getElem?_map] at hz
   obtain ⟨r,hr',rfl⟩:=Option.map_eq_some_iff.mp hz
   have hlt:=(List.getElem?_eq_some_iff.mp hr').1
   have hm:=List.mem_of_getElem? hr'
   have hrl:=rl r hm
   walk_at "l2"
   refine ⟨rowT r,rfl,by omega,fun D3 H3 f3' s3 e3=>?_⟩
   rw [pS (fm r hm).wd (fm r hm).ne] at e3
   have hDD:D3≠D2:=fun z=>by rw [z,e'] at f3';cases f3'
   have k3:∀ b ob,b≠D2→H3 b=some ob→upd H3 D2 (.lst (ds.map V.ref++[.ref D3])) b=some ob:=fun b ob n e=>by rw [aq n];exact e
   refine ⟨s3.get e',by rw [List.length_map];exact aE (by omega),ds++[D3],by rw [List.map_append];rfl,fun b ob e=>k3 _ _ (ah e hD2) (s3.get (s'.get e)),al,by rw [List.length_append,ld];rfl,fun d hd'=>?_,fun j d r' hj hj'=>?_⟩
   ·rcases List.mem_append.mp hd' with h | h
    ·exact nd d h
    ·rw [List.mem_singleton.mp h];exact hDD
   ·by_cases hjl:j < ds.length
    ·rw [List.getElem?_append_left hjl] at hj
     exact k3 _ _ (nd d (List.mem_of_getElem? hj)) (s3.get (hd j d r' hj hj'))
    ·have hl:=(List.getElem?_eq_some_iff.mp hj).1
     rw [List.length_append,List.length_singleton] at hl
     rw [List.getElem?_append_right (by omega),show j - ds.length=0 by omega] at hj
     cases hj
     rw [show j=i by omega,hr'] at hj'
     cases hj'
     exact k3 _ _ hDD e3
  ·rintro ys H2 ⟨ds,rfl,s2,e2,ld,nd,hd⟩
   rw [List.length_map,List.length_map] at ld
   have hd2:∀ {j:Nat} {d:Addr} {r:List Str},ds[j]? =some d→rows[j]? =some r→H2 d=some (.lst (r.map V.str)):=fun {j d r}=>hd j d r
   have dr:∀ {j:Nat} {d:Addr},ds[j]? =some d→∃ r,rows[j]? =some r∧r∈rows:=fun {j d} h=>by
    have hl:=(List.getElem?_eq_some_iff.mp h).1
    exact ⟨_,List.getElem?_eq_getElem (by omega),List.getElem_mem _⟩
   have s02:=s1.trans s2
   clear hd nd e1 s2 s1 f1
   walk_at "l2"
   refine xI (xs:=ds.map V.ref) (fun i σ H'=>∃ v2 v3 v4 v5 v6 v7,σ=[some (.str (txtR rows)),some (.ref D2),v2,v3,v4,v5,v6,v7]∧Same H2 H') ⟨none,none,none,none,none,none,rfl,Same.refl _⟩ (fun i σ H' _ ⟨_,_,_,_,_,_,_,s'⟩=>SqL.of (s'.get e2)) ?_ ?_
   ·rintro i y σ H' pz H3 hy ⟨v2,v3,v4,v5,v6,v7,rfl,s'⟩ fp s3 e3
    obtain ⟨d,hd',rfl⟩:=az hy
    obtain ⟨r,hr',hm⟩:=dr hd'
    walk_at "l2"
    refine ⟨d,r,rfl,s3.get (s'.get (hd2 hd' hr')),fm r hm,fun H4 s4=>?_⟩
    walk_at "l2"
    exact ⟨_,_,_,_,_,_,rfl,s'.trans (s3.trans s4)⟩
   ·rintro σ H3 ⟨v2,v3,v4,v5,v6,v7,rfl,s3⟩
    have e23:=s3.get e2
    walk_at "l2"
    intro Di hDi
    refine ay (xs:=ds.map V.ref) (fun i ys H'=>Cs (fun i ys=>ys=(((rows.take i).filter (kd "in")).map fun r=>r.getD 1 "").map V.str) H3 Di i ys H') (Cs.zero hDi rfl) (fun i ys H' _ c=>SqL.of (c.same.get (s3.get e2))) (fun i y ys H' hy c=>?_) (fun ys H4 c=>?_)
    ·obtain ⟨d,hd',rfl⟩:=az hy
     obtain ⟨r,hr',hm⟩:=dr hd'
     have hlt:=(List.getElem?_eq_some_iff.mp hr').1
     have er:=c.same.get (s3.get (hd2 hd' hr'))
     have l2r:=fl r hm
     have g0:=gd r 0 (by omega)
     have g1:=gd r 1 (by omega)
     walk_at "l2"
     by_cases hk:r.getD 0 ""="in"
     ·refine j7 (decide_eq_true (by rw [hk])) ?_
      walk_at "l2"
      refine Cs.put hDi c.same c.at' c.len (by omega) ?_
      rw [c.pv,fs "in" i r hr',if_pos (show kd "in" r=true from decide_eq_true hk),List.map_append,List.map_append];rfl
     ·refine fJ (decide_eq_false fun e=>hk (V.str.inj e)) ?_
      refine Cs.skip c.same c.at' c.len ?_
      rw [c.pv,fs "in" i r hr',if_neg (show ¬ kd "in" r=true from fun z=>hk (of_decide_eq_true z)),List.append_nil]
    ·have eDi:=c.at'
     rw [c.pv,List.length_map,ld,List.take_length] at eDi
     have s4':=c.same
     clear c
     have s24:=s3.trans s4'
     walk_at "l2"
     intro Ds hDs
     refine ay (xs:=ds.map V.ref) (fun i ys H'=>∃ rs:List Rw,ys=rs.map (fun r=>V.ref r.1)∧Same H4 H'∧H' Ds=some (.lst ys)∧rs.length≤i∧RwL H' rs∧(∀ r∈rs,r.2.1≠Ds)∧rs.map (·.2.2)=((rows.take i).filter (kd "sum")).map fun r=>(r.getD 1 "",r.drop 3)) ⟨[],rfl,a9 hDs,al,Nat.le_refl _,fun _ h=>(by cases h),fun _ h=>(by cases h),rfl⟩ (fun i ys H' _ ⟨_,_,s',_⟩=>SqL.of (s'.get (s24.get e2))) ?_ ?_
     ·rintro i y ys H' hy ⟨rs,ey,s',e',lrs,rk,rd,er0⟩
      obtain ⟨d,hd',rfl⟩:=az hy
      obtain ⟨r,hr',hm⟩:=dr hd'
      have hlt:=(List.getElem?_eq_some_iff.mp hr').1
      have er:=s'.get (s24.get (hd2 hd' hr'))
      have l2r:=fl r hm
      have g0:=gd r 0 (by omega)
      have g1:=gd r 1 (by omega)
      walk_at "l2"
      by_cases hk:r.getD 0 ""="sum"
      ·have hkd:kd "sum" r=true:=decide_eq_true hk
       refine j7 (decide_eq_true (by rw [hk])) ?_
       walk_at "l2"
       intro Dw H5 f5 s5 e5
       rw [show cutV (r.map V.str) (some 3) none=(r.drop 3).map V.str from (mF (r.map V.str) 3 (by rw [List.length_map];exact f3 r hm hkd)).trans (List.map_drop ..).symm] at e5
       walk_at "l2"
       intro tp H6 f6 s6 e6
       have s56:=s5.trans s6
       have e'6:=s56.get e'
       have hDw:Dw≠Ds:=fun z=>by rw [z,e'] at f5;cases f5
       have k6:∀ b ob,b≠Ds→H6 b=some ob→upd H6 Ds (.lst (ys++[.ref tp])) b=some ob:=fun b ob n e=>by rw [aq n];exact e
       refine ⟨e'6,by rw [ey,List.length_map];exact aE (by omega),rs++[(tp,Dw,r.getD 1 "",r.drop 3)],by rw [ey,List.map_append];rfl,fun b ob e=>k6 _ _ (ah e hDs) (s56.get (s'.get e)),al,by rw [List.length_append,List.length_singleton];omega,fun r' hr2=>?_,fun r' hr2=>?_,?_⟩
       ·rcases List.mem_append.mp hr2 with h | h
        ·have t1:=s56.get (rk r' h).1
         exact ⟨k6 _ _ (fz t1 e'6 fun z=>by cases z) t1,k6 _ _ (rd r' h) (s56.get (rk r' h).2)⟩
        ·rw [List.mem_singleton.mp h]
         exact ⟨k6 _ _ (fz e6 e'6 fun z=>by cases z) e6,k6 _ _ hDw (s6.get e5)⟩
       ·rcases List.mem_append.mp hr2 with h | h
        ·exact rd r' h
        ·rw [List.mem_singleton.mp h];exact hDw
       ·rw [List.map_append,er0,fs "sum" i r hr',if_pos hkd,List.map_append];rfl
      ·refine fJ (decide_eq_false fun e=>hk (V.str.inj e)) ?_
       exact ⟨rs,ey,s',e',by omega,rk,rd,by rw [er0,fs "sum" i r hr',if_neg (show ¬ kd "sum" r=true from fun z=>hk (of_decide_eq_true z)),List.append_nil]⟩
     ·rintro ys H5 ⟨rs,rfl,s5',eDs,lrs,rk,rd,er0⟩
      rw [List.length_map,ld,List.take_length] at er0
      have s25:=s24.trans s5'
      walk_at "l2"
      intro Dt hDt
      refine ay (xs:=ds.map V.ref) (fun i ys H'=>∃ qs:List Qs,ys=qs.map (fun r=>V.ref r.1)∧Same H5 H'∧H' Dt=some (.lst ys)∧qs.length≤i∧QsK H' qs∧qs.map (·.2)=((rows.take i).filter (kd "store")).map fun r=>(r.getD 1 "",r.getD 3 "")) ⟨[],rfl,a9 hDt,al,Nat.le_refl _,fun _ h=>(by cases h),rfl⟩ (fun i ys H' _ ⟨_,_,s',_⟩=>SqL.of (s'.get (s25.get e2))) ?_ ?_
      ·rintro i y ys H' hy ⟨qs,ey,s',e',lqs,qk,eq0⟩
       obtain ⟨d,hd',rfl⟩:=az hy
       obtain ⟨r,hr',hm⟩:=dr hd'
       have hlt:=(List.getElem?_eq_some_iff.mp hr').1
       have er:=s'.get (s25.get (hd2 hd' hr'))
       have l2r:=fl r hm
       have g0:=gd r 0 (by omega)
       have g1:=gd r 1 (by omega)
       walk_at "l2"
       by_cases hk:r.getD 0 ""="store"
       ·have hkd:kd "store" r=true:=decide_eq_true hk
        have g3:=gd r 3 (by have:=f4 r hm hkd;omega)
        refine j7 (decide_eq_true (by rw [hk])) ?_
        walk_at "l2"
        intro tp H6 f6 s6 e6
        have e'6:=s6.get e'
        refine ⟨e'6,by rw [ey,List.length_map];exact aE (by omega),qs++[(tp,r.getD 1 "",r.getD 3 "")],by rw [ey,List.map_append];rfl,fun b ob e=>?_,al,by rw [List.length_append,List.length_singleton];omega,fun q' hq'=>?_,?_⟩
        ·rw [aq (ah e hDt)];exact s6.get (s'.get e)
        ·have:H6 q'.1=some (.tup [.str q'.2.1,.str q'.2.2]):=by
          rcases List.mem_append.mp hq' with h | h
          ·exact s6.get (qk q' h)
          ·rw [List.mem_singleton.mp h];exact e6
         rw [aq (fz this e'6 fun z=>by cases z)];exact this
        ·rw [List.map_append,eq0,fs "store" i r hr',if_pos hkd,List.map_append];rfl
       ·refine fJ (decide_eq_false fun e=>hk (V.str.inj e)) ?_
        exact ⟨qs,ey,s',e',by omega,qk,by rw [eq0,fs "store" i r hr',if_neg (show ¬ kd "store" r=true from fun z=>hk (of_decide_eq_true z)),List.append_nil]⟩
      ·rintro ys H6 ⟨qs,rfl,s6',eDt,lqs,qk,eq0⟩
       rw [List.length_map,ld,List.take_length] at eq0
       have s26:=s25.trans s6'
       walk_at "l2"
       intro Do hDo
       refine ay (xs:=ds.map V.ref) (fun i ys H'=>Cs (fun i ys=>ys=(((rows.take i).filter (kd "out")).map fun r=>r.getD 1 "").map V.str) H6 Do i ys H') (Cs.zero hDo rfl) (fun i ys H' _ c=>SqL.of (c.same.get (s26.get e2))) (fun i y ys H' hy c=>?_) (fun ys H7 c=>?_)
       ·obtain ⟨d,hd',rfl⟩:=az hy
        obtain ⟨r,hr',hm⟩:=dr hd'
        have hlt:=(List.getElem?_eq_some_iff.mp hr').1
        have er:=c.same.get (s26.get (hd2 hd' hr'))
        have l2r:=fl r hm
        have g0:=gd r 0 (by omega)
        have g1:=gd r 1 (by omega)
        walk_at "l2"
        by_cases hk:r.getD 0 ""="out"
        ·refine j7 (decide_eq_true (by rw [hk])) ?_
         walk_at "l2"
         refine Cs.put hDo c.same c.at' c.len (by omega) ?_
         rw [c.pv,fs "out" i r hr',if_pos (show kd "out" r=true from decide_eq_true hk),List.map_append,List.map_append];rfl
        ·refine fJ (decide_eq_false fun e=>hk (V.str.inj e)) ?_
         refine Cs.skip c.same c.at' c.len ?_
         rw [c.pv,fs "out" i r hr',if_neg (show ¬ kd "out" r=true from fun z=>hk (of_decide_eq_true z)),List.append_nil]
       ·have eDo:=c.at'
        rw [c.pv,List.length_map,ld,List.take_length] at eDo
        have s7':=c.same
        clear c
        walk_at "l2"
        intro x dx8 H8 f8 s8 e8
        have s68:=s7'.trans s8
        have s58:=s6'.trans s68
        have s48:=s5'.trans s58
        refine ⟨x,dx8,Di,Ds,Dt,Do,rs,qs,netR rows,rfl,e8,⟨s48.get eDi,s58.get eDs,rk.same s58,er0,s68.get eDt,fun q' m=>s68.get (qk q' m),eq0,s8.get eDo⟩,g,fun H9 od k9 na=>⟨rfl,?_⟩⟩
        have s79:Same H7 H9:=fun b ob e=>k9 _ _ (ah e f8) (s8.get e)
        have s07:=s02.trans (s26.trans s7')
        exact q x H9 od (s07.free f8) (s07.trans s79) na
end
section
variable {P:Program} {w:World} {K:PySem.W.Frag} {mg:Str→Option Value} {base:Heap} {a:Ad}
local macro_rules | `(tactic| walk_at "l2step") =>`(tactic| first | ((with_reducible refine' c_whole ?e ?_);(case e=>walk_at "l2kind")) | ((with_reducible refine' c_mask ?e ?_);(case e=>walk_at "l2kind")) | (with_reducible refine dn ?_) | (with_reducible refine s_methX ?_))
theorem gL (T:Tx K mg a):FnOk P w K mg base CX0 1 a.aS a.eZ ["self"] (Eb (NAof a)):=by
 refine T.dy.ok mO (fun vs H Q E h=>?_) (fun cdv A outer s H vs Q E hr h=>?_)
 ·obtain ⟨p,N,od,rfl,_⟩:=h;rfl
 ·obtain ⟨p,N,od,rfl,na,q⟩:=h
  obtain ⟨dx,i,s,t,o,d,tq,rs,qs,ws,hp,kp,wi,eq⟩:=na.ho
  have hs:=kp.s
  refine ⟨_,((ak (br (aM (bQ (K:=K) rfl) (by rfl) T.gq PyProof.Rows.boot_list (aa (df (K:=K) rfl (pv 0) rfl) ae))))),aQ (σ':=[some _]) rfl ?_⟩
  walk_at "l2"
  refine cJ hp T.c7 T.fA rfl ?_
  walk_at "l2"
  intro D H2 f2 s2 e2
  exact q D H2 rs f2 s2 e2 (RwK.same kp.sr s2) kp.es
theorem vy (T:Tx K mg a):FnOk P w K mg base CX0 2 a.bP a.kE ["self"] (Cc (NAof a)):=by
 have fj:=@gM P w K mg base a T
 have fi:=@gL P w K mg base a T
 have dJ:=@fw P w K mg base a T
 have eE:=@gn P w K mg base a T
 refine T.iB.ok ve (fun vs H Q E h=>?_) (fun cdv A outer s H vs Q E hr h=>?_)
 ·obtain ⟨p,N,od,rfl,_⟩:=h;rfl
 ·obtain ⟨p,N,od,rfl,na,q⟩:=h
  obtain ⟨dx,i,s,t,o,d,tq,rs,qs,ws,hp,kp,wi,eq⟩:=na.ho
  refine ⟨_,((ak (br (fq (aa (cP (pv 0) T.c7 T.iL fj (hr.mono (by decide)) T.du .nil aL) (aa (cP (pv 0) T.c7 T.iK fi (hr.mono (by decide)) T.dq .nil aL) (aa (cP (pv 0) T.c7 T.gu dJ (hr.mono (by decide)) T.cH .nil aL) (aa (cP (pv 0) T.c7 T.gU eE (hr.mono (by decide)) T.cV .nil aL) ae)))))))),aQ (σ':=[some _]) rfl ?_⟩
  walk_at "l2"
  refine cN hp rfl ?_
  walk_at "l2"
  refine ⟨p,N,od,rfl,na,fun D1 H1 f1 s1 e1=>?_⟩
  walk_at "l2"
  refine cN (s1.get hp) rfl ?_
  walk_at "l2"
  refine ⟨p,N,od,rfl,na.same s1,fun D2 H2 rs2 f2 s2 e2 rk es=>?_⟩
  have s02:=s1.trans s2
  walk_at "l2"
  refine cN (s02.get hp) rfl ?_
  walk_at "l2"
  refine ⟨p,N,od,rfl,na.same s02,fun D3 H3 qs3 f3 s3 e3 qk et=>?_⟩
  have s03:=s02.trans s3
  walk_at "l2"
  refine cN (s03.get hp) rfl ?_
  walk_at "l2"
  refine ⟨p,N,od,rfl,na.same s03,fun D4 H4 f4 s4 e4=>?_⟩
  walk_at "l2"
  intro t5 H5 f5 s5 e5
  have s45:=s4.trans s5
  have s35:=s3.trans s45
  exact q t5 D1 D2 D3 D4 H5 rs2 qs3 f1 (s1.free f2) (s02.free f3) (s03.free f4) (s03.free (s4.free f5)) (s03.trans s45) ⟨e5,s35.get (s2.get e1),s35.get e2,rk.same s35,es,s45.get e3,fun q' m=>s45.get (qk q' m),et,s5.get e4⟩
theorem vt (T:Tx K mg a):FnOk P w K mg base CX0 2 a.cv a.kz ["net"] (Ec (NAof a)):=by
 have fj:=@gM P w K mg base a T
 have fi:=@gL P w K mg base a T
 have dJ:=@fw P w K mg base a T
 have eE:=@gn P w K mg base a T
 refine T.iu.ok mM (fun vs H Q E h=>?_) (fun cdv A outer s H vs Q E hr h=>?_)
 ·obtain ⟨p,N,od,rfl,_⟩:=h;rfl
 ·obtain ⟨p,N,od,rfl,na,q⟩:=h
  obtain ⟨dx,i,s,t,o,d,tq,rs,qs,ws,hp,kp,wi,eq⟩:=na.ho
  have g:=na.g
  have li:=g.li
  have ls:=g.ls
  have lt:=g.lt
  have lo:=g.lo
  have fm:=qB g
  have lrw:=mS g
  refine ⟨_,((af (cO (osc:=ad bJ) (ON:=["net","rows"]) (N:=["name"]) (n:=1) (fx:=[]) (i:=1) mM.nd rfl rfl rfl rfl rfl rfl (by decide +kernel) (aG (K:=K) rfl (cP (pv 0) T.c7 T.iL fj (hr.mono (by decide)) T.du .nil aL)) (aA (by decide)) (fun _ _ _ _ _=>⟨(ao (i:=0) (show List.Nodup (["name"]:List Str) from by decide +kernel) rfl (by walk_at "o")),bg,(c8 (aa aV (aa (pv 0) ae)))⟩))
   (af (bN (cB (K:=K) rfl PySem.F.plainAttrs_list PySem.F.slot_list_extend PySem.F.type_list_extend fC (pv 1) (aa (bO (osc:=ad bJ) (ON:=["net","rows"]) (N:=["row"]) (n:=1) (fx:=[]) rfl rfl rfl (by decide +kernel) (aG (K:=K) rfl (cP (pv 0) T.c7 T.iK fi (hr.mono (by decide)) T.dq .nil aL)) (aA (by decide)) (fun _ _ _ _ _=>⟨(ao (i:=0) (show List.Nodup (["row"]:List Str) from by decide +kernel) rfl (by walk_at "o")),bg,(aF jw (c8 (aa aV (aa (bw (bW (K:=K) rfl) (pv 0) ai (fun _ _=>rfl)) (aa aV ae)))) (aM (bQ (K:=K) rfl) (by rfl) T.gq PyProof.Rows.boot_list (aa (bw (bW (K:=K) rfl) (pv 0) ai (fun _ _=>rfl)) ae)))⟩)) ae)))
   (af (bN (cB (K:=K) rfl PySem.F.plainAttrs_list PySem.F.slot_list_extend PySem.F.type_list_extend fC (pv 1) (aa (bO (osc:=ad bJ) (ON:=["net","rows"]) (N:=["row"]) (n:=1) (fx:=[]) rfl rfl rfl (by decide +kernel) (aG (K:=K) rfl (cP (pv 0) T.c7 T.gu dJ (hr.mono (by decide)) T.cH .nil aL)) (aA (by decide)) (fun _ _ _ _ _=>⟨(ao (i:=0) (show List.Nodup (["row"]:List Str) from by decide +kernel) rfl (by walk_at "o")),bg,(c8 (aa aV (aa (bw (bW (K:=K) rfl) (pv 0) ai (fun _ _=>rfl)) (aa aV (aa (bw (bW (K:=K) rfl) (pv 0) ai (fun _ _=>rfl)) ae)))))⟩)) ae)))
   (af (bN (cB (K:=K) rfl PySem.F.plainAttrs_list PySem.F.slot_list_extend PySem.F.type_list_extend fC (pv 1) (aa (bO (osc:=ad bJ) (ON:=["net","rows"]) (N:=["wire"]) (n:=1) (fx:=[]) rfl rfl rfl (by decide +kernel) (aG (K:=K) rfl (cP (pv 0) T.c7 T.gU eE (hr.mono (by decide)) T.cV .nil aL)) (aA (by decide)) (fun _ _ _ _ _=>⟨(ao (i:=0) (show List.Nodup (["wire"]:List Str) from by decide +kernel) rfl (by walk_at "o")),bg,(c8 (aa aV (aa (pv 0) ae)))⟩)) ae)))
   (ak (br (cB (K:=K) rfl PySem.F.plainAttrs_str PySem.F.slot_str_join PySem.F.type_str_join (jI (K:=K) rfl) aV (aa (bO (osc:=ad bJ) (ON:=["net","rows"]) (N:=["words"]) (n:=1) (fx:=[]) rfl rfl rfl (by decide +kernel) (aG (K:=K) rfl (pv 1)) (aA (by decide)) (fun _ _ _ _ _=>⟨(ao (i:=0) (show List.Nodup (["words"]:List Str) from by decide +kernel) rfl (by walk_at "o")),bg,(cB (K:=K) rfl PySem.F.plainAttrs_str PySem.F.slot_str_join PySem.F.type_str_join (jI (K:=K) rfl) aV (aa (pv 0) ae))⟩)) ae))))))))),aQ (σ':=[some _,none]) rfl ?_⟩
  walk_at "l2"
  refine cN hp rfl ?_
  walk_at "l2"
  refine ⟨p,N,od,rfl,na,fun D1 H1 f1 s1 e1=>?_⟩
  walk_at "l2"
  intro D2 hD2
  refine ay (xs:=N.ins.map V.str) (fun i ys H'=>Same H1 H'∧H' D2=some (.lst ys)∧Lrw H1 H' D2 ys ((N.ins.take i).map fun z=>[("in":Str),z])) ⟨a9 hD2,al,Lrw.nil⟩ (fun i ys H' _ ⟨s',_⟩=>SqL.of (s'.get e1)) ?_ ?_
  ·rintro i y ys H' hy ⟨s',e',lr⟩
   obtain ⟨z,hz,rfl⟩:=az hy
   have hlt:=(List.getElem?_eq_some_iff.mp hz).1
   walk_at "l2"
   intro D3 H3 f3 s3 e3
   have hlen:=lr.len
   rw [List.length_map,List.length_take] at hlen
   refine ⟨s3.get e',aE (by omega),fun b ob e=>?_,al,?_⟩
   ·rw [aq (ah e hD2)];exact s3.get (s'.get e)
   ·rw [take_succ hz,List.map_append]
    exact lr.put (s'.free f3) e' f3 s3 e3
  ·rintro ys H2 ⟨s2,e2,lr2⟩
   rw [List.length_map,List.take_length] at lr2
   have s02:=s1.trans s2
   have l2:=lr2.len
   rw [List.length_map] at l2
   walk_at "l2"
   refine cN (s02.get hp) rfl ?_
   walk_at "l2"
   refine ⟨p,N,od,rfl,na.same s02,fun D3 H3 rs3 f3 s3 e3 rk es=>?_⟩
   have lrs:rs3.length=N.sums.length:=by rw [← es,List.length_map]
   walk_at "l2"
   intro D4 hD4
   refine ay (xs:=rs3.map fun r=>V.ref r.1) (fun i ys H'=>Same H3 H'∧H' D4=some (.lst ys)∧Lrw H3 H' D4 ys ((N.sums.take i).map fun r=>("sum":Str)::r.1::("=":Str)::r.2)) ⟨a9 hD4,al,Lrw.nil⟩ (fun i ys H' _ ⟨s',_⟩=>SqL.of (s'.get e3)) ?_ ?_
   ·rintro i y ys H' hy ⟨s',e',lr⟩
    obtain ⟨r,hr',rfl⟩:=az hy
    have hlt:=(List.getElem?_eq_some_iff.mp hr').1
    obtain ⟨er1,er2⟩:=rk r (List.mem_of_getElem? hr')
    have er1':=s'.get er1
    have hsm:N.sums[i]? =some r.2.2:=by rw [← es,List.getElem?_map,hr'];rfl
    have hlw:=g.lw _ (List.mem_of_getElem? hsm)
    walk_at "l2"
    intro D5 H5 f5 s5 e5
    have er1'':=s5.get er1'
    have er2'':=s5.get (s'.get er2)
    walk_at "l2"
    intro D6 H6 f6 s6 e6
    refine qA (s6.get e5) e6 (by rw [List.length_map,sizeLine_eq];simp;omega) fun D7 H7 f7 s7 e7=>?_
    have s57:=s5.trans (s6.trans s7)
    have hlen:=lr.len
    rw [List.length_map,List.length_take] at hlen
    have f7':H' D7=none:=s5.free (s6.free f7)
    refine ⟨s57.get e',aE (by omega),fun b ob e=>?_,al,?_⟩
    ·rw [aq (ah e hD4)];exact s57.get (s'.get e)
    ·rw [take_succ hsm,List.map_append]
     exact lr.put (s'.free f7') e' f7' s57 e7
   ·rintro ys3 H4 ⟨s4,e4,lr4⟩
    rw [List.length_map,lrs,List.take_length] at lr4
    have l4:=lr4.len
    rw [List.length_map] at l4
    have s24:=s3.trans s4
    have lr4':Lrw H2 H4 D4 ys3 _:=lr4.base s3
    walk_at "l2"
    refine ie (s24.get e2) e4 (by rw [sizeLine_eq];omega) fun H5 u5=>?_
    have lr5:=lr2.join e2 s2 s24 lr4' u5
    have s15:Same H1 H5:=fun b ob e=>u5.oth _ _ (ah e hD2) (s24.get (s2.get e))
    have s05:=s1.trans s15
    have l5:=lr5.len
    clear lr2 lr4 lr4' e4 e3 rk es f3
    have e5:=u5.at'
    walk_at "l2"
    refine cN (s05.get hp) rfl ?_
    walk_at "l2"
    refine ⟨p,N,od,rfl,na.same s05,fun D6 H6 qs6 f6 s6 e6 qk et=>?_⟩
    have lqs:qs6.length=N.sts.length:=by rw [← et,List.length_map]
    walk_at "l2"
    intro D7 hD7
    refine ay (xs:=qs6.map fun r=>V.ref r.1) (fun i ys H'=>Same H6 H'∧H' D7=some (.lst ys)∧Lrw H6 H' D7 ys ((N.sts.take i).map fun r=>[("store":Str),r.1,("=":Str),r.2])) ⟨a9 hD7,al,Lrw.nil⟩ (fun i ys H' _ ⟨s',_⟩=>SqL.of (s'.get e6)) ?_ ?_
    ·rintro i y ys H' hy ⟨s',e',lr⟩
     obtain ⟨r,hr',rfl⟩:=az hy
     have hlt:=(List.getElem?_eq_some_iff.mp hr').1
     have er1':=s'.get (qk r (List.mem_of_getElem? hr'))
     have hsm:N.sts[i]? =some r.2:=by rw [← et,List.getElem?_map,hr'];rfl
     walk_at "l2"
     intro D8 H8 f8 s8 e8
     have hlen:=lr.len
     rw [List.length_map,List.length_take] at hlen
     refine ⟨s8.get e',aE (by omega),fun b ob e=>?_,al,?_⟩
     ·rw [aq (ah e hD7)];exact s8.get (s'.get e)
     ·rw [take_succ hsm,List.map_append]
      exact lr.put (s'.free f8) e' f8 s8 e8
    ·rintro ys7 H7 ⟨s7,e7,lr7⟩
     rw [List.length_map,lqs,List.take_length] at lr7
     have l7:=lr7.len
     rw [List.length_map] at l7
     have s57:=s6.trans s7
     simp only [List.length_append,List.length_map] at l5
     walk_at "l2"
     refine ie (s57.get e5) e7 (by rw [sizeLine_eq];simp only [List.length_append];omega) fun H8 u8=>?_
     have lr8:=lr5.join e5 s15 s57 (lr7.base s6) u8
     have s18:Same H1 H8:=fun b ob e=>u8.oth _ _ (ah e hD2) (s57.get (s15.get e))
     have s08:=s1.trans s18
     have l8:=lr8.len
     clear lr5 lr7 e7 e6 qk et f6 e5
     have e8:=u8.at'
     walk_at "l2"
     refine cN (s08.get hp) rfl ?_
     walk_at "l2"
     refine ⟨p,N,od,rfl,na.same s08,fun D9 H9 f9 s9 e9=>?_⟩
     walk_at "l2"
     intro D10 hD10
     refine ay (xs:=N.outs.map V.str) (fun i ys H'=>Same H9 H'∧H' D10=some (.lst ys)∧Lrw H9 H' D10 ys ((N.outs.take i).map fun z=>[("out":Str),z])) ⟨a9 hD10,al,Lrw.nil⟩ (fun i ys H' _ ⟨s',_⟩=>SqL.of (s'.get e9)) ?_ ?_
     ·rintro i y ys H' hy ⟨s',e',lr⟩
      obtain ⟨z,hz,rfl⟩:=az hy
      have hlt:=(List.getElem?_eq_some_iff.mp hz).1
      walk_at "l2"
      intro D11 H11 f11 s11 e11
      have hlen:=lr.len
      rw [List.length_map,List.length_take] at hlen
      refine ⟨s11.get e',aE (by omega),fun b ob e=>?_,al,?_⟩
      ·rw [aq (ah e hD10)];exact s11.get (s'.get e)
      ·rw [take_succ hz,List.map_append]
       exact lr.put (s'.free f11) e' f11 s11 e11
     ·rintro ys10 H10 ⟨s10,e10,lr10⟩
      rw [List.length_map,List.take_length] at lr10
      have l10:=lr10.len
      rw [List.length_map] at l10
      have s810:=s9.trans s10
      simp only [List.length_append,List.length_map] at l8
      walk_at "l2"
      refine ie (s810.get e8) e10 (by rw [sizeLine_eq];simp only [List.length_append];omega) fun H11 u11=>?_
      have lr11:Lrw H1 H11 D2 _ (d4 N):=lr8.join e8 s18 s810 (lr10.base s9) u11
      have s111:Same H1 H11:=fun b ob e=>u11.oth _ _ (ah e hD2) (s810.get (s18.get e))
      have s011:=s1.trans s111
      have e11:=u11.at'
      clear lr8 lr10 e10 e9 f9 e8 u11
      generalize ys++ys3++ys7++ys10=Y at lr11 e11
      obtain ⟨ds,rfl,ld,_,_,hd⟩:=lr11
      walk_at "l2"
      intro D12 hD12
      refine ay (xs:=ds.map V.ref) (fun i ys H'=>Cs (fun i ys=>ys=(((d4 N).take i).map rowT).map V.str) H11 D12 i ys H') (Cs.zero hD12 rfl) (fun i ys H' _ c=>SqL.of (c.same.get e11)) (fun i y ys H' hy c=>?_) (fun ys H12 c=>?_)
      ·obtain ⟨d,hd',rfl⟩:=az hy
       have hlt:=(List.getElem?_eq_some_iff.mp hd').1
       obtain ⟨r,hr'⟩:∃ r,(d4 N)[i]? =some r:=⟨_,List.getElem?_eq_getElem (by omega)⟩
       have hm:=List.mem_of_getElem? hr'
       have er:=c.same.get (hd i d r hd' hr')
       have b1:=(fm r hm).len
       have hsum:∀ (l:List Str),(∀ w∈l,w.length≤6)→(l.map (·.length)).sum≤l.length * 6:=fun l=>by
        induction l with
        | nil=>intro _;simp
        | cons x l ih=>intro h;have:=ih fun w hw=>h w (List.mem_cons_of_mem _ hw);have:=h x List.mem_cons_self;simp only [List.map_cons,List.sum_cons,List.length_cons];omega
       have hs:=hsum r b1.2
       walk_at "l2"
       refine sI (SqL.of er) (by rw [ib];show _ + r.length * 1≤_;omega) ?_
       rw [jm,ib]
       refine Cs.put hD12 c.same c.at' c.len (by omega) ?_
       rw [c.pv,take_succ hr',List.map_append,List.map_append];rfl
      ·have e12:=c.at'
       rw [c.pv,List.length_map,ld,List.take_length] at e12
       have hsum:∀ (l:List (List Str)),(∀ r∈l,Fm r)→((l.map rowT).map (·.length)).sum≤l.length * 189:=fun l=>by
        induction l with
        | nil=>intro _;simp
        | cons x l ih=>
          intro h
          have:=ih fun w hw=>h w (List.mem_cons_of_mem _ hw)
          have b1:=(h x List.mem_cons_self).len
          have b2:=ig b1.2
          have b3:x.length * 7≤27 * 7:=Nat.mul_le_mul_right 7 b1.1
          simp only [List.map_cons,List.sum_cons,List.length_cons];omega
       have hs:=hsum (d4 N) fm
       walk_at "l2"
       refine sI (SqL.of e12) (by rw [iR,List.length_map];show _ + (d4 N).length * 1≤_;omega) ?_
       rw [jm,iR]
       exact q _ (s011.trans c.same)
end
section
variable {P:Program} {w:World} {K:PySem.W.Frag} {mg:Str→Option Value} {base:Heap} {a:Ad}
local macro_rules | `(tactic| walk_at "l2step") =>`(tactic| first | ((with_reducible refine' c_whole ?e ?_);(case e=>walk_at "l2kind")) | ((with_reducible refine' c_mask ?e ?_);(case e=>walk_at "l2kind")) | (with_reducible refine dn ?_) | (with_reducible refine s_methX ?_))
noncomputable def Cd:Sp:=fun vs H Q _=>∃ (i s u o:Addr) (rs:List Rw) (qs:List Qs) (N:Nt),vs=[.ref i,.ref s,.ref u,.ref o]∧Hnd H i s u o rs qs N∧Gn N∧∀ (t D1 D2 D3 D4:Addr) (H2:Hp) (rs:List Rw) (qs:List Qs),Same H H2→TldA H2 t D1 D2 D3 D4 rs qs N→Q (.ref t) H2
theorem tm (T:Tx K mg a):FnOk P w K mg base CX0 1 a.bX a.jb ["_law_ins","_law_sums","_law_stores","_law_outs"] Cd:=by
 refine T.gf.ok sG (fun vs H Q E h=>?_) (fun cdv A outer s H vs Q E hr h=>?_)
 ·obtain ⟨i,s,u,o,rs,qs,N,rfl,_⟩:=h;rfl
 ·obtain ⟨i,s,u,o,rs,qs,N,rfl,hn,g,q⟩:=h
  have li:=g.li
  have ls:=g.ls
  have lt:=g.lt
  have lo:=g.lo
  have hi:=hn.i
  have hs:=hn.s
  have hu:=hn.t
  have ho:=hn.o
  refine ⟨_,((ak (br (fq (aa (aM (bQ (K:=K) rfl) (by rfl) T.gq PyProof.Rows.boot_list (aa (pv 0) ae)) (aa (bO (osc:=ad cK) (ON:=["_law_ins","_law_sums","_law_stores","_law_outs"]) (N:=["_law_name_here","_law_wires_here"]) (n:=2) (fx:=[]) rfl rfl rfl (by decide +kernel) (aG (K:=K) rfl (pv 1)) (xG (eL (aA (by decide)) (eL (aA (by decide)) rC))) (fun _ _ _ _ _=>⟨(qK (K:=K) (n:=2) rfl rfl (bA (ao (i:=0) (show List.Nodup (["_law_name_here","_law_wires_here"]:List Str) from by decide +kernel) rfl (by walk_at "o")) (bA (ao (i:=1) (show List.Nodup (["_law_name_here","_law_wires_here"]:List Str) from by decide +kernel) rfl (by walk_at "o")) gH))),bg,(fq (aa (pv 0) (aa (aM (cc (K:=K) rfl) (by rfl) T.gT PyProof.Rows.boot_tuple (aa (pv 1) ae)) ae)))⟩)) (aa (aM (bQ (K:=K) rfl) (by rfl) T.gq PyProof.Rows.boot_list (aa (pv 2) ae)) (aa (aM (bQ (K:=K) rfl) (by rfl) T.gq PyProof.Rows.boot_list (aa (pv 3) ae)) ae)))))))),aQ (σ':=[some _,some _,some _,some _]) rfl ?_⟩
  walk_at "l2"
  intro D1 H1 f1 s1 e1
  have hn1:=hn.same s1
  have hs1:=hn1.s
  walk_at "l2"
  intro D2 hD2
  refine ay (xs:=rs.map fun r=>V.ref r.1) (fun i ys H'=>∃ rs':List Rw,ys=rs'.map (fun r=>V.ref r.1)∧rs'.map (·.2.2)=(rs.take i).map (·.2.2)∧RwK H' rs'∧Same H1 H'∧H' D2=some (.lst ys)) ⟨[],rfl,rfl,fun _ h=>absurd h (by simp),a9 hD2,al⟩ (fun i ys H' _ ⟨_,_,_,_,s',_⟩=>SqL.of (s'.get hs1)) ?_ ?_
  ·rintro j y ys H' hy ⟨rs',rfl,hrs,hk,s',eD⟩
   obtain ⟨r,hr',rfl⟩:=az hy
   have hlt:=(List.getElem?_eq_some_iff.mp hr').1
   have hm:=List.mem_of_getElem? hr'
   have er:=s'.get (hn1.sr r hm).1
   have ew:=s'.get (hn1.sr r hm).2
   have hlen:rs'.length=j:=by have:=congrArg List.length hrs;rw [List.length_map,List.length_map,List.length_take] at this;omega
   walk_at "l2"
   intro tw H11 f11 s11 e11
   walk_at "l2"
   intro tr H12 f12 s12 e12
   have ntr:tr≠D2:=fun z=>(by rw [z,s11.get eD] at f12;cases f12)
   have ntw:tw≠D2:=fun z=>(by rw [z,eD] at f11;cases f11)
   have eD12:=s12.get (s11.get eD)
   refine ⟨eD12,by rw [List.length_map];exact aE (by have:=congrArg List.length hn.es;rw [List.length_map] at this;omega),rs'++[(tr,tw,r.2.2)],by rw [List.map_append];rfl,by rw [List.map_append,hrs,take_succ hr',List.map_append];rfl,fun r2 h2=>?_,fun b ob e=>?_,al⟩
   ·rcases List.mem_append.mp h2 with h2 | h2
    ·exact ((hk.same s11).same s12).updL eD12 (fun b ob n e=>by rw [aq n];exact e) r2 h2
    ·rw [List.mem_singleton] at h2;subst h2
     exact ⟨by rw [aq ntr];exact e12,by rw [aq ntw];exact s12.get e11⟩
   ·rw [aq (ah e hD2)]
    exact s12.get (s11.get (s'.get e))
  ·rintro ys H2 ⟨rs',rfl,hrs,hk,s2,eD2⟩
   rw [List.length_map,List.take_length,hn.es] at hrs
   have hu2:=s2.get hn1.t
   have ho2:=s2.get hn1.o
   walk_at "l2"
   intro D3 H3 f3 s3 e3
   have ho3:=s3.get ho2
   walk_at "l2"
   intro D4 H4 f4 s4 e4
   walk_at "l2"
   intro t5 H5 f5 s5 e5
   have s45:=s4.trans s5
   have s35:=s3.trans s45
   exact q t5 D1 D2 D3 D4 H5 rs' qs (s1.trans (s2.trans s35)) ⟨e5,s35.get (s2.get e1),s35.get eD2,hk.same s35,hrs,s45.get e3,fun q' m=>s35.get (s2.get (hn1.tr q' m)),hn.et,s5.get e4⟩
noncomputable def Ce:Sp:=fun vs H Q _=>∃ (i s u o:Addr) (rs:List Rw) (qs:List Qs) (N:Nt),vs=[.ref i,.ref s,.ref u,.ref o]∧Hnd H i s u o rs qs N∧Gn N∧∀ (H2:Hp),Same H H2→Q (.str (txtN N)) H2
theorem tu (T:Tx K mg a):FnOk P w K mg base CX0 1 a.bY a.jc ["_law_ins","_law_sums","_law_stores","_law_outs"] Ce:=by
 refine T.gh.ok dB (fun vs H Q E h=>?_) (fun cdv A outer s H vs Q E hr h=>?_)
 ·obtain ⟨i,s,u,o,rs,qs,N,rfl,_⟩:=h;rfl
 ·obtain ⟨i,s,u,o,rs,qs,N,rfl,hn,g,q⟩:=h
  have li:=g.li
  have ls:=g.ls
  have lt:=g.lt
  have lo:=g.lo
  have hi:=hn.i
  have hs:=hn.s
  have hu:=hn.t
  have ho:=hn.o
  have fm:=qB g
  have lrw:=mS g
  refine ⟨_,((af (cO (osc:=ad bU) (ON:=["_law_ins","_law_sums","_law_stores","_law_outs","_law_rows","_law_name_here","_law_wires_here"]) (N:=["_law_name_here"]) (n:=1) (fx:=[]) (i:=4) dB.nd rfl rfl rfl rfl rfl rfl (by decide +kernel) (aG (K:=K) rfl (pv 0)) (aA (by decide)) (fun _ _ _ _ _=>⟨(ao (i:=0) (show List.Nodup (["_law_name_here"]:List Str) from by decide +kernel) rfl (by walk_at "o")),bg,(aF dh aV (pv 0))⟩))
   (af (gF PassesOwn.never rfl (aG (K:=K) rfl (pv 1)) (sU rfl (bA (ao (i:=5) dB.nd rfl (by walk_at "o")) (bA (ao (i:=6) dB.nd rfl (by walk_at "o")) gH))) (ak (bN (cB (K:=K) rfl PySem.F.plainAttrs_list PySem.F.slot_list_append PySem.F.type_list_append d9 (pv 4) (aa (cB (K:=K) rfl PySem.F.plainAttrs_str PySem.F.slot_str_join PySem.F.type_str_join (jI (K:=K) rfl) aV (aa (aF jw (c8 (aa aV (aa (pv 5) (aa aV ae)))) (aM (bQ (K:=K) rfl) (by rfl) T.gq PyProof.Rows.boot_list (aa (pv 6) ae))) ae)) ae)))))
   (af (bv (i:=4) dB.nd rfl (by walk_at "o") (aF jw (pv 4) (bO (osc:=ad bU) (ON:=["_law_ins","_law_sums","_law_stores","_law_outs","_law_rows","_law_name_here","_law_wires_here"]) (N:=["_law_name_here","_law_wire"]) (n:=2) (fx:=[]) rfl rfl rfl (by decide +kernel) (aG (K:=K) rfl (pv 2)) (xG (eL (aA (by decide)) (eL (aA (by decide)) rC))) (fun _ _ _ _ _=>⟨(qK (K:=K) (n:=2) rfl rfl (bA (ao (i:=0) (show List.Nodup (["_law_name_here","_law_wire"]:List Str) from by decide +kernel) rfl (by walk_at "o")) (bA (ao (i:=1) (show List.Nodup (["_law_name_here","_law_wire"]:List Str) from by decide +kernel) rfl (by walk_at "o")) gH))),bg,(aF dh (aF dh (aF dh aV (pv 0)) aV) (pv 1))⟩))))
   (ak (br (cB (K:=K) rfl PySem.F.plainAttrs_str PySem.F.slot_str_join PySem.F.type_str_join (jI (K:=K) rfl) aV (aa (aF jw (pv 4) (bO (osc:=ad bU) (ON:=["_law_ins","_law_sums","_law_stores","_law_outs","_law_rows","_law_name_here","_law_wires_here"]) (N:=["_law_name_here"]) (n:=1) (fx:=[]) rfl rfl rfl (by decide +kernel) (aG (K:=K) rfl (pv 3)) (aA (by decide)) (fun _ _ _ _ _=>⟨(ao (i:=0) (show List.Nodup (["_law_name_here"]:List Str) from by decide +kernel) rfl (by walk_at "o")),bg,(aF dh aV (pv 0))⟩))) ae)))))))),aQ (σ':=[some _,some _,some _,some _,none,none,none]) rfl ?_⟩
  walk_at "l2"
  intro D1 hD1
  refine ay (xs:=N.ins.map V.str) (fun i ys H'=>Cs (fun i ys=>ys=((N.ins.take i).map fun z=>rowT [("in":Str),z]).map V.str) H D1 i ys H') (Cs.zero hD1 rfl) (fun i ys H' _ c=>SqL.of (c.same.get hi)) (fun j x ys H' hx c=>?_) (fun ys H1 c=>?_)
  ·obtain ⟨z,hz,rfl⟩:=az hx
   walk_at "l2"
   have lz:=((fm _ (List.mem_append_left _ (List.mem_append_left _ (List.mem_append_left _ (List.mem_map.mpr ⟨z,List.mem_of_getElem? hz,rfl⟩))))).len.2 z (by simp))
   have hlt:=(List.getElem?_eq_some_iff.mp hz).1
   refine ⟨by rw [show (Str.ofString "in ").length=3 by decide +kernel,sizeLine_eq];omega,Cs.put hD1 c.same c.at' c.len (by omega) ?_⟩
   rw [c.pv,take_succ hz,List.map_append,List.map_append,Ew];rfl
  ·have e1:=c.at'
   rw [c.pv] at e1
   have s1:=c.same
   clear c
   walk_at "l2"
   rw [List.length_map,List.take_length] at e1
   refine xH (xs:=rs.map fun r=>V.ref r.1) (fun j σ H'=>∃ v1 v2,σ=[some (.ref i),some (.ref s),some (.ref u),some (.ref o),some (.ref D1),v1,v2]∧Same H H'∧H' D1=some (.lst (((N.ins.map fun z=>rowT [("in":Str),z])++(N.sums.take j).map fun r=>rowT (("sum":Str)::r.1::("=":Str)::r.2)).map V.str))) ⟨none,none,rfl,s1,by rw [List.take_zero,List.map_nil,List.append_nil];exact e1⟩ (fun j σ H' _ ⟨_,_,_,s',_⟩=>SqL.of (s'.get hs)) ?_ ?_
   ·rintro j y σ H' hy ⟨v1,v2,rfl,s',e'⟩
    obtain ⟨r,hr',rfl⟩:=az hy
    have hlt:=(List.getElem?_eq_some_iff.mp hr').1
    have hm:=List.mem_of_getElem? hr'
    have er:=s'.get (hn.sr r hm).1
    have ew:=s'.get (hn.sr r hm).2
    have hsm:N.sums[j]? =some r.2.2:=by rw [← hn.es,List.getElem?_map,hr'];rfl
    have hlw:=g.lw _ (List.mem_of_getElem? hsm)
    have b1:=(fm _ (List.mem_append_left _ (List.mem_append_left _ (List.mem_append_right _ (List.mem_map.mpr ⟨r.2.2,List.mem_of_getElem? hsm,rfl⟩))))).len
    walk_at "l2"
    intro D3 H3 f3 s3 e3
    have ew3:=s3.get ew
    walk_at "l2"
    intro D4 H4 f4 s4 e4
    refine qA (s4.get e3) e4 (by rw [List.length_map,sizeLine_eq];simp;omega) fun D5 H5 f5 s5 e5=>?_
    have e5':H5 D5=some (.lst ((("sum":Str)::r.2.2.1::("=":Str)::r.2.2.2).map V.str)):=e5
    have hsum:∀ (l:List Str),(∀ w∈l,w.length≤6)→(l.map (·.length)).sum≤l.length * 6:=fun l=>by
     induction l with
     | nil=>intro _;simp
     | cons x l ih=>intro h;have:=ih fun w hw=>h w (List.mem_cons_of_mem _ hw);have:=h x List.mem_cons_self;simp only [List.map_cons,List.sum_cons,List.length_cons];omega
    have hs':=hsum _ b1.2
    have s35:=s3.trans (s4.trans s5)
    have eD5:=s35.get e'
    clear e5 e4 e3
    walk_at "l2"
    refine sI (SqL.of e5') (by rw [ib];show _ + (("sum":Str)::r.2.2.1::("=":Str)::r.2.2.2).length * 1≤_;omega) ?_
    rw [jm,ib]
    walk_at "l2"
    refine eJ eD5 (by rw [List.length_map,List.length_append,List.length_map,List.length_map,List.length_take,sizeLine_eq];omega) fun H6 u6=>?_
    walk_at "l2"
    refine ⟨_,_,rfl,u6.same hD1 (s'.trans s35),?_⟩
    rw [u6.at',take_succ hsm,List.map_append (l₂:=[r.2.2]),← List.append_assoc,List.map_append (l₂:=List.map _ [r.2.2])];rfl
   ·rintro σ H2 ⟨v1,v2,rfl,s2,e2⟩
    rw [List.length_map,show rs.length=N.sums.length by rw [← hn.es,List.length_map],List.take_length] at e2
    have hu2:=s2.get hu
    walk_at "l2"
    intro D3 hD3
    refine ay (xs:=qs.map fun q=>V.ref q.1) (fun i ys H'=>Cs (fun i ys=>ys=((N.sts.take i).map fun r=>rowT [("store":Str),r.1,("=":Str),r.2]).map V.str) H2 D3 i ys H') (Cs.zero hD3 rfl) (fun i ys H' _ c=>SqL.of (c.same.get hu2)) (fun j x ys H' hx c=>?_) (fun ys H3 c=>?_)
    ·obtain ⟨r,hr',rfl⟩:=az hx
     have er:=c.same.get (s2.get (hn.tr r (List.mem_of_getElem? hr')))
     have hst:N.sts[j]? =some r.2:=by rw [← hn.et,List.getElem?_map,hr'];rfl
     have hlt:=(List.getElem?_eq_some_iff.mp hst).1
     have b1:=(fm _ (List.mem_append_left _ (List.mem_append_right _ (List.mem_map.mpr ⟨r.2,List.mem_of_getElem? hst,rfl⟩)))).len.2
     have l1:=b1 r.2.1 (by simp)
     have l2:=b1 r.2.2 (by simp)
     walk_at "l2"
     have z1:(Str.ofString "store ").length=6:=by decide +kernel
     have z2:(Str.ofString " = ").length=3:=by decide +kernel
     refine ⟨by rw [z1,sizeLine_eq];omega,?_⟩
     walk_at "l2"
     refine ⟨by rw [qt,z1,z2,sizeLine_eq];omega,?_⟩
     walk_at "l2"
     refine ⟨by rw [qt,qt,z1,z2,sizeLine_eq];omega,Cs.put hD3 c.same c.at' c.len (by omega) ?_⟩
     rw [c.pv,take_succ hst,List.map_append,List.map_append,yo];rfl
    ·have e3:=c.at'
     rw [c.pv,List.length_map,show qs.length=N.sts.length by rw [← hn.et,List.length_map],List.take_length] at e3
     have s3:=c.same
     clear c
     refine qA (s3.get e2) e3 (by rw [List.length_map,List.length_map,List.length_map,List.length_append,List.length_map,List.length_map,sizeLine_eq];omega) fun D4 H4 f4 s4 e4=>?_
     rw [← List.map_append] at e4
     have s04:=s2.trans (s3.trans s4)
     have ho4:=s04.get ho
     walk_at "l2"
     intro D5 hD5
     refine ay (xs:=N.outs.map V.str) (fun i ys H'=>Cs (fun i ys=>ys=((N.outs.take i).map fun z=>rowT [("out":Str),z]).map V.str) H4 D5 i ys H') (Cs.zero hD5 rfl) (fun i ys H' _ c=>SqL.of (c.same.get ho4)) (fun j x ys H' hx c=>?_) (fun ys H5 c=>?_)
     ·obtain ⟨z,hz,rfl⟩:=az hx
      walk_at "l2"
      have lz:=(fm _ (List.mem_append_right _ (List.mem_map.mpr ⟨z,List.mem_of_getElem? hz,rfl⟩))).len.2 z (by simp)
      have hlt:=(List.getElem?_eq_some_iff.mp hz).1
      refine ⟨by rw [show (Str.ofString "out ").length=4 by decide +kernel,sizeLine_eq];omega,Cs.put hD5 c.same c.at' c.len (by omega) ?_⟩
      rw [c.pv,take_succ hz,List.map_append,List.map_append,Cq];rfl
     ·have e5:=c.at'
      rw [c.pv,List.length_map,List.take_length] at e5
      have s5:=c.same
      clear c
      refine qA (s5.get e4) e5 (by simp only [List.length_map,List.length_append];rw [sizeLine_eq];omega) fun D6 H6 f6 s6 e6=>?_
      rw [← List.map_append] at e6
      have hR:((N.ins.map fun z=>rowT [("in":Str),z])++(N.sums.map fun r=>rowT (("sum":Str)::r.1::("=":Str)::r.2)))++(N.sts.map fun r=>rowT [("store":Str),r.1,("=":Str),r.2])++(N.outs.map fun z=>rowT [("out":Str),z])=(d4 N).map rowT:=by
       unfold d4
       simp only [List.map_append,List.map_map];rfl
      rw [hR] at e6
      have hsum:∀ (l:List (List Str)),(∀ r∈l,Fm r)→((l.map rowT).map (·.length)).sum≤l.length * 189:=fun l=>by
       induction l with
       | nil=>intro _;simp
       | cons x l ih=>
         intro h
         have:=ih fun w hw=>h w (List.mem_cons_of_mem _ hw)
         have b1:=(h x List.mem_cons_self).len
         have b2:=ig b1.2
         have b3:x.length * 7≤27 * 7:=Nat.mul_le_mul_right 7 b1.1
         simp only [List.map_cons,List.sum_cons,List.length_cons];omega
      have hs':=hsum (d4 N) fm
      walk_at "l2"
      refine sI (SqL.of e6) (by rw [iR,List.length_map];show _ + (d4 N).length * 1≤_;omega) ?_
      rw [jm,iR]
      exact q _ (s04.trans (s5.trans s6))
end
section
variable {P:Program} {w:World} {K:PySem.W.Frag} {mg:Str→Option Value} {base:Heap} {a:Ad}
local macro_rules | `(tactic| walk_at "l2step") =>`(tactic| first | ((with_reducible refine' c_whole ?e ?_);(case e=>walk_at "l2kind")) | ((with_reducible refine' c_mask ?e ?_);(case e=>walk_at "l2kind")) | (with_reducible refine dn ?_) | (with_reducible refine s_methX ?_))
noncomputable def Aj:Sp:=fun vs H Q _=>∃ (l:Addr) (c:Int) (rows:List (List Str)),vs=[.ref l,.int c]∧H l=some (.lst ((rows.map rowT).map V.str))∧(∀ r∈rows,Fm r)∧rows.length≤100∧∀ (D:Addr) (H2:Hp) (rows2:List (List Str)),Same H H2→H2 D=some (.lst ((rows2.map rowT).map V.str))→(∀ r∈rows2,Fm r)→rows2.length=rows.length→netR rows2=netR rows→Q (.ref D) H2
theorem qP (T:Tx K mg a):FnOk P w K mg base CX0 2 a.bG a.hG ["_law_rows","_law_cell_here"] Aj:=by
 have aZ:=@fN P w K mg base a T
 refine T.eQ.ok cM (fun vs H Q E h=>?_) (fun cdv A outer s H vs Q E hr h=>?_)
 ·obtain ⟨l,c,rows,rfl,_⟩:=h;rfl
 ·obtain ⟨l,c,rows,rfl,el,fm,ln,q⟩:=h
  have hu1:=qC hr
  have gd:∀ (r:List Str) (k:Nat),k < r.length→atI (r.map V.str) (k:Int)=some (.str (r.getD k "")):=fun r k hk=>cW (by rw [List.getElem?_map,List.getElem?_eq_getElem hk,List.getD_eq_getElem?_getD,List.getElem?_eq_getElem hk];rfl)
  have fs:∀ (k:Str) (i:Nat) (r:List Str),rows[i]? =some r→(rows.take (i + 1)).filter (kd k)=(rows.take i).filter (kd k)++(if kd k r=true then [r] else []):=fun k i r h=>by
   rw [take_succ h,List.filter_append,List.filter_cons];rfl
  refine ⟨_,((af (CA (x0:="_law_word") (osc:=ad bD) (ON:=["_law_rows","_law_cell_here","_law_some","_law_found","_law_k","_law_left"]) (N:=["_law_word","_law_rows"]) (n:=1) (fx:=[0]) (i:=2) cM.nd rfl rfl rfl rfl rfl rfl (by decide +kernel) (aG (K:=K) rfl (c8 (aa aV (aa aV (aa aV (aa aV ae)))))) (aA (by decide)) (fun _ _ _ _ _=>⟨(ao (i:=0) (show List.Nodup (["_law_word","_law_rows"]:List Str) from by decide +kernel) rfl (by walk_at "o")),bg,(bO (osc:=_) (ON:=["_law_word","_law_rows"]) (N:=["_law_row","_law_word"]) (n:=1) (fx:=[0]) rfl (Db (osc:=ad bD) rfl) rfl (by decide +kernel) (aG (K:=K) rfl (pv 1)) (aA (by decide)) (fun _ _ _ _ _=>⟨(ao (i:=0) (show List.Nodup (["_law_row","_law_word"]:List Str) from by decide +kernel) rfl (by walk_at "o")),(fL (aW jv (bw (aO (K:=K) rfl) (cB (K:=K) rfl PySem.F.plainAttrs_str PySem.F.slot_str_split PySem.F.type_str_split jH (pv 0) (aa aV ae)) ai (fun _ _=>rfl)) (pv 1) (bf _))),(pv 0)⟩))⟩))
   (af (bv (i:=3) cM.nd rfl (by walk_at "o") (c8 ae))
   (af (gF PassesOwn.never rfl (d6 (by rfl) T.i6 (aa (aH (aN (K:=K) rfl) (by rfl) T.eG PySem.boot_len (aa (pv 0) ae)) ae)) (ao (i:=4) cM.nd rfl (by walk_at "o")) (af (cO (osc:=ad bD) (ON:=["_law_rows","_law_cell_here","_law_some","_law_found","_law_k","_law_left"]) (N:=["_law_one"]) (n:=1) (fx:=[]) (i:=5) cM.nd rfl rfl rfl rfl rfl rfl (by decide +kernel) (aG (K:=K) rfl (pv 2)) (aA (by decide)) (fun _ _ _ _ _=>⟨(ao (i:=0) (show List.Nodup (["_law_one"]:List Str) from by decide +kernel) rfl (by walk_at "o")),(fL (aW (qL (K:=K) rfl hu1) (pv 0) (c8 ae) (bf _))),(pv 0)⟩))
   (ak (bN (cB (K:=K) rfl PySem.F.plainAttrs_list PySem.F.slot_list_append PySem.F.type_list_append d9 (pv 3) (aa (cB (K:=K) rfl PySem.F.plainAttrs_list PySem.F.slot_list_pop PySem.F.type_list_pop CU (bw (aO (K:=K) rfl) (pv 5) (aF cC (au aZ (hr.mono (by decide)) (by rfl) T.bj T.bi T.bd .nil aL (aa (pv 1) (aa (aF b7 ai (pv 4)) ae))) (aH (aN (K:=K) rfl) (by rfl) T.eG PySem.boot_len (aa (pv 5) ae))) (fun _ _=>rfl)) (aa ai ae)) ae))))))
   (ak (br (pv 3))))))),aQ (σ':=[some _,some _,none,none,none,none]) rfl ?_⟩
  walk_at "l2"
  intro p H1 f1 s1 e1
  have e1:H1 p=some (.lst (tY.map V.str)):=e1
  have el1:=s1.get el
  refine ⟨p,rfl,⟨_,SqL.of e1⟩,fun D hD=>?_⟩
  refine ay (xs:=tY.map V.str) (fun i ys H'=>∃ ds:List Addr,ys=ds.map V.ref∧ds.length=i∧ds.Nodup∧(∀ d∈ds,d≠D)∧(∀ d∈ds,H1 d=none)∧Same H1 H'∧H' D=some (.lst ys)∧∀ (j:Nat) (d:Addr) (k:Str),ds[j]? =some d→tY[j]? =some k→H' d=some (.lst (((rows.filter (kd k)).map rowT).map V.str))) ⟨[],rfl,rfl,List.nodup_nil,fun _ h=>(by cases h),fun _ h=>(by cases h),a9 hD,al,fun j d k h=>(by simp at h)⟩ (fun i ys H' _ ⟨_,_,_,_,_,_,s',_⟩=>SqL.of (s'.get e1)) ?_ ?_
  ·rintro i y ys H' hy ⟨ds,rfl,lds,nd,nD,nn,s',eD,hk⟩
   obtain ⟨k,hk',rfl⟩:=az hy
   have el':=s'.get el1
   walk_at "l2"
   intro D1 hD1
   refine ay (xs:=(rows.map rowT).map V.str) (fun i ys H2=>Cs (fun i ys=>ys=(((rows.take i).filter (kd k)).map rowT).map V.str) H' D1 i ys H2) (Cs.zero hD1 rfl) (fun i ys H2 _ c=>SqL.of (c.same.get el')) (fun j x ys H2 hx c=>?_) (fun ys H2 c=>?_)
   ·obtain ⟨t,ht,rfl⟩:=az hx
    obtain ⟨r,hr',rfl⟩:∃ r,rows[j]? =some r∧t=rowT r:=by
     rw [List.getElem?_map] at ht
     cases e:rows[j]? with
     | none=>rw [e] at ht;cases ht
     | some r=>rw [e] at ht;exact ⟨r,rfl,(Option.some.inj ht).symm⟩
    have hm:=List.mem_of_getElem? hr'
    have fr:=fm r hm
    have hlt:=(List.getElem?_eq_some_iff.mp hr').1
    have b1:=fr.len
    have b2:=ig b1.2
    have b3:r.length * 7≤27 * 7:=Nat.mul_le_mul_right 7 b1.1
    walk_at "l2"
    refine mR (by decide +kernel) (by rw [sizeLine_eq];omega) fun D3 H3 f3 s3 e3=>?_
    rw [ib,pS fr.wd fr.ne] at e3
    have lr:0 < r.length:=List.length_pos_iff.mpr fr.ne
    have g0:=gd r 0 lr
    have eD3:=s3.get c.at'
    have s3':=c.same.trans s3
    walk_at "l2"
    by_cases hkr:r.getD 0 ""=k
    ·refine j7 (decide_eq_true (by rw [hkr])) ?_
     walk_at "l2"
     refine Cs.put hD1 s3' eD3 c.len (by omega) ?_
     rw [c.pv,fs k j r hr',if_pos (show kd k r=true from decide_eq_true hkr),List.map_append,List.map_append];rfl
    ·refine fJ (decide_eq_false fun e=>hkr (V.str.inj e)) ?_
     refine Cs.skip s3' eD3 c.len ?_
     rw [c.pv,fs k j r hr',if_neg (show ¬ kd k r=true from fun z=>hkr (of_decide_eq_true z)),List.append_nil]
   ·have e2:=c.at'
    rw [c.pv,List.length_map,List.length_map,List.take_length] at e2
    have s2:=c.same
    clear c
    have nD1:D1≠D:=fun z=>by rw [z,eD] at hD1;cases hD1
    have nds:∀ d∈ds,d≠D1:=fun d hd z=>by
     obtain ⟨j,hj,ej⟩:=List.mem_iff_getElem.mp hd
     have hj4:∃ k',tY[j]? =some k':=⟨_,List.getElem?_eq_getElem (by have:=(List.getElem?_eq_some_iff.mp hk').1;omega)⟩
     obtain ⟨k',hk4⟩:=hj4
     have:=hk j d k' (by rw [List.getElem?_eq_getElem hj,ej]) hk4
     rw [z,hD1] at this;cases this
    refine ⟨s2.get eD,by rw [List.length_map];have:=(List.getElem?_eq_some_iff.mp hk').1;have h4:tY.length=4:=rfl;exact aE (by omega),ds++[D1],by rw [List.map_append];rfl,by rw [List.length_append,lds];rfl,?_,?_,?_,fun b ob e=>?_,al,fun j d k2 h1 h2=>?_⟩
    ·exact List.nodup_append.mpr ⟨nd,by simp,fun x hx y hy=>by rw [List.mem_singleton] at hy;rw [hy];exact nds x hx⟩
    ·intro d hd
     rcases List.mem_append.mp hd with h | h
     ·exact nD d h
     ·rw [List.mem_singleton] at h;rw [h];exact nD1
    ·intro d hd
     rcases List.mem_append.mp hd with h | h
     ·exact nn d h
     ·rw [List.mem_singleton] at h;rw [h];exact s'.free hD1
    ·rw [aq (ah e hD)];exact s2.get (s'.get e)
    ·by_cases hj:j < ds.length
     ·rw [List.getElem?_append_left hj] at h1
      rw [aq (nD d (List.mem_of_getElem? h1))];exact s2.get (hk j d k2 h1 h2)
     ·rw [List.getElem?_append_right (by omega)] at h1
      have hz:j - ds.length=0:=by
       cases e:j - ds.length with
       | zero=>rfl
       | succ m=>rw [e] at h1;simp at h1
      rw [hz] at h1
      have h1:d=D1:=(Option.some.inj h1).symm
      have hj:j=i:=by omega
      rw [hj,hk'] at h2
      cases h2
      rw [h1,aq nD1];exact e2
  ·rintro ys H2 ⟨ds,rfl,lds,nd,nD,nn,s2,eD,hk⟩
   have el2:=s2.get el1
   walk_at "l2"
   intro F H3 f3 s3 e3
   have el3:=s3.get el2
   walk_at "l2"
   have ll:(List.map V.str (List.map rowT rows)).length=rows.length:=by rw [List.length_map,List.length_map]
   rw [ll]
   refine ⟨by omega,by omega,?_⟩
   rw [Int.toNat_natCast]
   match ds,lds with
   | [d0,d1,d2,d3],_=>
     have g0:=hk 0 d0 "in" rfl rfl
     have g1:=hk 1 d1 "sum" rfl rfl
     have g2:=hk 2 d2 "store" rfl rfl
     have g3:=hk 3 d3 "out" rfl rfl
     have Z:=Dl.zero fm
     have nd0:=List.nodup_cons.mp nd
     have nd1:=List.nodup_cons.mp nd0.2
     have nd2:=List.nodup_cons.mp nd1.2
     have n01:d0≠d1:=fun z=>nd0.1 (by rw [z];simp)
     have n02:d0≠d2:=fun z=>nd0.1 (by rw [z];simp)
     have n03:d0≠d3:=fun z=>nd0.1 (by rw [z];simp)
     have n12:d1≠d2:=fun z=>nd1.1 (by rw [z];simp)
     have n13:d1≠d3:=fun z=>nd1.1 (by rw [z];simp)
     have n23:d2≠d3:=fun z=>nd2.1 (by rw [z];simp)
     have n10:=n01.symm
     have n20:=n02.symm
     have n30:=n03.symm
     have n21:=n12.symm
     have n31:=n13.symm
     have n32:=n23.symm
     have nF0:F≠d0:=fun z=>by rw [z,g0] at f3;cases f3
     have nF1:F≠d1:=fun z=>by rw [z,g1] at f3;cases f3
     have nF2:F≠d2:=fun z=>by rw [z,g2] at f3;cases f3
     have nF3:F≠d3:=fun z=>by rw [z,g3] at f3;cases f3
     have nDF:D≠F:=fun z=>by rw [← z,eD] at f3;cases f3
     have nD0:D≠d0:=(nD d0 (by simp)).symm
     have nD1:D≠d1:=(nD d1 (by simp)).symm
     have nD2:D≠d2:=(nD d2 (by simp)).symm
     have nD3:D≠d3:=(nD d3 (by simp)).symm
     have fF:H F=none:=s1.free (s2.free f3)
     have fd0:H d0=none:=s1.free (nn d0 (by simp))
     have fd1:H d1=none:=s1.free (nn d1 (by simp))
     have fd2:H d2=none:=s1.free (nn d2 (by simp))
     have fd3:H d3=none:=s1.free (nn d3 (by simp))
     clear nd0 nd1 nd2 nd nD nn
     refine nX (fun i σ H'=>∃ (v4 v5:Option V) (R l0 l1 l2 l3:List (List Str)),σ=[some (.ref l),some (.int c),some (.ref D),some (.ref F),v4,v5]∧Dl rows R l0 l1 l2 l3∧R.length=i∧Same H H'∧H' D=some (.lst [.ref d0,.ref d1,.ref d2,.ref d3])∧H' F=some (.lst ((R.map rowT).map V.str))∧H' d0=some (.lst ((l0.map rowT).map V.str))∧H' d1=some (.lst ((l1.map rowT).map V.str))∧H' d2=some (.lst ((l2.map rowT).map V.str))∧H' d3=some (.lst ((l3.map rowT).map V.str))) ⟨none,none,[],_,_,_,_,rfl,Z,rfl,s1.trans (s2.trans s3),s3.get eD,e3,s3.get g0,s3.get g1,s3.get g2,s3.get g3⟩ ?_ ?_
     ·rintro i σ H' hi ⟨v4,v5,R,l0,l1,l2,l3,rfl,dl,lR,s',eD',eF',h0,h1,h2,h3⟩
      have hdl:=dl.len
      walk_at "l2"
      intro C hC
      refine ay (xs:=[V.ref d0,V.ref d1,V.ref d2,V.ref d3]) (fun i ys H2=>Cs (fun i ys=>∃ es:List Addr,ys=es.map V.ref∧(∀ e∈es,(e=d0∧l0≠[])∨(e=d1∧l1≠[])∨(e=d2∧l2≠[])∨(e=d3∧l3≠[]))∧(((0 < i∧l0≠[])∨(1 < i∧l1≠[])∨(2 < i∧l2≠[])∨(3 < i∧l3≠[]))→es≠[])) H' C i ys H2) (Cs.zero hC ⟨[],rfl,fun _ h=>(by cases h),fun h=>(by omega)⟩) (fun i ys H2 _ c=>SqL.of (c.same.get eD')) (fun j x ys H2 hx c=>?_) (fun ys H2 c=>?_)
      ·obtain ⟨es,ey,hes,hne⟩:=c.pv
       have eC:=c.at'
       obtain ⟨d,m,rfl,hd,hm,hj⟩:∃ (d:Addr) (m:List (List Str)),x= .ref d∧H' d=some (.lst ((m.map rowT).map V.str))∧(m≠[]→((d=d0∧l0≠[])∨(d=d1∧l1≠[])∨(d=d2∧l2≠[])∨(d=d3∧l3≠[])))∧(((0 < j + 1∧l0≠[])∨(1 < j + 1∧l1≠[])∨(2 < j + 1∧l2≠[])∨(3 < j + 1∧l3≠[]))→es≠[]∨m≠[]):=by
        match j,hx with
        | 0,hx=>exact ⟨d0,l0,(Option.some.inj hx).symm,h0,fun z=>Or.inl ⟨rfl,z⟩,fun z=>by rcases z with ⟨_,z⟩ | ⟨z,_⟩ | ⟨z,_⟩ | ⟨z,_⟩;(exact Or.inr z);all_goals omega⟩
        | 1,hx=>exact ⟨d1,l1,(Option.some.inj hx).symm,h1,fun z=>Or.inr (Or.inl ⟨rfl,z⟩),fun z=>by rcases z with ⟨_,z⟩ | ⟨_,z⟩ | ⟨z,_⟩ | ⟨z,_⟩;(exact Or.inl (hne (Or.inl ⟨by omega,z⟩)));(exact Or.inr z);all_goals omega⟩
        | 2,hx=>exact ⟨d2,l2,(Option.some.inj hx).symm,h2,fun z=>Or.inr (Or.inr (Or.inl ⟨rfl,z⟩)),fun z=>by rcases z with ⟨_,z⟩ | ⟨_,z⟩ | ⟨_,z⟩ | ⟨z,_⟩;(exact Or.inl (hne (Or.inl ⟨by omega,z⟩)));(exact Or.inl (hne (Or.inr (Or.inl ⟨by omega,z⟩))));(exact Or.inr z);all_goals omega⟩
        | 3,hx=>exact ⟨d3,l3,(Option.some.inj hx).symm,h3,fun z=>Or.inr (Or.inr (Or.inr ⟨rfl,z⟩)),fun z=>by rcases z with ⟨_,z⟩ | ⟨_,z⟩ | ⟨_,z⟩ | ⟨_,z⟩;(exact Or.inl (hne (Or.inl ⟨by omega,z⟩)));(exact Or.inl (hne (Or.inr (Or.inl ⟨by omega,z⟩))));(exact Or.inl (hne (Or.inr (Or.inr (Or.inl ⟨by omega,z⟩)))));exact Or.inr z⟩
       have hd2:=c.same.get hd
       have cl:=c.len
       have cs:=c.same
       walk_at "l2"
       intro p2 H4 f4 s4 e4
       have hd4:=s4.get hd2
       refine yn (mC hd4) (mC (zs:=[]) e4) (by unfold depD;rw [jN];decide) ?_
       cases m with
       | nil=>
         refine ⟨false,rfl,?_⟩
         rw [if_neg (by decide)]
         exact Cs.skip (cs.trans s4) (s4.get eC) cl ⟨es,ey,hes,fun z=>(hj z).resolve_right fun n=>n rfl⟩
       | cons m0 m=>
         refine ⟨true,rfl,?_⟩
         rw [if_pos rfl]
         walk_at "l2"
         refine Cs.put hC (cs.trans s4) (s4.get eC) cl (by have:=(List.getElem?_eq_some_iff.mp hx).1;simp only [List.length_cons,List.length_nil] at this;omega) ⟨es++[d],by rw [ey,List.map_append];rfl,fun e he=>?_,fun _=>by simp⟩
         rcases List.mem_append.mp he with z | z
         ·exact hes e z
         ·rw [List.mem_singleton.mp z];exact hm (by simp)
      ·obtain ⟨es,rfl,hes,hne⟩:=c.pv
       have eC:=c.at'
       have cs:=c.same
       clear c
       have hn:es≠[]:=hne (by
        by_cases z0:l0=[]
        ·by_cases z1:l1=[]
         ·by_cases z2:l2=[]
          ·by_cases z3:l3=[]
           ·exfalso;rw [z0,z1,z2,z3] at hdl;simp only [List.length_nil] at hdl;omega
           ·exact Or.inr (Or.inr (Or.inr ⟨Nat.lt_succ_self 3,z3⟩))
          ·exact Or.inr (Or.inr (Or.inl ⟨by show 2 < 4;decide,z2⟩))
         ·exact Or.inr (Or.inl ⟨by show 1 < 4;decide,z1⟩)
        ·exact Or.inl ⟨by show 0 < 4;decide,z0⟩)
       have lpos:0 < es.length:=List.length_pos_iff.mpr hn
       walk_at "l2"
       refine ⟨c,_,rfl,by omega,by omega,?_⟩
       walk_at "l2"
       refine ⟨_,_,rfl,rfl,by rw [List.length_map];omega,?_⟩
       obtain ⟨e,he,ee⟩:∃ e,e∈es∧atI (es.map V.ref) (mixV c (700 + (0 + ↑i)) % ↑(List.map V.ref es).length)=some (.ref e):=by
        have z0:=Int.emod_nonneg (mixV c (700 + (0 + ↑i))) (show ((List.map V.ref es).length:Int)≠0 by rw [List.length_map];omega)
        have z1:=Int.emod_lt_of_pos (mixV c (700 + (0 + ↑i))) (show (0:Int) < ((List.map V.ref es).length:Int) by rw [List.length_map];omega)
        obtain ⟨n,hn⟩:=Int.eq_ofNat_of_zero_le z0
        rw [hn] at z1 ⊢
        rw [List.length_map] at z1
        have hl:n < es.length:=by omega
        exact ⟨es[n],List.getElem_mem hl,cW (by rw [List.getElem?_map,List.getElem?_eq_getElem hl];rfl)⟩
       rcases hes e he with ⟨rfl,hz⟩ | ⟨rfl,hz⟩ | ⟨rfl,hz⟩ | ⟨rfl,hz⟩
       ·cases l0 with
        | nil=>exact absurd rfl hz
        | cons h t=>
          have k0:=cs.get h0
          have kF:=cs.get eF'
          refine Ap (SqL.of eC) ee ?_
          walk_at "l2"
          refine xx k0 fun H4 u2=>?_
          walk_at "l2"
          have kF2:=u2.oth _ _ nF0 kF
          refine eJ kF2 (by rw [List.length_map,List.length_map,lR];exact aE (by omega)) fun H5 u3=>?_
          refine ⟨_,_,R++[h],t,l1,l2,l3,rfl,dl.s0 fm,by rw [List.length_append,lR];rfl,u3.same fF (u2.same fd0 (s'.trans cs)),u3.oth _ _ nDF (u2.oth _ _ nD0 (cs.get eD')),by rw [List.map_append,List.map_append];exact u3.at',u3.oth _ _ nF0.symm u2.at',u3.oth _ _ nF1.symm (u2.oth _ _ n10 (cs.get h1)),u3.oth _ _ nF2.symm (u2.oth _ _ n20 (cs.get h2)),u3.oth _ _ nF3.symm (u2.oth _ _ n30 (cs.get h3))⟩
       ·cases l1 with
        | nil=>exact absurd rfl hz
        | cons h t=>
          have k1:=cs.get h1
          have kF:=cs.get eF'
          refine Ap (SqL.of eC) ee ?_
          walk_at "l2"
          refine xx k1 fun H4 u2=>?_
          walk_at "l2"
          have kF2:=u2.oth _ _ nF1 kF
          refine eJ kF2 (by rw [List.length_map,List.length_map,lR];exact aE (by omega)) fun H5 u3=>?_
          refine ⟨_,_,R++[h],l0,t,l2,l3,rfl,dl.s1 fm,by rw [List.length_append,lR];rfl,u3.same fF (u2.same fd1 (s'.trans cs)),u3.oth _ _ nDF (u2.oth _ _ nD1 (cs.get eD')),by rw [List.map_append,List.map_append];exact u3.at',u3.oth _ _ nF0.symm (u2.oth _ _ n01 (cs.get h0)),u3.oth _ _ nF1.symm u2.at',u3.oth _ _ nF2.symm (u2.oth _ _ n21 (cs.get h2)),u3.oth _ _ nF3.symm (u2.oth _ _ n31 (cs.get h3))⟩
       ·cases l2 with
        | nil=>exact absurd rfl hz
        | cons h t=>
          have k2:=cs.get h2
          have kF:=cs.get eF'
          refine Ap (SqL.of eC) ee ?_
          walk_at "l2"
          refine xx k2 fun H4 u2=>?_
          walk_at "l2"
          have kF2:=u2.oth _ _ nF2 kF
          refine eJ kF2 (by rw [List.length_map,List.length_map,lR];exact aE (by omega)) fun H5 u3=>?_
          refine ⟨_,_,R++[h],l0,l1,t,l3,rfl,dl.s2 fm,by rw [List.length_append,lR];rfl,u3.same fF (u2.same fd2 (s'.trans cs)),u3.oth _ _ nDF (u2.oth _ _ nD2 (cs.get eD')),by rw [List.map_append,List.map_append];exact u3.at',u3.oth _ _ nF0.symm (u2.oth _ _ n02 (cs.get h0)),u3.oth _ _ nF1.symm (u2.oth _ _ n12 (cs.get h1)),u3.oth _ _ nF2.symm u2.at',u3.oth _ _ nF3.symm (u2.oth _ _ n32 (cs.get h3))⟩
       ·cases l3 with
        | nil=>exact absurd rfl hz
        | cons h t=>
          have k3:=cs.get h3
          have kF:=cs.get eF'
          refine Ap (SqL.of eC) ee ?_
          walk_at "l2"
          refine xx k3 fun H4 u2=>?_
          walk_at "l2"
          have kF2:=u2.oth _ _ nF3 kF
          refine eJ kF2 (by rw [List.length_map,List.length_map,lR];exact aE (by omega)) fun H5 u3=>?_
          refine ⟨_,_,R++[h],l0,l1,l2,t,rfl,dl.s3 fm,by rw [List.length_append,lR];rfl,u3.same fF (u2.same fd3 (s'.trans cs)),u3.oth _ _ nDF (u2.oth _ _ nD3 (cs.get eD')),by rw [List.map_append,List.map_append];exact u3.at',u3.oth _ _ nF0.symm (u2.oth _ _ n03 (cs.get h0)),u3.oth _ _ nF1.symm (u2.oth _ _ n13 (cs.get h1)),u3.oth _ _ nF2.symm (u2.oth _ _ n23 (cs.get h2)),u3.oth _ _ nF3.symm u2.at'⟩
     ·rintro σ H' ⟨v4,v5,R,l0,l1,l2,l3,rfl,dl,lR,s',eD',eF',h0,h1,h2,h3⟩
      walk_at "l2"
      exact q F H' R s' eF' dl.fm lR (dl.fin lR)
end
section
variable {P:Program} {w:World} {K:PySem.W.Frag} {mg:Str→Option Value} {base:Heap} {a:Ad}
local macro_rules | `(tactic| walk_at "l2step") =>`(tactic| first | ((with_reducible refine' c_whole ?e ?_);(case e=>walk_at "l2kind")) | ((with_reducible refine' c_mask ?e ?_);(case e=>walk_at "l2kind")) | (with_reducible refine dn ?_) | (with_reducible refine s_methX ?_))
theorem ny (d:Dt):eqD d d=true:=by first | exact xJ d | exact eqD_self d
local macro_rules | `(tactic| walk_at "l2step") =>`(tactic| first | ((with_reducible refine' rY ?e ?a ?_);(case e=>walk_at "l2hp");(case a=>walk_at "l2side")))
theorem Gs (T:Tx K mg a):FnOk P w K mg base CX0 10 a.ub a.E7 ["_law_script"] (xv K):=by
 have ge:=@kZ P w K mg base a T
 have zQ:=@vx P w K mg base a T
 have xo:=@tm P w K mg base a T
 have xp:=@tu P w K mg base a T
 have uP:=@qP P w K mg base a T
 have fk:=@gN P w K mg base a T
 have kO:=@vy P w K mg base a T
 have iq:=@vt P w K mg base a T
 have qm:=@vv P w K mg base a T
 refine T.Dj.ok gC (fun vs H Q E h=>?_) (fun cdv A outer s H vs Q E hr h=>?_)
 ·obtain ⟨p,ns,rfl,_⟩:=h;rfl
 ·obtain ⟨p0,ns,rfl,hS,hlen,q⟩:=h
  have hu0:=GJ hr
  have hu1:=qC hr
  refine ⟨_,((af (Gf (au zQ (hr.mono (by decide)) (by rfl) T.ze T.y8 T.kM .nil aL (aa (pv 0) (aa ai (aa ai ae)))) (sU rfl (bA (ao (i:=1) gC.nd rfl (by walk_at "o")) (bA (ao (i:=2) gC.nd rfl (by walk_at "o")) (bA (ao (i:=3) gC.nd rfl (by walk_at "o")) (bA (ao (i:=4) gC.nd rfl (by walk_at "o")) gH))))))
   (af (bv (i:=5) gC.nd rfl (by walk_at "o") (au xo (hr.mono (by decide)) (by rfl) T.wu T.wp T.jh .nil aL (aa (pv 1) (aa (pv 2) (aa (pv 3) (aa (pv 4) ae))))))
   (af (bv (i:=6) gC.nd rfl (by walk_at "o") (mX T.G3 fk (hr.mono (by decide)) (by rfl) T.GL T.dw .nil aL (aa (pv 1) (aa (pv 2) (aa (pv 3) (aa (pv 4) ae))))))
   (af (bv (i:=7) gC.nd rfl (by walk_at "o") (au xp (hr.mono (by decide)) (by rfl) T.wv T.wq T.ji .nil aL (aa (pv 1) (aa (pv 2) (aa (pv 3) (aa (pv 4) ae))))))
   (af (bv (i:=8) gC.nd rfl (by walk_at "o") (au iq (hr.mono (by decide)) (by rfl) T.il T.ij T.dX .nil aL (aa (pv 6) ae)))
   (af (eF (PW.pt (vg (pZ (jp (aH (uv (K:=K) rfl) (by rfl) T.k7 PyProof.Rows.boot_isinstance (aa (pv 8) (aa (AF (v:= .ty "str") (by rfl) T.EI PyProof.Rows.boot_str rfl) ae))))) (sP (aW AJ (pv 8) (pv 7) (bf _))))) (ak (br yw)) bB)
   (af (bv (i:=9) gC.nd rfl (by walk_at "o") (au qm (hr.mono (by decide)) (by rfl) T.qd T.qc T.ip .nil aL (aa (pv 7) ae)))
   (af (eF (PW.pt (vg (aW (qL (K:=K) rfl hu1) (cP (pv 9) T.c7 T.km kO (hr.mono (by decide)) T.fG .nil aL) (pv 5) (bf _)) (sP (aW AJ (au iq (hr.mono (by decide)) (by rfl) T.il T.ij T.dX .nil aL (aa (pv 9) ae)) (pv 7) (bf _))))) (ak (br yw)) bB)
   (vh (eF (aW AJ (pv 7) aV (bf _)) (ak (bv (i:=9) gC.nd rfl (by walk_at "o") (au qm (hr.mono (by decide)) (by rfl) T.qd T.qc T.ip .nil aL (aa (cB (K:=K) rfl PySem.F.plainAttrs_str PySem.F.slot_str_join PySem.F.type_str_join (jI (K:=K) rfl) aV (aa (au uP (hr.mono (by decide)) (by rfl) T.t6 T.t2 T.h8 .nil aL (aa (cB (K:=K) rfl PySem.F.plainAttrs_str PySem.F.slot_str_split PySem.F.type_str_split jH (pv 7) (aa aV ae)) (aa (au ge (hr.mono (by decide)) (by rfl) T.i9 T.i8 T.eA .nil aL (aa (pv 0) (aa ai ae))) ae))) ae)) ae)))) bB)
   (ak (br (p4 (fM (AL (K:=K) rfl hu1) (cP (pv 9) T.c7 T.km kO (hr.mono (by decide)) T.fG .nil aL) (pv 5) (bf _)) (p4 (fM jv (au iq (hr.mono (by decide)) (by rfl) T.il T.ij T.dX .nil aL (aa (pv 9) ae)) (pv 7) (bf _)) (p4 (fM (AL (K:=K) rfl hu1) (cP (pv 6) T.c7 T.km kO (hr.mono (by decide)) T.fG .nil aL) (pv 5) (bf _)) (xy (fM jv (au iq (hr.mono (by decide)) (by rfl) T.il T.ij T.dX .nil aL (aa (pv 6) ae)) (pv 7) (bf _)))))))))))))))))),aQ (σ':=[some _,none,none,none,none,none,none,none,none,none]) rfl ?_⟩
  walk_at "l2"
  refine ⟨p0,ns,1,12,rfl,hS,by decide,by decide,fun t i s u o H1 rs qs N s1 et hn g li _=>?_⟩
  have hS1:=Same.seq s1 hS
  walk_at "l2"
  refine ⟨i,s,u,o,rs,qs,N,rfl,hn,g,fun td E1 E2 E3 E4 H2 rs2 qs2 s2 td2=>?_⟩
  have hn2:=hn.same s2
  have hS2:=Same.seq s2 hS1
  walk_at "l2"
  intro x dx H3 f3 s3 e3
  have hn3:=hn2.same s3
  refine ⟨x,dx,i,s,u,o,rs,qs,N,rfl,e3,hn3,g,fun H4 od0 k4 na0=>⟨rfl,?_⟩⟩
  have s24:Same H2 H4:=fun b ob e=>k4 _ _ (ah e f3) (s3.get e)
  have hS4:=Same.seq s24 hS2
  have hn4:=hn2.same s24
  have td4:=td2.same s24
  clear k4 e3 s3 f3 hn3 hn2 hn et hS1 s1 hS hS2 td2
  have fm:=qB g
  have lrw:=mS g
  have eN:=yM N
  walk_at "l2"
  refine ⟨i,s,u,o,rs,qs,N,rfl,hn4,g,fun H5 s5=>?_⟩
  walk_at "l2"
  refine ⟨x,N,od0,rfl,na0.same s5,fun H6 s6=>?_⟩
  have s46:=s5.trans s6
  have td6:=td4.same s46
  have na6:=na0.same s46
  have hS6:=Same.seq s46 hS4
  walk_at "l2"
  rw [if_neg (by simp)]
  walk_at "l2"
  refine ⟨d4 N,rfl,fm,by omega,by rw [eN];exact g,fun n1 H7 od7 f7 s7 na7=>?_⟩
  rw [eN] at na7
  walk_at "l2"
  obtain ⟨_,_,_,_,_,_,_,_,_,_,hn7,_⟩:=na7.ho
  refine cN hn7 rfl ?_
  walk_at "l2"
  refine ⟨n1,N,od7,rfl,na7,fun t8 A1 A2 A3 A4 H8 rs8 qs8 _ _ _ _ f8 s8 td8=>?_⟩
  have tdd8:=td6.same (s7.trans s8)
  walk_at "l2"
  refine yn td8.rep tdd8.rep (wB N) ?_
  rw [ny]
  refine ⟨false,rfl,?_⟩
  rw [if_neg (by decide)]
  have na8:=na7.same s8
  walk_at "l2"
  refine ⟨n1,N,od7,rfl,na8,fun H9 s9=>?_⟩
  walk_at "l2"
  rw [if_neg (by simp)]
  have s69:=(s7.trans s8).trans s9
  have td9:=td6.same s69
  have nx9:=na6.same s69
  have na9:=na8.same s9
  have hS9:=Same.seq s69 hS6
  refine Et (fun σ H2=>∃ (n2:Addr) (od2:List Str),σ=[some (V.ref p0),some (V.ref i),some (V.ref s),some (V.ref u),some (V.ref o),some (V.ref td),some (V.ref x),some (V.str (txtN N)),some (V.str (txtN N)),some (V.ref n2)]∧Same H9 H2∧NAof a H2 n2 N od2) ?_ ?_
  ·walk_at "l2"
   by_cases he:txtN N=""
   ·refine fJ (by rw [he];decide) ?_
    walk_at "l2"
    exact ⟨n1,od7,rfl,Same.refl _,na9⟩
   ·refine j7 (by simp [he]) ?_
    have nr:d4 N≠[]:=fun z=>he (by unfold txtN;rw [z];decide +kernel)
    have tl:=xr fm
    have hw:∀ r∈d4 N,∀ w∈r,Wd w:=fun r hr=>(fm r hr).wd
    walk_at "l2"
    refine mR (by decide +kernel) (by rw [sizeLine_eq];show (txtR (d4 N)).length + 2≤_;omega) fun D3 H3 f3 s3 e3=>?_
    have e3:H3 D3=some (.lst (((d4 N).map rowT).map V.str)):=by
     rw [show txtN N=txtR (d4 N) from rfl,show (Str.ofString "\n")=⟨#[10]⟩ from by decide +kernel,pO hw nr] at e3
     exact e3
    have hS3:=Same.seq s3 hS9
    walk_at "l2"
    refine ⟨D3,_,d4 N,rfl,e3,fm,by omega,fun D4 H4 rows2 s4 e4 fm2 l2 n2=>?_⟩
    have hsum:∀ (l:List (List Str)),(∀ r∈l,Fm r)→((l.map rowT).map (·.length)).sum≤l.length * 189:=fun l=>by
     induction l with
     | nil=>intro _;simp
     | cons x l ih=>
       intro h
       have:=ih fun w hw=>h w (List.mem_cons_of_mem _ hw)
       have b1:=(h x List.mem_cons_self).len
       have b2:=ig b1.2
       have b3:x.length * 7≤27 * 7:=Nat.mul_le_mul_right 7 b1.1
       simp only [List.map_cons,List.sum_cons,List.length_cons];omega
    have hs:=hsum rows2 fm2
    walk_at "l2"
    refine sI (SqL.of e4) (by rw [iR,List.length_map];show _ + rows2.length * 1≤_;omega) ?_
    rw [jm,iR]
    walk_at "l2"
    refine ⟨rows2,rfl,fm2,by omega,by rw [n2,eN];exact g,fun n3 H5 od5 f5 s5 na5=>?_⟩
    rw [n2,eN] at na5
    walk_at "l2"
    exact ⟨n3,od5,rfl,s3.trans (s4.trans s5),na5⟩
  ·rintro σ H2 ⟨n2,od2,rfl,s2,na2⟩
   have td2:=td9.same s2
   have nx2:=nx9.same s2
   obtain ⟨_,_,_,_,_,_,_,_,_,_,hn2,_⟩:=na2.ho
   walk_at "l2"
   refine cN hn2 rfl ?_
   walk_at "l2"
   refine ⟨n2,N,od2,rfl,na2,fun t8 A1 A2 A3 A4 H8 rs8 qs8 _ _ _ _ f8 s8 td8=>?_⟩
   have tdd8:=td2.same s8
   walk_at "l2"
   refine yn td8.rep tdd8.rep (wB N) ?_
   rw [ny]
   refine ⟨true,rfl,?_⟩
   rw [if_pos rfl]
   have na8:=na2.same s8
   walk_at "l2"
   refine ⟨n2,N,od2,rfl,na8,fun H9' s9'=>?_⟩
   have nxA:=(nx2.same s8).same s9'
   have tdA:=tdd8.same s9'
   walk_at "l2"
   rw [if_pos (decide_eq_true rfl)]
   obtain ⟨_,_,_,_,_,_,_,_,_,_,hnA,_⟩:=nxA.ho
   walk_at "l2"
   refine cN hnA rfl ?_
   walk_at "l2"
   refine ⟨x,N,od0,rfl,nxA,fun tB B1 B2 B3 B4 HB rsB qsB _ _ _ _ fB sB tdB=>?_⟩
   have tdd:=tdA.same sB
   walk_at "l2"
   refine yn tdB.rep tdd.rep (wB N) ?_
   rw [ny]
   refine ⟨true,rfl,?_⟩
   rw [if_pos rfl]
   have nxB:=nxA.same sB
   walk_at "l2"
   refine ⟨x,N,od0,rfl,nxB,fun HC sC=>?_⟩
   walk_at "l2"
   rw [decide_eq_true rfl]
   exact q _
end
open PySem.W in
theorem all_mk {l:OpenLaw} {w:World} {K:Frag} {h:Heap} {mg:Str→Option Value} {fa:Addr} (X:K.In h) (G:h.Ns mainGlobals mg) (hfa:mg "law"=some (.ref fa))
  {lJ mx:Option Addr} {lA:Array (Option Value)} {lM mf ml lF gx mq:Value} {aR:Addr}
  {jy jU:Option Addr} {jn:Array (Option Value)} {jz jM jO jq eM jP:Value} {ax:Addr}
  {iY jj:Option Addr} {iS:Array (Option Value)} {iZ i7 ja iW em jf:Value} {aw:Addr}
  {gO h9:Option Addr} {gB:Array (Option Value)} {gP gW g7 gG dD hU:Value} {av:Addr}
  {yB zE:Option Addr} {yi:Array (Option Value)} {yE y2 zo yu qj zt:Value} {cS:Addr}
  {vz wZ:Option Addr} {uX:Array (Option Value)} {vG wf wC vi oo wL:Value} {cu:Addr}
  {o2 pL:Option Addr} {oR:Array (Option Value)} {o5 pr pC oW iN pF:Value} {bp:Addr}
  {o3 pM:Option Addr} {oS:Array (Option Value)} {o6 py pD oX iO pG:Value} {bq:Addr}
  {qQ r6:Option Addr} {qv:Array (Option Value)} {qT ro rL qG jQ rO:Value} {bE:Addr}
  {o1 pK:Option Addr} {oQ:Array (Option Value)} {o4 pq pB oV iM pE:Value} {bo:Addr}
  {lI mw:Option Addr} {ly:Array (Option Value)} {lL me mj lE gw mn:Value} {bb:Addr}
  {CG Df:Option Addr} {Cj:Array (Option Value)} {CH CY C7 CB xR C9:Value} {fT:Addr}
  {yA zD:Option Addr} {yh:Array (Option Value)} {yD y1 zn yt qi zr:Value} {cR:Addr}
  {nc oK:Option Addr} {mL:Array (Option Value)} {nj nR oa mW hZ on:Value} {aU:Addr}
  {nb oJ:Option Addr} {mK:Array (Option Value)} {nh nQ n0 mV hX om:Value} {aT:Addr}
  {m9 oI:Option Addr} {mJ:Array (Option Value)} {ng nP nZ mU hV oj:Value} {aS:Addr}
  {kc kN:Option Addr} {j5:Array (Option Value)} {ke kt ku j8 fE kG:Value} {aB:Addr}
  {lK my:Option Addr} {lB:Array (Option Value)} {lN mh mm lG gy mr:Value} {aJ:Addr}
  {vF xc:Option Addr} {vb:Array (Option Value)} {vM wo wI vp oz wR:Value} {bP:Addr}
  {vC w8:Option Addr} {u0:Array (Option Value)} {vJ wk wF vm ow wO:Value} {cx:Addr}
  {yz zC:Option Addr} {yg:Array (Option Value)} {yC y0 zm yr qh zq:Value} {cQ:Addr}
  {vB w6:Option Addr} {uZ:Array (Option Value)} {vI wj wE vk ou wN:Value} {cw:Addr}
  {vA w4:Option Addr} {uY:Array (Option Value)} {vH wg wD vj oq wM:Value} {cv:Addr}
  {tG uI:Option Addr} {sF:Array (Option Value)} {tK tX uj sT lg uo:Value} {b0:Addr}
  {vE xa:Option Addr} {va:Array (Option Value)} {vL wn wH vo oy wQ:Value} {cz:Addr}
  {tF uH:Option Addr} {sE:Array (Option Value)} {tJ tW ui sS lc um:Value} {bZ:Addr}
  {qR r8:Option Addr} {qx:Array (Option Value)} {qU rp rM qH jR rP:Value} {bF:Addr}
  {vD w9:Option Addr} {u1:Array (Option Value)} {vK wm wG vn ox wP:Value} {cy:Addr}
  {tD uF:Option Addr} {sA:Array (Option Value)} {tH tU ug sQ la uk:Value} {bX:Addr}
  {tE uG:Option Addr} {sD:Array (Option Value)} {tI tV uh sR lb ul:Value} {bY:Addr}
  {qS r9:Option Addr} {qy:Array (Option Value)} {qV rq rN qI jS rQ:Value} {bG:Addr}
  {Gu GW:Option Addr} {FF:Array (Option Value)} {Gv GA GS Gg DR GT:Value} {ub:Addr}
  {aX:Addr} (GZ:nsIn K mainGlobals "Wire"=some (some (.ref aX)))
  {am:Addr} (Dg:nsIn K mainGlobals "InWire"=some (some (.ref am)))
  {aj:Addr} (BJ:nsIn K mainGlobals "SumWire"=some (some (.ref aj)))
  {ag:Addr} (xk:nsIn K mainGlobals "StoreWire"=some (some (.ref ag)))
  {be:Addr} (HL:nsIn K mainGlobals "Net"=some (some (.ref be)))
  (z4:findIn K (.ref aX) "__init__"=some (some (.ref aR)))
  (nN:K.lookup aR=some ⟨lM,lJ,.func (fnOf "__init__" "Wire.__init__" (aD bL) (aC bL) (ad bL) .none mf ml lF mx gx mq),lA⟩)
  (oC:codeIn K gx "Wire.__init__"=true)
  (d7:keepIn K (.ref aR)=true)
  (x4:findIn K (.ref am) "__init__"=some (some (.ref ax)))
  (kr:K.lookup ax=some ⟨jz,jy,.func (fnOf "__init__" "InWire.__init__" (aD bu) (aC bu) (ad bu) .none jM jO jq jU eM jP),jn⟩)
  (kJ:codeIn K eM "InWire.__init__"=true)
  (fu:keepIn K (.ref ax)=true)
  (xq:findIn K (.ref aj) "__init__"=some (some (.ref aw)))
  (jL:K.lookup aw=some ⟨iZ,iY,.func (fnOf "__init__" "SumWire.__init__" (aD bh) (aC bh) (ad bh) .none i7 ja iW jj em jf),iS⟩)
  (jT:codeIn K em "SumWire.__init__"=true)
  (eK:keepIn K (.ref aw)=true)
  (uR:findIn K (.ref ag) "__init__"=some (some (.ref av)))
  (iE:K.lookup av=some ⟨gP,gO,.func (fnOf "__init__" "StoreWire.__init__" (aD bc) (aC bc) (ad bc) .none gW g7 gG h9 dD hU),gB⟩)
  (iG:codeIn K dD "StoreWire.__init__"=true)
  (dL:keepIn K (.ref av)=true)
  (BH:nsIn K mainGlobals "is_name"=some (some (.ref cS)))
  (AX:K.lookup cS=some ⟨yE,yB,.func (fnOf "is_name" "is_name" (aD dZ) (aC dZ) (ad dZ) .none y2 zo yu zE qj zt),yi⟩)
  (BC:codeIn K qj "is_name"=true)
  (sY:keepIn K (.ref cS)=true)
  (zF:nsIn K mainGlobals "words_of"=some (some (.ref cu)))
  (yT:K.lookup cu=some ⟨vG,vz,.func (fnOf "words_of" "words_of" (aD dR) (aC dR) (ad dR) .none wf wC vi wZ oo wL),uX⟩)
  (zv:codeIn K oo "words_of"=true)
  (p5:keepIn K (.ref cu)=true)
  (se:nsIn K mainGlobals "check_sizes"=some (some (.ref bp)))
  (rm:K.lookup bp=some ⟨o5,o2,.func (fnOf "check_sizes" "check_sizes" (aD bT) (aC bT) (ad bT) .none pr pC oW pL iN pF),oR⟩)
  (rW:codeIn K iN "check_sizes"=true)
  (jt:keepIn K (.ref bp)=true)
  (sf:nsIn K mainGlobals "check_names"=some (some (.ref bq)))
  (rn:K.lookup bq=some ⟨o6,o3,.func (fnOf "check_names" "check_names" (aD cn) (aC cn) (ad cn) .none py pD oX pM iO pG),oS⟩)
  (rX:codeIn K iO "check_names"=true)
  (ju:keepIn K (.ref bq)=true)
  (uJ:nsIn K mainGlobals "check_wire"=some (some (.ref bE)))
  (tR:K.lookup bE=some ⟨qT,qQ,.func (fnOf "check_wire" "check_wire" (aD cL) (aC cL) (ad cL) .none ro rL qG r6 jQ rO),qv⟩)
  (uy:codeIn K jQ "check_wire"=true)
  (kU:keepIn K (.ref bE)=true)
  (sd:nsIn K mainGlobals "check_wires"=some (some (.ref bo)))
  (rj:K.lookup bo=some ⟨o4,o1,.func (fnOf "check_wires" "check_wires" (aD ck) (aC ck) (ad ck) .none pq pB oV pK iM pE),oQ⟩)
  (rV:codeIn K iM "check_wires"=true)
  (jr:keepIn K (.ref bo)=true)
  (oM:nsIn K mainGlobals "wires_by_name"=some (some (.ref bb)))
  (nM:K.lookup bb=some ⟨lL,lI,.func (fnOf "wires_by_name" "wires_by_name" (aD aP) (aC aP) (ad aP) .none me mj lE mw gw mn),ly⟩)
  (oB:codeIn K gw "wires_by_name"=true)
  (gJ:keepIn K (.ref bb)=true)
  (Fb:nsIn K mainGlobals "waits"=some (some (.ref fT)))
  (ES:K.lookup fT=some ⟨CH,CG,.func (fnOf "waits" "waits" (aD iV) (aC iV) (ad iV) .none CY C7 CB Df xR C9),Cj⟩)
  (E8:codeIn K xR "waits"=true)
  (AH:keepIn K (.ref fT)=true)
  (BG:nsIn K mainGlobals "ordered"=some (some (.ref cR)))
  (AW:K.lookup cR=some ⟨yD,yA,.func (fnOf "ordered" "ordered" (aD dC) (aC dC) (ad dC) .none y1 zn yt zD qi zr),yh⟩)
  (BA:codeIn K qi "ordered"=true)
  (sX:keepIn K (.ref cR)=true)
  (BS:findIn K (.ref be) "__init__"=some (some (.ref aU)))
  (pp:K.lookup aU=some ⟨nj,nc,.func (fnOf "__init__" "Net.__init__" (aD ba) (aC ba) (ad ba) .none nR oa mW oK hZ on),mL⟩)
  (pJ:codeIn K hZ "Net.__init__"=true)
  (iI:keepIn K (.ref aU)=true)
  (BR:findIn K (.ref be) "in_names"=some (some (.ref aT)))
  (pj:K.lookup aT=some ⟨nh,nb,.func (fnOf "in_names" "Net.in_names" (aD b6) (aC b6) (ad b6) .none nQ n0 mV oJ hX om),mK⟩)
  (pI:codeIn K hX "Net.in_names"=true)
  (eW:keepIn K (.ref aT)=true)
  (BQ:findIn K (.ref be) "sum_rows"=some (some (.ref aS)))
  (pi:K.lookup aS=some ⟨ng,m9,.func (fnOf "sum_rows" "Net.sum_rows" (aD b5) (aC b5) (ad b5) .none nP nZ mU oI hV oj),mJ⟩)
  (pH:codeIn K hV "Net.sum_rows"=true)
  (eV:keepIn K (.ref aS)=true)
  (zR:findIn K (.ref be) "store_rows"=some (some (.ref aB)))
  (md:K.lookup aB=some ⟨ke,kc,.func (fnOf "store_rows" "Net.store_rows" (aD bC) (aC bC) (ad bC) .none kt ku j8 kN fE kG),j5⟩)
  (mt:codeIn K fE "Net.store_rows"=true)
  (dF:keepIn K (.ref aB)=true)
  (z5:findIn K (.ref be) "out_wires"=some (some (.ref aJ)))
  (nO:K.lookup aJ=some ⟨lN,lK,.func (fnOf "out_wires" "Net.out_wires" (aD bM) (aC bM) (ad bM) .none mh mm lG my gy mr),lB⟩)
  (oE:codeIn K gy "Net.out_wires"=true)
  (d8:keepIn K (.ref aJ)=true)
  (Fh:findIn K (.ref be) "told"=some (some (.ref bP)))
  (yZ:K.lookup bP=some ⟨vM,vF,.func (fnOf "told" "Net.told" (aD dU) (aC dU) (ad dU) .none wo wI vp xc oz wR),vb⟩)
  (zB:codeIn K oz "Net.told"=true)
  (ka:keepIn K (.ref bP)=true)
  (zI:nsIn K mainGlobals "has_form"=some (some (.ref cx)))
  (yW:K.lookup cx=some ⟨vJ,vC,.func (fnOf "has_form" "has_form" (aD da) (aC da) (ad da) .none wk wF vm w8 ow wO),u0⟩)
  (zy:codeIn K ow "has_form"=true)
  (p8:keepIn K (.ref cx)=true)
  (BF:nsIn K mainGlobals "rows_of"=some (some (.ref cQ)))
  (AV:K.lookup cQ=some ⟨yC,yz,.func (fnOf "rows_of" "rows_of" (aD fo) (aC fo) (ad fo) .none y0 zm yr zC qh zq),yg⟩)
  (Bz:codeIn K qh "rows_of"=true)
  (sW:keepIn K (.ref cQ)=true)
  (zH:nsIn K mainGlobals "read_net"=some (some (.ref cw)))
  (yV:K.lookup cw=some ⟨vI,vB,.func (fnOf "read_net" "read_net" (aD bK) (aC bK) (ad bK) .none wj wE vk w6 ou wN),uZ⟩)
  (zx:codeIn K ou "read_net"=true)
  (p7:keepIn K (.ref cw)=true)
  (zG:nsIn K mainGlobals "show_net"=some (some (.ref cv)))
  (yU:K.lookup cv=some ⟨vH,vA,.func (fnOf "show_net" "show_net" (aD bJ) (aC bJ) (ad bJ) .none wg wD vj w4 oq wM),uY⟩)
  (zw:codeIn K oq "show_net"=true)
  (p6:keepIn K (.ref cv)=true)
  (xj:nsIn K mainGlobals "_law_cell"=some (some (.ref b0)))
  (we:K.lookup b0=some ⟨tK,tG,.func (fnOf "_law_cell" "_law_cell" (aD de) (aC de) (ad de) .none tX uj sT uI lg uo),sF⟩)
  (wW:codeIn K lg "_law_cell"=true)
  (m5:keepIn K (.ref b0)=true)
  (zK:nsIn K mainGlobals "_law_mix"=some (some (.ref cz)))
  (yY:K.lookup cz=some ⟨vL,vE,.func (fnOf "_law_mix" "_law_mix" (aD dS) (aC dS) (ad dS) .none wn wH vo xa oy wQ),va⟩)
  (zA:codeIn K oy "_law_mix"=true)
  (qa:keepIn K (.ref cz)=true)
  (xi:nsIn K mainGlobals "_law_name"=some (some (.ref bZ)))
  (wc:K.lookup bZ=some ⟨tJ,tF,.func (fnOf "_law_name" "_law_name" (aD dc) (aC dc) (ad dc) .none tW ui sS uH lc um),sE⟩)
  (wV:codeIn K lc "_law_name"=true)
  (m4:keepIn K (.ref bZ)=true)
  (uK:nsIn K mainGlobals "_law_wires"=some (some (.ref bF)))
  (tS:K.lookup bF=some ⟨qU,qR,.func (fnOf "_law_wires" "_law_wires" (aD ca) (aC ca) (ad ca) .none rp rM qH r8 jR rP),qx⟩)
  (uz:codeIn K jR "_law_wires"=true)
  (kW:keepIn K (.ref bF)=true)
  (zJ:nsIn K mainGlobals "_law_net"=some (some (.ref cy)))
  (yX:K.lookup cy=some ⟨vK,vD,.func (fnOf "_law_net" "_law_net" (aD cq) (aC cq) (ad cq) .none wm wG vn w9 ox wP),u1⟩)
  (zz:codeIn K ox "_law_net"=true)
  (p9:keepIn K (.ref cy)=true)
  (xg:nsIn K mainGlobals "_law_told"=some (some (.ref bX)))
  (v8:K.lookup bX=some ⟨tH,tD,.func (fnOf "_law_told" "_law_told" (aD cK) (aC cK) (ad cK) .none tU ug sQ uF la uk),sA⟩)
  (wT:codeIn K la "_law_told"=true)
  (mZ:keepIn K (.ref bX)=true)
  (xh:nsIn K mainGlobals "_law_text"=some (some (.ref bY)))
  (wa:K.lookup bY=some ⟨tI,tE,.func (fnOf "_law_text" "_law_text" (aD bU) (aC bU) (ad bU) .none tV uh sR uG lb ul),sD⟩)
  (wU:codeIn K lb "_law_text"=true)
  (m3:keepIn K (.ref bY)=true)
  (uL:nsIn K mainGlobals "_law_dealt"=some (some (.ref bG)))
  (tT:K.lookup bG=some ⟨qV,qS,.func (fnOf "_law_dealt" "_law_dealt" (aD bD) (aC bD) (ad bD) .none rq rN qI r9 jS rQ),qy⟩)
  (uA:codeIn K jS "_law_dealt"=true)
  (kX:keepIn K (.ref bG)=true)
  (GY:nsIn K mainGlobals "law"=some (some (.ref ub)))
  (HF:K.lookup ub=some ⟨Gv,Gu,.func (fnOf "law" "law" (aD ym) (aC ym) (ad ym) .none GA GS Gg GW DR GT),FF⟩)
  (HK:codeIn K DR "law"=true)
  (Go:keepIn K (.ref ub)=true)
  (AC:plainGet K aX Str.empty=true)
  (AB:hasDictIn K aX=true)
  (AA:plainOver K aX=true)
  (Az:findIn K (.ref aX) "__setattr__"=some (some (.builtin "object.__setattr__")))
  (Ey:findIn K (.ref aX) "__class__"=some (some (.builtin "object.__class__")))
  (Ex:mroIn K aX (.type "object")=some true)
  (o7:findIn K (.ref aX) "by_name"=some none)
  (yF:findIn K (.ref aX) "ins"=some none)
  (jA:findIn K (.ref aX) "kept_stores"=some none)
  (vS:findIn K (.ref aX) "line"=some none)
  (vR:findIn K (.ref aX) "name"=some none)
  (qW:findIn K (.ref aX) "number"=some none)
  (vQ:findIn K (.ref aX) "outs"=some none)
  (vP:findIn K (.ref aX) "ring"=some none)
  (lO:findIn K (.ref aX) "sum_order"=some none)
  (vO:findIn K (.ref aX) "sums"=some none)
  (vN:findIn K (.ref aX) "wire"=some none)
  (tL:findIn K (.ref aX) "wires"=some none)
  (sO:plainGet K am Str.empty=true)
  (sN:hasDictIn K am=true)
  (sM:plainOver K am=true)
  (sL:findIn K (.ref am) "__setattr__"=some (some (.builtin "object.__setattr__")))
  (Ay:findIn K (.ref am) "__class__"=some (some (.builtin "object.__class__")))
  (Ax:mroIn K am (.type "object")=some true)
  (Bq:makesIn K am=true)
  (Bp:findIn K (.ref am) "__init__"=some (some (.ref ax)))
  (Bo:isFn K (.ref ax)=true)
  (Bn:keepIn K (.ref am)=true)
  (lX:findIn K (.ref am) "by_name"=some none)
  (tN:findIn K (.ref am) "ins"=some none)
  (iC:findIn K (.ref am) "kept_stores"=some none)
  (rf:findIn K (.ref am) "line"=some none)
  (re:findIn K (.ref am) "name"=some none)
  (nv:findIn K (.ref am) "number"=some none)
  (rc:findIn K (.ref am) "outs"=some none)
  (q5:findIn K (.ref am) "ring"=some none)
  (jC:findIn K (.ref am) "sum_order"=some none)
  (q4:findIn K (.ref am) "sums"=some none)
  (qZ:findIn K (.ref am) "wire"=some none)
  (ph:findIn K (.ref am) "wires"=some none)
  (pX:plainGet K aj Str.empty=true)
  (pW:hasDictIn K aj=true)
  (pV:plainOver K aj=true)
  (pU:findIn K (.ref aj) "__setattr__"=some (some (.builtin "object.__setattr__")))
  (yq:findIn K (.ref aj) "__class__"=some (some (.builtin "object.__class__")))
  (yp:mroIn K aj (.type "object")=some true)
  (zl:makesIn K aj=true)
  (zk:findIn K (.ref aj) "__init__"=some (some (.ref aw)))
  (zj:isFn K (.ref aw)=true)
  (zi:keepIn K (.ref aj)=true)
  (kg:findIn K (.ref aj) "by_name"=some none)
  (qX:findIn K (.ref aj) "ins"=some none)
  (gQ:findIn K (.ref aj) "kept_stores"=some none)
  (pf:findIn K (.ref aj) "line"=some none)
  (pe:findIn K (.ref aj) "name"=some none)
  (lP:findIn K (.ref aj) "number"=some none)
  (pd:findIn K (.ref aj) "outs"=some none)
  (pc:findIn K (.ref aj) "ring"=some none)
  (i0:findIn K (.ref aj) "sum_order"=some none)
  (o9:findIn K (.ref aj) "sums"=some none)
  (o8:findIn K (.ref aj) "wire"=some none)
  (np:findIn K (.ref aj) "wires"=some none)
  (kT:plainGet K ag Str.empty=true)
  (kS:hasDictIn K ag=true)
  (kR:plainOver K ag=true)
  (kQ:findIn K (.ref ag) "__setattr__"=some (some (.builtin "object.__setattr__")))
  (sK:findIn K (.ref ag) "__class__"=some (some (.builtin "object.__class__")))
  (sJ:mroIn K ag (.type "object")=some true)
  (uf:makesIn K ag=true)
  (ue:findIn K (.ref ag) "__init__"=some (some (.ref av)))
  (ud:isFn K (.ref av)=true)
  (uc:keepIn K (.ref ag)=true)
  (i5:findIn K (.ref ag) "by_name"=some none)
  (nq:findIn K (.ref ag) "ins"=some none)
  (fO:findIn K (.ref ag) "kept_stores"=some none)
  (lW:findIn K (.ref ag) "line"=some none)
  (lV:findIn K (.ref ag) "name"=some none)
  (jB:findIn K (.ref ag) "number"=some none)
  (lU:findIn K (.ref ag) "outs"=some none)
  (lT:findIn K (.ref ag) "ring"=some none)
  (gR:findIn K (.ref ag) "sum_order"=some none)
  (lS:findIn K (.ref ag) "sums"=some none)
  (lQ:findIn K (.ref ag) "wire"=some none)
  (kh:findIn K (.ref ag) "wires"=some none)
  (DC:plainGet K be Str.empty=true)
  (DB:hasDictIn K be=true)
  (DA:plainOver K be=true)
  (Dz:findIn K (.ref be) "__setattr__"=some (some (.builtin "object.__setattr__")))
  (Gd:findIn K (.ref be) "__class__"=some (some (.builtin "object.__class__")))
  (Gc:mroIn K be (.type "object")=some true)
  (GQ:makesIn K be=true)
  (GP:findIn K (.ref be) "__init__"=some (some (.ref aU)))
  (GO:isFn K (.ref aU)=true)
  (GN:keepIn K (.ref be)=true)
  (nI:findIn K (.ref be) "in_names"=some (some (.ref aT)))
  (nG:isFn K (.ref aT)=true)
  (nH:findIn K (.ref be) "sum_rows"=some (some (.ref aS)))
  (nF:isFn K (.ref aS)=true)
  (kq:findIn K (.ref be) "store_rows"=some (some (.ref aB)))
  (ko:isFn K (.ref aB)=true)
  (l9:findIn K (.ref be) "out_wires"=some (some (.ref aJ)))
  (l6:isFn K (.ref aJ)=true)
  (v0:findIn K (.ref be) "told"=some (some (.ref bP)))
  (vZ:isFn K (.ref bP)=true)
  (qY:findIn K (.ref be) "by_name"=some none)
  (AN:findIn K (.ref be) "ins"=some none)
  (ki:findIn K (.ref be) "kept_stores"=some none)
  (yL:findIn K (.ref be) "line"=some none)
  (yK:findIn K (.ref be) "name"=some none)
  (tM:findIn K (.ref be) "number"=some none)
  (yJ:findIn K (.ref be) "outs"=some none)
  (yI:findIn K (.ref be) "ring"=some none)
  (nu:findIn K (.ref be) "sum_order"=some none)
  (yH:findIn K (.ref be) "sums"=some none)
  (yG:findIn K (.ref be) "wire"=some none)
  (vT:findIn K (.ref be) "wires"=some none)
  (w1:specialIn K (.builtin "object.__class__") "__get__"=some (some (.builtin "getset_descriptor.__get__")))
  (w2:takesIn K (.builtin "object.__class__")=some true)
  {bR:Addr} (BI:nsIn K mainGlobals "TooMany"=some (some (.ref bR)))
  (jk:excIn K bR [.type "ValueError",.type "Exception",.type "BaseException",.type "object"] "ValueError.__new__"=true)
  (x3:isClsIn K bR=true)
  (xZ:findIn K (.ref bR) "__getattribute__"=some (some (.builtin "BaseException.__getattribute__")))
  (xX:findIn K (.ref bR) "__getattr__"=some none)
  (xW:findIn K (.ref bR) "__class__"=some (some (.builtin "object.__class__")))
  (xV:mroIn K bR (.type "object")=some true)
  (xU:mroIn K bR (.type "BaseException")=some true)
  (lx:specialIn K (.ref aX) "__getattribute__"=some (some (.builtin "type.__getattribute__")))
  (lu:readsIn K aX (.type "type")=true)
  (lh:findCls K (.ref aX) (.type "type") "__init__"=some (.val (.ref aR)))
  {mG:Tok} (BK:nsIn K mainGlobals "LETTERS"=some (some (.str "abcdefghijklmnopqrstuvwxyz" mG)))
  {eR:Tok} (pN:nsIn K mainGlobals "LONGEST_NAME"=some (some (.int 6 eR)))
  {j2:Tok} (zL:nsIn K mainGlobals "MOST_INS"=some (some (.int 6 j2)))
  {iQ:Tok} (xm:nsIn K mainGlobals "MOST_OUTS"=some (some (.int 6 iQ)))
  {fI:Tok} (sg:nsIn K mainGlobals "MOST_STORES"=some (some (.int 16 fI)))
  {iP:Tok} (xl:nsIn K mainGlobals "MOST_SUMS"=some (some (.int 40 iP)))
  {gA:Tok} (uN:nsIn K mainGlobals "MOST_WIRES"=some (some (.int 24 gA)))
  {gz:Tok} (uM:nsIn K mainGlobals "NAME_SIGNS"=some (some (.str "abcdefghijklmnopqrstuvwxyz0123456789" gz)))
  (Hd:nsIn K mainGlobals "all"=some none)
  (Hc:nsIn K mainGlobals "any"=some none)
  (Fq:nsIn K mainGlobals "dict"=some none)
  (uU:nsIn K mainGlobals "enumerate"=some none)
  (sv:nsIn K mainGlobals "isinstance"=some none)
  (Hb:nsIn K mainGlobals "len"=some none)
  (Fp:nsIn K mainGlobals "list"=some none)
  (DZ:nsIn K mainGlobals "range"=some none)
  (xT:nsIn K mainGlobals "reversed"=some none)
  (Ha:nsIn K mainGlobals "str"=some none)
  (DY:nsIn K mainGlobals "tuple"=some none):
  ∃ fd:FuncData,(∀ (s:Shared) (v:Value),BindsTo s fd ⟨[v],[]⟩ [("_law_script",v)])∧∀ base:Heap,K.In base→base.Ns mainGlobals mg→FnOk l.prog w K mg base CX0 10 fa fd ["_law_script"] (xv K):=by
 have e:=hfa.symm.trans (mg_of X G GY)
 cases e
 have cZ:=bt (st:=bL) nN oC d7
 have cf:=cZ.binds (ps:=["self","name"]) fun _ _ _ _ _ _ us hl=>match us,hl with | [_,_],_=>rfl
 have cA:=bt (st:=bu) kr kJ fu
 have dk:=cA.binds (ps:=["self","name","number"]) fun _ _ _ _ _ _ us hl=>match us,hl with | [_,_,_],_=>rfl
 have b8:=bt (st:=bh) jL jT eK
 have cU:=b8.binds (ps:=["self","name","wires"]) fun _ _ _ _ _ _ us hl=>match us,hl with | [_,_,_],_=>rfl
 have bI:=bt (st:=bc) iE iG dL
 have cF:=bI.binds (ps:=["self","name","wire","number"]) fun _ _ _ _ _ _ us hl=>match us,hl with | [_,_,_,_],_=>rfl
 have jY:=bt (st:=dZ) AX BC sY
 have eu:=jY.binds (ps:=["thing"]) fun _ _ _ _ _ _ us hl=>match us,hl with | [_],_=>rfl
 have ir:=bt (st:=dR) yT zv p5
 have kK:=ir.binds (ps:=["row"]) fun _ _ _ _ _ _ us hl=>match us,hl with | [_],_=>rfl
 have dO:=bt (st:=bT) rm rW jt
 have fZ:=dO.binds (ps:=["ins","sums","stores","outs"]) fun _ _ _ _ _ _ us hl=>match us,hl with | [_,_,_,_],_=>rfl
 have dP:=bt (st:=cn) rn rX ju
 have gb:=dP.binds (ps:=["names"]) fun _ _ _ _ _ _ us hl=>match us,hl with | [_],_=>rfl
 have eO:=bt (st:=cL) tR uy kU
 have dE:=eO.binds (ps:=["wire","known"]) fun _ _ _ _ _ _ us hl=>match us,hl with | [_,_],_=>rfl
 have dN:=bt (st:=ck) rj rV jr
 have fY:=dN.binds (ps:=["sums","stores","outs","known"]) fun _ _ _ _ _ _ us hl=>match us,hl with | [_,_,_,_],_=>rfl
 have cX:=bt (st:=aP) nM oB gJ
 have eo:=cX.binds (ps:=["ins","sums","stores"]) fun _ _ _ _ _ _ us hl=>match us,hl with | [_,_,_],_=>rfl
 have so:=bt (st:=iV) ES E8 AH
 have rZ:=so.binds (ps:=["row","waiting"]) fun _ _ _ _ _ _ us hl=>match us,hl with | [_,_],_=>rfl
 have jX:=bt (st:=dC) AW BA sX
 have oG:=jX.binds (ps:=["sums"]) fun _ _ _ _ _ _ us hl=>match us,hl with | [_],_=>rfl
 have dA:=bt (st:=ba) pp pJ iI
 have dw:=dA.binds (ps:=["self","ins","sums","stores","outs"]) fun _ _ _ _ _ _ us hl=>match us,hl with | [_,_,_,_,_],_=>rfl
 have dz:=bt (st:=b6) pj pI eW
 have du:=dz.binds (ps:=["self"]) fun _ _ _ _ _ _ us hl=>match us,hl with | [_],_=>rfl
 have dy:=bt (st:=b5) pi pH eV
 have dq:=dy.binds (ps:=["self"]) fun _ _ _ _ _ _ us hl=>match us,hl with | [_],_=>rfl
 have cI:=bt (st:=bC) md mt dF
 have cH:=cI.binds (ps:=["self"]) fun _ _ _ _ _ _ us hl=>match us,hl with | [_],_=>rfl
 have c6:=bt (st:=bM) nO oE d8
 have cV:=c6.binds (ps:=["self"]) fun _ _ _ _ _ _ us hl=>match us,hl with | [_],_=>rfl
 have iB:=bt (st:=dU) yZ zB ka
 have fG:=iB.binds (ps:=["self"]) fun _ _ _ _ _ _ us hl=>match us,hl with | [_],_=>rfl
 have iy:=bt (st:=da) yW zy p8
 have kL:=iy.binds (ps:=["words"]) fun _ _ _ _ _ _ us hl=>match us,hl with | [_],_=>rfl
 have jW:=bt (st:=fo) AV Bz sW
 have oF:=jW.binds (ps:=["text"]) fun _ _ _ _ _ _ us hl=>match us,hl with | [_],_=>rfl
 have iw:=bt (st:=bK) yV zx p7
 have ip:=iw.binds (ps:=["text"]) fun _ _ _ _ _ _ us hl=>match us,hl with | [_],_=>rfl
 have iu:=bt (st:=bJ) yU zw p6
 have dX:=iu.binds (ps:=["net"]) fun _ _ _ _ _ _ us hl=>match us,hl with | [_],_=>rfl
 have gj:=bt (st:=de) we wW m5
 have eA:=gj.binds (ps:=["_law_script","_law_k"]) fun _ _ _ _ _ _ us hl=>match us,hl with | [_,_],_=>rfl
 have iA:=bt (st:=dS) yY zA qa
 have bd:=iA.binds (ps:=["_law_cell_here","_law_k"]) fun _ _ _ _ _ _ us hl=>match us,hl with | [_,_],_=>rfl
 have gi:=bt (st:=dc) wc wV m4
 have dj:=gi.binds (ps:=["_law_cell_here","_law_k"]) fun _ _ _ _ _ _ us hl=>match us,hl with | [_,_],_=>rfl
 have eP:=bt (st:=ca) tS uz kW
 have h7:=eP.binds (ps:=["_law_cell_here","_law_start","_law_names","_law_digits"]) fun _ _ _ _ _ _ us hl=>match us,hl with | [_,_,_,_],_=>rfl
 have iz:=bt (st:=cq) yX zz p9
 have kM:=iz.binds (ps:=["_law_script","_law_start","_law_most"]) fun _ _ _ _ _ _ us hl=>match us,hl with | [_,_,_],_=>rfl
 have gf:=bt (st:=cK) v8 wT mZ
 have jh:=gf.binds (ps:=["_law_ins","_law_sums","_law_stores","_law_outs"]) fun _ _ _ _ _ _ us hl=>match us,hl with | [_,_,_,_],_=>rfl
 have gh:=bt (st:=bU) wa wU m3
 have ji:=gh.binds (ps:=["_law_ins","_law_sums","_law_stores","_law_outs"]) fun _ _ _ _ _ _ us hl=>match us,hl with | [_,_,_,_],_=>rfl
 have eQ:=bt (st:=bD) tT uA kX
 have h8:=eQ.binds (ps:=["_law_rows","_law_cell_here"]) fun _ _ _ _ _ _ us hl=>match us,hl with | [_,_],_=>rfl
 have Dj:=bt (st:=ym) HF HK Go
 have GU:=Dj.binds (ps:=["_law_script"]) fun _ _ _ _ _ _ us hl=>match us,hl with | [_],_=>rfl
 have T:Tx K mg ⟨aR,_,ax,_,aw,_,av,_,cS,_,cu,_,bp,_,bq,_,bE,_,bo,_,bb,_,fT,_,cR,_,aU,_,aT,_,aS,_,aB,_,aJ,_,bP,_,cx,_,cQ,_,cw,_,cv,_,b0,_,cz,_,bZ,_,bF,_,cy,_,bX,_,bY,_,bG,_,fa,_,aX,am,aj,ag,be,bR,_,_,_,_,_,_,_,_⟩:=⟨cZ,d7,cf,cA,fu,dk,b8,eK,cU,bI,dL,cF,jY,sY,eu,mg_of X G BH,ir,p5,kK,mg_of X G zF,dO,jt,fZ,mg_of X G se,dP,ju,gb,mg_of X G sf,eO,kU,dE,mg_of X G uJ,dN,jr,fY,mg_of X G sd,cX,gJ,eo,mg_of X G oM,so,AH,rZ,mg_of X G Fb,jX,sX,oG,mg_of X G BG,dA,iI,dw,dz,eW,du,dy,eV,dq,cI,dF,cH,c6,d8,cV,iB,ka,fG,iy,p8,kL,mg_of X G zI,jW,sW,oF,mg_of X G BF,iw,p7,ip,mg_of X G zH,iu,p6,dX,mg_of X G zG,gj,m5,eA,mg_of X G xj,iA,qa,bd,mg_of X G zK,gi,m4,dj,mg_of X G xi,eP,kW,h7,mg_of X G uK,iz,p9,kM,mg_of X G zJ,gf,mZ,jh,mg_of X G xg,gh,m3,ji,mg_of X G xh,eQ,kX,h8,mg_of X G uL,Dj,Go,GU,mg_of X G GY,mg_of X G GZ,⟨AC,AB,AA,Az⟩,⟨⟨AC,AB,AA,Az⟩,Ey,w1,w2,Ex⟩,o7,yF,jA,vS,vR,qW,vQ,vP,lO,vO,vN,tL,mg_of X G Dg,⟨sO,sN,sM,sL⟩,⟨⟨sO,sN,sM,sL⟩,Ay,w1,w2,Ax⟩,⟨Bq,Bp,Bo,Bn⟩,lX,tN,iC,rf,re,nv,rc,q5,jC,q4,qZ,ph,mg_of X G BJ,⟨pX,pW,pV,pU⟩,⟨⟨pX,pW,pV,pU⟩,yq,w1,w2,yp⟩,⟨zl,zk,zj,zi⟩,kg,qX,gQ,pf,pe,lP,pd,pc,i0,o9,o8,np,mg_of X G xk,⟨kT,kS,kR,kQ⟩,⟨⟨kT,kS,kR,kQ⟩,sK,w1,w2,sJ⟩,⟨uf,ue,ud,uc⟩,i5,nq,fO,lW,lV,jB,lU,lT,gR,lS,lQ,kh,mg_of X G HL,⟨DC,DB,DA,Dz⟩,⟨⟨DC,DB,DA,Dz⟩,Gd,w1,w2,Gc⟩,⟨GQ,GP,GO,GN⟩,⟨nI,nG,eW⟩,⟨nH,nF,eV⟩,⟨kq,ko,dF⟩,⟨l9,l6,d8⟩,⟨v0,vZ,ka⟩,qY,AN,ki,yL,yK,tM,yJ,yI,nu,yH,yG,vT,⟨lx,lu,lh,(by rfl),d7⟩,mg_of X G BI,jk,⟨x3,xZ,xX,xW,w1,w2,xV,xU⟩,mg_of X G BK,mg_of X G pN,mg_of X G zL,mg_of X G xm,mg_of X G sg,mg_of X G xl,mg_of X G uN,mg_of X G uM,mg_none_of X G Hd,mg_none_of X G Hc,mg_none_of X G Fq,mg_none_of X G uU,mg_none_of X G sv,mg_none_of X G Hb,mg_none_of X G Fp,mg_none_of X G DZ,mg_none_of X G xT,mg_none_of X G Ha,mg_none_of X G DY⟩
 exact ⟨_,fun s v=> .of_eq rfl,fun base _ _=>Gs T⟩
open PySem.W in
theorem walk {l:OpenLaw} {q:Program} {loose:List Str} {XP:(Str→Option Value)→Heap→Prop} {YP:World→Heap→Prop} {d:DefRec} {K:Params→Frag} (hn:l.most=some 63) (hdf:d.params.defaults=[])
  (hY:∀ (w:World) (h:Heap),YP w h→(K w.params).In h)
  (F:∀ (w:World) (mg:Str→Option Value) (fa:Addr) (h:Heap),(K w.params).In h→h.Ns mainGlobals mg→mg d.name=some (.ref fa)→
   ∃ fd:FuncData,(∀ (s:Shared) (u:Value),BindsTo s fd ⟨[u],[]⟩ [("_law_script",u)])∧∀ base:Heap,(K w.params).In base→base.Ns mainGlobals mg→FnOk l.prog w (K w.params) mg base CX0 10 fa fd ["_law_script"] (xv (K w.params))):
  WalkO q loose XP YP l.row.toRowW d [] (fun f vs=>PySem.call f vs):=
 L2.walk_of (n:=63) (k:=10) (x:="_law_script") (CX:=fun _=>CX0) (sp:=fun w=>xv (K w.params)) hn (by decide) hdf ⟨rfl,by decide,by decide⟩ hY F (fun _ _ a ns hl _ hS=>⟨a,ns,rfl,hS,hl,fun _=>rfl⟩) fun _ _ _ _ _ z=>z
end My
def PySem.W.Fast.tw4256739245329971994:Unit:=()
def PySem.W.Fast.tw468813761239990513:Unit:=()
def PySem.W.Fast.tw7994999872178286514:Unit:=()
def PySem.W.Fast.tw1421459148442603:Unit:=()
def PySem.W.Fast.tw8666954370015127307:Unit:=()
def PySem.W.Fast.tw4291463177660784914:Unit:=()
def PySem.W.Fast.tw17678734231081641238:Unit:=()
def PySem.W.Fast.tw5932801597481518434:Unit:=()
def PySem.W.Fast.tw10112185604364125168:Unit:=()
def PySem.W.Fast.tw2663979340919803358:Unit:=()
def PySem.W.Fast.tw4911080010544536424:Unit:=()
def PySem.W.Fast.tw13992903274238002032:Unit:=()
def PySem.W.Fast.tw17592963812175368405:Unit:=()
def PySem.W.Fast.tw7962641022648021290:Unit:=()
def PySem.W.Fast.tw14829893292149461962:Unit:=()
def PySem.W.Fast.tw2625050261707725782:Unit:=()
def PySem.W.Fast.tw9218376748530935470:Unit:=()
def PySem.W.Fast.tw9508170150538547399:Unit:=()
def PySem.W.Fast.tw8215330755398871477:Unit:=()
def PySem.W.Fast.tw1212825091003744096:Unit:=()
def PySem.W.Fast.tw13599420315195679570:Unit:=()
def PySem.W.Fast.tw16679081539882342964:Unit:=()
def PySem.W.Fast.tw6291407163995981231:Unit:=()
def PySem.W.Fast.tw3898093450692469214:Unit:=()
def PySem.W.Fast.tw3857094827879064653:Unit:=()
def PySem.W.Fast.tw2914924698313233463:Unit:=()
def PySem.W.Fast.tw2389340430382561583:Unit:=()
def PySem.W.Fast.tw15586262926156804862:Unit:=()
def PySem.W.Fast.tw10450951975596482851:Unit:=()
def PySem.W.Fast.tw11834257068692959790:Unit:=()
def PySem.W.Fast.tw8304733770254703566:Unit:=()
def PySem.W.Fast.tw4198511477789550235:Unit:=()
def PySem.W.Fast.tw12897571875071387743:Unit:=()
def PySem.W.Fast.tw199074215879398597:Unit:=()
def PySem.W.Fast.tw3622095803608280006:Unit:=()
def PySem.W.Fast.tw6265910915703451235:Unit:=()
def PySem.W.Fast.tw13737924051700930224:Unit:=()
def PySem.W.Fast.tw4237832313316028609:Unit:=()
def PySem.W.Fast.tw4612606870822840747:Unit:=()
def PySem.W.Fast.tw2229232241958405890:Unit:=()
def PySem.W.Fast.tw14921953640724198369:Unit:=()
def PySem.W.Fast.tw13867351058649351845:Unit:=()
def PySem.W.Fast.tw7385736953110356652:Unit:=()
def PySem.W.Fast.tw6163863511546345067:Unit:=()
def PySem.W.Fast.tw5457757221744618108:Unit:=()
def PySem.W.Fast.tw4343973464126327987:Unit:=()
def PySem.W.Fast.tw13567085500275713134:Unit:=()
def PySem.W.Fast.tw12043914125843058898:Unit:=()
def PySem.W.Fast.tw4195558091613906971:Unit:=()
def PySem.W.Fast.tw11529748909026170384:Unit:=()
def PySem.W.Fast.tw1154059543219812465:Unit:=()
def PySem.W.Fast.tw17981738661656730318:Unit:=()
def PySem.W.Fast.tw10219791919359415880:Unit:=()
def PySem.W.Fast.tw9200420830852999470:Unit:=()
def PySem.W.Fast.tw10842666684020325490:Unit:=()
def PySem.W.Fast.tw10533464717823327950:Unit:=()
def PySem.W.Fast.tw5068171607735328070:Unit:=()
def PySem.W.Fast.tw11217954516283829095:Unit:=()
def PySem.W.Fast.tw4743434187963611626:Unit:=()
open PySem PySem.W PyProof.Rows
set_option maxRecDepth 100000 in
set_option maxHeartbeats 0 in
theorem PySem.Challenge.cw_sumwires_k15_written_and_read_holds : PySem.Challenge.rw_sumwires_k15_written_and_read.Holds := by
 w_on;o_law;k_head;(case hw=>w_witness2)
 k_fill
 refine My.walk (l:=PySem.Challenge.rw_sumwires_k15_written_and_read) rfl rfl (fun w h Y=>PySem.W.kIn_of Y) ?F
 case F=>
  intro w mg fa h KX G hmg
  refine' My.all_mk KX G hmg _ _ _ _ _ _ _ _ _ _ _ _ _ _ _ _ _ _ _ _ _ _ _ _ _ _ _ _ _ _ _ _ _ _ _ _ _ _ _ _ _ _ _ _ _ _ _ _ _ _ _ _ _ _ _ _ _ _ _ _ _ _ _ _ _ _ _ _ _ _ _ _ _ _ _ _ _ _ _ _ _ _ _ _ _ _ _ _ _ _ _ _ _ _ _ _ _ _ _ _ _ _ _ _ _ _ _ _ _ _ _ _ _ _ _ _ _ _ _ _ _ _ _ _ _ _ _ _ _ _ _ _ _ _ _ _ _ _ _ _ _ _ _ _ _ _ _ _ _ _ _ _ _ _ _ _ _ _ _ _ _ _ _ _ _ _ _ _ _ _ _ _ _ _ _ _ _ _ _ _ _ _ _ _ _ _ _ _ _ _ _ _ _ _ _ _ _ _ _ _ _ _ _ _ _ _ _ _ _ _ _ _ _ _ _ _ _ _ _ _ _ _ _ _ _ _ _ _ _ _ _ _ _ _ _ _ _ _ _ _ _ _ _ _ _ _ _ _ _ _ _ _ ?jk _ _ _ _ _ _ _ _ _ _ _ _ _ _ _ _ _ _ _ _ _ _ _ _ _ _ _ _
  any_goals ((with_reducible show _=_);k_is)
  (case jk=>k_exc)
