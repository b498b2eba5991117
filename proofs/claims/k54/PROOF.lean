import PyProof.Rows.All
import Wide.All
import OpenK.AllK
import Wide.FinOn
import Lean
import PyProof.EqAt
import PyProof.EqKinds
import PyProof.TupleCall
import PyProof.NeKinds
import KE.KIsAll
import PyProof.RulesAs
import PyProof.StationsW
import PyProof.ExcClass2
import OpenK.KOwn
import PyProof.NsDelKeeps
import PyProof.ExcAttrAll.ValueError
import KE.KDictList
import KE.KSorted
import PyProof.SumAny
import PyProof.WalkInts
import PyProof.EnumMake
import KE.KItemsList
import KE.KRevIter
import PyProof.ExcInit
import PyProof.InstStoreFacts
import PyProof.IsRules
import KE.KDictOf
import PyProof.AttrMissHeap
import PyProof.MinMaxWalk
import PyProof.DictIter
import PyProof.ExcClass
import PyProof.ListRange
import PyProof.TupleKey
import PySem.Challenge.RW_sumwires_k54_states_that_fit
set_option Elab.async false
set_option linter.all false
set_option maxRecDepth 100000
namespace L2
open PySem PySem.Spec PyProof.Rows
noncomputable abbrev Key:=Sum Int Str
noncomputable def BE:Key→Value→Bool
 | .inl k,v=>Value.isInt k v
 | .inr x,v=>Value.isStrOf x v
noncomputable def keyH (w:World):Key→Int
 | .inl k=>hashInt k
 | .inr x=>hashStr w x
theorem cD:∀ {k:Key} {v:Value},BE k v=true→(∃ i t,k=Sum.inl i∧v=Value.int i t)∨(∃ x t,k=Sum.inr x∧v=Value.str x t)
 | .inl i,v,h=>by
   obtain ⟨t,e⟩:=Value.isInt_shape (k:=i) (v:=v) h
   exact .inl ⟨i,t,rfl,e⟩
 | .inr x,v,h=>by
   obtain ⟨t,e⟩:=Value.isStrOf_shape (x:=x) (v:=v) h
   exact .inr ⟨x,t,rfl,e⟩
theorem Kq (i:Int) (t:Tok):BE (.inl i) (.int i t)=true:=by simp [BE,Value.isInt]
theorem Kp (x:Str) (t:Tok):BE (.inr x) (.str x t)=true:=by simp [BE,Value.isStrOf]
theorem RI (a b:Int):decide ((Sum.inl a:Key)=Sum.inl b)=(a == b):=by
 by_cases e:a=b
 ·subst e;simp
 ·have h:¬ (Sum.inl a:Key)=Sum.inl b:=fun q=>e (Sum.inl.inj q)
  rw [decide_eq_false h]
  exact (beq_eq_false_iff_ne.mpr e).symm
theorem RF (a b:Str):decide ((Sum.inr a:Key)=Sum.inr b)=decide (a=b):=by
 by_cases e:a=b
 ·subst e;simp
 ·have h:¬ (Sum.inr a:Key)=Sum.inr b:=fun q=>e (Sum.inr.inj q)
  rw [decide_eq_false h,decide_eq_false e]
theorem RH (a:Int) (b:Str):decide ((Sum.inl a:Key)=Sum.inr b)=false:=decide_eq_false (fun q=>nomatch q)
theorem RG (a:Str) (b:Int):decide ((Sum.inr a:Key)=Sum.inl b)=false:=decide_eq_false (fun q=>nomatch q)
noncomputable def dA (prog:Program) (w:World):PySem.KeyKind prog w Key where
 is:=BE
 hash:=keyH w
 inj:=fun v a b ha hb=>by
  rcases cD ha with ⟨i,t,rfl,rfl⟩ | ⟨x,t,rfl,rfl⟩
  ·rcases cD hb with ⟨j,u,rfl,e⟩ | ⟨y,u,rfl,e⟩
   ·injection e with e1 _;rw [e1]
   ·exact nomatch e
  ·rcases cD hb with ⟨j,u,rfl,e⟩ | ⟨y,u,rfl,e⟩
   ·exact nomatch e
   ·injection e with e1 _;rw [e1]
 byValue:=fun k v h=>by
  rcases cD h with ⟨i,t,rfl,rfl⟩ | ⟨x,t,rfl,rfl⟩<;>rfl
 pyHash:=fun hv h=>by
  rcases cD hv with ⟨i,t,rfl,rfl⟩ | ⟨x,t,rfl,rfl⟩
  ·exact wpAny_pyHash_int h
  ·exact wpAny_pyHash_str h
 eqBool:=fun hu hv h=>by
  rcases cD hu with ⟨i,t,rfl,rfl⟩ | ⟨x,t,rfl,rfl⟩
  ·rcases cD hv with ⟨j,u,rfl,rfl⟩ | ⟨y,u,rfl,rfl⟩
   ·rw [RI] at h;exact wpAny_eqBool_int h
   ·rw [RH] at h;exact SeqAt.EqAt.int_str i t y u _ _ _ _ h
  ·rcases cD hv with ⟨j,u,rfl,rfl⟩ | ⟨y,u,rfl,rfl⟩
   ·rw [RG] at h;exact SeqAt.EqAt.str_int x t j u _ _ _ _ h
   ·rw [RF] at h;exact wpAny_eqBool_str h
 «strs»:=fun k x t v h=>by
  rcases cD h with ⟨i,u,rfl,e⟩ | ⟨y,u,rfl,e⟩
  ·exact nomatch e
  ·injection e with e1 _
   subst e1
   cases v<;>rfl
theorem Ef (prog:Program) (w:World) (i:Int) (t:Tok):(dA prog w).is (.inl i) (.int i t)=true:=Kq i t
theorem Ee (prog:Program) (w:World) (x:Str) (t:Tok):(dA prog w).is (.inr x) (.str x t)=true:=Kp x t
inductive V where
 | non | bl (b:Bool) | int (i:Int) | str (x:Str) | byt (b:Array UInt8) | flt (b:UInt64) | ref (a:Addr) | ty (n:String)
 deriving DecidableEq
noncomputable def RelV:V→Value→Prop
 | .non,u=>u=Value.none
 | .bl b,u=>u=Value.bool b
 | .int i,u=>∃ t,u=Value.int i t
 | .str x,u=>∃ t,u=Value.str x t
 | .byt b,u=>∃ t,u=Value.bytes b t
 | .flt b,u=>∃ t,u=Value.float b t
 | .ref a,u=>u=Value.ref a
 | .ty n,u=>u=Value.type n
noncomputable abbrev Vals:List V→List Value→Prop:=Paired RelV
theorem Vals.length {xs:List V} {us:List Value} (r:Vals xs us):xs.length=us.length:=Paired.length r
theorem Vals.get:∀ {xs:List V} {us:List Value} {i:Nat} {x:V},Vals xs us→xs[i]? =some x→∃ u,us[i]? =some u∧RelV x u
 | _,_,_,_,.nil,e=>by simp at e
 | _,_,0,_,.cons r _,e=>by simp at e;subst e;exact ⟨_,rfl,r⟩
 | _,_,i + 1,x,.cons _ t,e=>by
   obtain ⟨u,h1,h2⟩:=Vals.get (i:=i) (x:=x) t (by simpa using e)
   exact ⟨u,by simpa using h1,h2⟩
theorem Vals.set {x:V} {u:Value} (r:RelV x u):∀ {xs:List V} {us:List Value} (i:Nat),Vals xs us→Vals (xs.set i x) (us.set i u)
 | _,_,_,.nil=> .nil
 | _,_,0,.cons _ t=> .cons r t
 | _,_,i + 1,.cons q t=> .cons q (Vals.set r i t)
theorem Vals.append:∀ {xs ys:List V} {us ws:List Value},Vals xs us→Vals ys ws→Vals (xs++ys) (us++ws)
 | _,_,_,_,.nil,s=>s
 | _,_,_,_,.cons r t,s=> .cons r (Vals.append t s)
theorem Vals.take:∀ {xs:List V} {us:List Value} (n:Nat),Vals xs us→Vals (xs.take n) (us.take n)
 | _,_,0,_=> .nil
 | _,_,_ + 1,.nil=> .nil
 | _,_,n + 1,.cons r t=> .cons r (Vals.take n t)
theorem Vals.drop:∀ {xs:List V} {us:List Value} (n:Nat),Vals xs us→Vals (xs.drop n) (us.drop n)
 | _,_,0,r=>r
 | _,_,_ + 1,.nil=> .nil
 | _,_,n + 1,.cons _ t=>Vals.drop n t
noncomputable def RelO:Option V→Option Value→Prop
 | some v,some u=>RelV v u
 | none,none=>True
 | _,_=>False
noncomputable def KV {κ:Type}:List (κ×V)→List (κ×Value)→Prop:=Paired fun (p:κ×V) (q:κ×Value)=>p.1=q.1∧RelV p.2 q.2
noncomputable def kV:Key→V
 | .inl i=> .int i
 | .inr x=> .str x
inductive HO where
 | lst (xs:List V)
 | tup (xs:List V)
 | dK (kvs:List (Key×V)) | dT (kvs:List (List Key×V))
 | set (S:Int→Bool) (n:Nat)
 | ins (C dx:Addr) (fs:List (Str×V))
 | own (x:Addr)
 | xd (fs:List (Str×V))
 | met (f x:Addr)
 | rng (lo hi:Int)
 | frz (o:Obj) (u:HO)
 | tbl (ps:Array Value)
 | ext (φ:Heap→Prop)
noncomputable abbrev Hp:=Addr→Option HO
noncomputable def upd (H:Hp) (a:Addr) (o:HO):Hp:=fun b=>if b=a then some o else H b
theorem bo {H:Hp} {a:Addr} {o:HO}:upd H a o a=some o:=by unfold upd;rw [if_pos rfl]
theorem aV {H:Hp} {a b:Addr} {o:HO} (h:b≠a):upd H a o b=H b:=by unfold upd;rw [if_neg h]
theorem ig {H:Hp} {a b:Addr} {o u:HO} (h:H a=some o) (h':H b=some u) (d:o≠u):a≠b:=by
 intro e;subst e;rw [h] at h';exact d (Option.some.inj h')
theorem av {H:Hp} {a b:Addr} {o:HO} (h:H a=some o) (h':H b=none):a≠b:=by
 intro e;subst e;rw [h] at h';cases h'
section
variable (P:Program) (w:World)
noncomputable def fm (H:Hp) (h:Heap) (a:Addr):HO→Prop
 | .lst xs=>xs.length≤sizeLine∧∃ (its:List Value) (n:Nat),Vals xs its∧h.get? a=some {cls:= .type "list",data:= .seq its.toArray n}
 | .tup xs=>xs.length≤sizeLine∧∃ its:List Value,Vals xs its∧IsTup h a its.toArray
 | .dK kvs=>kvs.length≤sizeLine∧(a == sysModules)=false∧∃ vs,KV kvs vs∧h.DictOf (dA P w) a vs
 | .dT kvs=>kvs.length≤sizeLine∧(a == sysModules)=false∧∃ xs:List (List Key×Addr×Value),
   Paired (fun (p:List Key×V) (q:List Key×Addr×Value)=>p.1=q.1∧H q.2.1=some (.tup (p.1.map kV))∧RelV p.2 q.2.2) kvs xs∧
   ∃ o es ep,h.get? a=some o∧o.ExactDict∧o.data= .dict es ep∧es.toList=xs.map (entryOfKey (tupleKind (dA P w)))∧(xs.map (·.1)).Nodup
 | .set S n=>h.SetOf (intKind P w) a S n
 | .ins C dx fs=>H dx=some (.own a)∧fs.length≤1000∧dx≠a∧h.get? a=some (PySem.W.instObj C dx)∧
   ∃ mA,h.Ns1 dx mA∧(∀ f,RelO (fs.lookup f) (mA f))∧PySem.Within mA (fs.map (·.1))
 | .own _=>∃ o,h.get? a=some o
 | .xd fs=>∃ mA,h.Ns1 a mA∧∀ f,RelO (fs.lookup f) (mA f)
 | .rng lo hi=>∃ t u v,h.get? a=some {cls:= .type "range",data:= .fields #[.int lo t,.int hi u,.int 1 v]}
 | .frz o u=>h.get? a=some o∧fm H h a u
 | .tbl ps=>h.get? a=some {cls:= .none,data:= .fields ps}
 | .met f x=>h.get? a=some (PySem.W.methodObj (.ref f) (.ref x))
 | .ext φ=>φ h∧(∃ o,h.get? a=some o)∧∀ h1 h2:Heap,φ h1→(∀ o,h1.get? a=some o→h2.get? a=some o)→φ h2
noncomputable def HOk (H:Hp) (h:Heap):Prop:=∀ a o,H a=some o→fm P w H h a o
end
section
variable {P:Program} {w:World} {H H':Hp} {h h':Heap} {a:Addr} {o:HO}
theorem fm.lt (x:fm P w H h a o):a < h.objs.size:=by
 cases o with
 | lst xs=>obtain ⟨_,_,_,_,e⟩:=x;exact Heap.lt_size e
 | tup xs=>obtain ⟨_,_,_,p⟩:=x;exact p.lt
 | dK kvs=>obtain ⟨_,_,_,_,o,_,_,e,_⟩:=x;exact Heap.lt_size e
 | dT kvs=>obtain ⟨_,_,_,_,o,_,_,e,_⟩:=x;exact Heap.lt_size e
 | set S n=>obtain ⟨o,_,_,_,e,_⟩:=x;exact Heap.lt_size e
 | ins C dx fs=>obtain ⟨_,_,_,e,_⟩:=x;exact Heap.lt_size e
 | own y=>obtain ⟨_,e⟩:=x;exact Heap.lt_size e
 | xd fs=>obtain ⟨_,⟨_,_,_,e,_⟩,_⟩:=x;exact Heap.lt_size e
 | rng lo hi=>obtain ⟨_,_,_,e⟩:=x;exact Heap.lt_size e
 | frz ob u=>obtain ⟨e,_⟩:=x;exact Heap.lt_size e
 | tbl ps=>exact Heap.lt_size (show h.get? a=some _ from x)
 | met f y=>exact Heap.lt_size (show h.get? a=some _ from x)
 | ext φ=>obtain ⟨_,⟨_,e⟩,_⟩:=x;exact Heap.lt_size e
theorem Paired.mapP {α β:Type} {F G:α→β→Prop}:∀ {l₁:List α} {l₂:List β},Paired F l₁ l₂→(∀ a b,F a b→G a b)→Paired G l₁ l₂
 | _,_,.nil,_=> .nil
 | _,_,.cons r t,f=> .cons (f _ _ r) (Paired.mapP t f)
theorem fm.stay (x:fm P w H h a o) (k:∀ b u,(b=a∨H b=some (.own a))→h.get? b=some u→h'.get? b=some u)
  (ho:∀ b,H b=some (.own a)→H' b=some (.own a)) (ht:∀ b xs,H b=some (.tup xs)→H' b=some (.tup xs)):fm P w H' h' a o:=by
 induction o with
 | lst xs=>obtain ⟨z,its,n,r,e⟩:=x;exact ⟨z,its,n,r,k _ _ (.inl rfl) e⟩
 | tup xs=>obtain ⟨z,its,r,ob,e,c⟩:=x;exact ⟨z,its,r,ob,k _ _ (.inl rfl) e,c⟩
 | dK kvs=>obtain ⟨z,y,vs,r,ob,es,ep,e,c⟩:=x;exact ⟨z,y,vs,r,ob,es,ep,k _ _ (.inl rfl) e,c⟩
 | dT kvs=>
   obtain ⟨z,y,xs,r,ob,es,ep,e,c⟩:=x
   exact ⟨z,y,xs,Paired.mapP r fun p q z=>⟨z.1,ht _ _ z.2.1,z.2.2⟩,ob,es,ep,k _ _ (.inl rfl) e,c⟩
 | set S n=>obtain ⟨ob,es,ep,t,e,c⟩:=x;exact ⟨ob,es,ep,t,k _ _ (.inl rfl) e,c⟩
 | ins C dx fs=>
   obtain ⟨d,z,ne,e,mA,⟨od,es,ep,e2,c⟩,r⟩:=x
   exact ⟨ho _ d,z,ne,k _ _ (.inl rfl) e,mA,⟨od,es,ep,k _ _ (.inr d) e2,c⟩,r⟩
 | own y=>obtain ⟨ob,e⟩:=x;exact ⟨ob,k _ _ (.inl rfl) e⟩
 | xd fs=>obtain ⟨mA,⟨od,es,ep,e,c⟩,r⟩:=x;exact ⟨mA,⟨od,es,ep,k _ _ (.inl rfl) e,c⟩,r⟩
 | rng lo hi=>obtain ⟨t,u,v,e⟩:=x;exact ⟨t,u,v,k _ _ (.inl rfl) e⟩
 | frz ob u ih=>obtain ⟨e,q⟩:=x;exact ⟨k _ _ (.inl rfl) e,ih q⟩
 | tbl ps=>
   have e:h.get? a=some {cls:= .none,data:= .fields ps}:=x
   show h'.get? a=some {cls:= .none,data:= .fields ps}
   exact k a _ (.inl rfl) e
 | met f y=>
   have e:h.get? a=some (PySem.W.methodObj (.ref f) (.ref y)):=x
   show h'.get? a=some (PySem.W.methodObj (.ref f) (.ref y))
   exact k a _ (.inl rfl) e
 | ext φ=>obtain ⟨p,⟨o,e⟩,st⟩:=x;exact ⟨st _ _ p fun o q=>k _ _ (.inl rfl) q,⟨o,k _ _ (.inl rfl) e⟩,st⟩
theorem HOk.lt (x:HOk P w H h) (e:H a=some o):a < h.objs.size:=(x a o e).lt
theorem HOk.fresh (x:HOk P w H h) (e:h.objs.size≤a):H a=none:=by
 cases q:H a with
 | none=>rfl
 | some u=>exact absurd (Nat.lt_of_lt_of_le (x.lt q) e) (Nat.lt_irrefl _)
theorem HOk.kept (x:HOk P w H h) (k:∀ b u,h.get? b=some u→h'.get? b=some u):HOk P w H h':=fun a o e=>
 (x a o e).stay (fun b u _ q=>k b u q) (fun _ q=>q) fun _ _ q=>q
theorem HOk.laid (x:HOk P w H h) (k:∀ b u,h.get? b=some u→h'.get? b=some u) (hp:h.objs.size≤a) (new:fm P w (upd H a o) h' a o):HOk P w (upd H a o) h':=fun b u e=>by
 have hn:=x.fresh hp
 by_cases hb:b=a
 ·subst hb;rw [bo] at e;cases e;exact new
 ·rw [aV hb] at e
  exact (x b u e).stay (fun c v _ q=>k c v q) (fun c q=>by rw [aV (av q hn)];exact q) fun c xs q=>by rw [aV (av q hn)];exact q
end
noncomputable def Rd (H:Hp) (a:Addr) (u:HO):Prop:=H a=some u∨∃ o,H a=some (.frz o u)
theorem Rd.ok {P:Program} {w:World} {H:Hp} {h:Heap} {a:Addr} {u:HO} (r:Rd H a u) (x:HOk P w H h):fm P w H h a u:=by
 rcases r with r | ⟨o,r⟩
 ·exact x a u r
 ·obtain ⟨_,q⟩:=x a _ r
  exact q
noncomputable def Mut:Option HO→Prop
 | some (.lst _)=>True
 | some (.dK _)=>True
 | some (.dT _)=>True
 | some (.set _ _)=>True
 | some (.ins _ _ _)=>True
 | some (.ext _)=>True
 | _=>False
section
variable {P:Program} {w:World} {H:Hp} {h h':Heap} {x e:Addr} {o':HO}
theorem HOk.write (ok:HOk P w H h) (mu:Mut (H x)) (he:e=x∨H e=some (.own x)) (k:∀ b u,b≠e→h.get? b=some u→h'.get? b=some u) (heo:∃ u,h'.get? e=some u)
  (new:fm P w (upd H x o') h' x o'):HOk P w (upd H x o') h':=fun b u q=>by
 have nown:∀ c y,H c=some (.own y)→c≠x:=fun c y r z=>by subst z;rw [r] at mu;exact mu
 have ntup:∀ c xs,H c=some (.tup xs)→c≠x:=fun c xs r z=>by subst z;rw [r] at mu;exact mu
 by_cases hb:b=x
 ·subst hb;rw [bo] at q;cases q;exact new
 ·rw [aV hb] at q
  by_cases hbe:b=e
  ·have q':H b=some (.own x):=by
    rcases he with z | z
    ·exact absurd (hbe.trans z) hb
    ·rw [hbe];exact z
   rw [q] at q';cases q'
   obtain ⟨v,hv⟩:=heo
   exact ⟨v,by rw [hbe];exact hv⟩
  ·refine (ok b u q).stay (fun c v hc r=>k c v ?_ r) (fun c r=>by rw [aV (nown c b r)];exact r) fun c xs r=>by rw [aV (ntup c xs r)];exact r
   rcases hc with rfl | hc
   ·exact hbe
   ·rintro rfl
    rcases he with z | z
    ·exact nown c b hc z
    ·rw [hc] at z;cases z;exact hb rfl
end
structure Un (fs ex:List Addr) (H H':Hp) (h h':Heap):Prop where
 keep:∀ b o,h.get? b=some o→H b=none→b∉fs→b∉ex→h'.get? b=some o
 slot:∀ b o,h.get? b=some o→H b=none→b∈fs→b∉ex→∃ sl,h'.get? b=some {o with slots:=sl}
 free:∀ b o,h.get? b=some o→H b=none→b∉ex→H' b=none
 there:∀ b o,h.get? b=some o→b∉ex→∃ o',h'.get? b=some o'
 tups:∀ b xs,H b=some (.tup xs)→H' b=some (.tup xs)
 frzs:∀ b o u,H b=some (.frz o u)→H' b=some (.frz o u)
 tbls:∀ b ps,H b=some (.tbl ps)→∃ more,H' b=some (.tbl (ps++more))
section
variable {fs fs' ex ex':List Addr} {H H1 H2:Hp} {h h1 h2 h':Heap} {a x e:Addr} {o:HO}
theorem Un.any (u:Un fs ex H H1 h h1) {b:Addr} {ob:Obj} (q:h.get? b=some ob) (n:H b=none) (hx:b∉ex):∃ sl,h1.get? b=some {ob with slots:=sl}:=by
 by_cases hb:b∈fs
 ·exact u.slot b ob q n hb hx
 ·exact ⟨ob.slots,u.keep b ob q n hb hx⟩
theorem Un.kept (k:∀ b u,h.get? b=some u→h'.get? b=some u):Un fs ex H H h h':=
 ⟨fun b ob q _ _ _=>k b ob q,fun b ob q _ _ _=>⟨ob.slots,k b ob q⟩,fun _ _ _ n _=>n,fun b ob q _=>⟨ob,k b ob q⟩,fun _ _ q=>q,fun _ _ _ q=>q,fun _ ps q=>⟨#[],by rw [q];simp⟩⟩
theorem Un.refl:Un fs ex H H h h:=Un.kept fun _ _ q=>q
theorem Un.laid (k:∀ b u,h.get? b=some u→h'.get? b=some u) (hp:h.objs.size≤a) (hn:H a=none):Un fs ex H (upd H a o) h h' where
 keep:=fun b u q _ _ _=>k b u q
 slot:=fun b u q _ _ _=>⟨u.slots,k b u q⟩
 free:=fun b u q n _=>by rw [aV (Nat.ne_of_lt (Nat.lt_of_lt_of_le (Heap.lt_size q) hp))];exact n
 there:=fun b u q _=>⟨u,k b u q⟩
 tups:=fun b xs q=>by rw [aV (av q hn)];exact q
 frzs:=fun b u xs q=>by rw [aV (av q hn)];exact q
 tbls:=fun b ps q=>⟨#[],by rw [aV (av q hn),q];simp⟩
theorem Un.write (mu:Mut (H x)) (he:e=x∨H e=some (.own x)) (k:∀ b u,b≠e→h.get? b=some u→h'.get? b=some u) (heo:∃ u,h'.get? e=some u):Un fs ex H (upd H x o) h h':=by
 have hx:∀ b,H b=none→b≠x:=fun b n z=>by subst z;rw [n] at mu;exact mu
 have hb:∀ b,H b=none→b≠e:=fun b n z=>by
  subst z
  rcases he with r | r
  ·exact hx b n r
  ·rw [n] at r;cases r
 have hm:∀ b u,H b=some u→¬ Mut (some u)→b≠x:=fun b u q nm z=>by subst z;rw [q] at mu;exact nm mu
 refine ⟨fun b u q n _ _=>k b u (hb b n) q,fun b u q n _ _=>⟨u.slots,k b u (hb b n) q⟩,fun b u q n _=>by rw [aV (hx b n)];exact n,fun b u q _=>?_,
  fun b xs q=>by rw [aV (hm b _ q fun z=>z)];exact q,fun b u xs q=>by rw [aV (hm b _ q fun z=>z)];exact q,fun b ps q=>⟨#[],by rw [aV (hm b _ q fun z=>z),q];simp⟩⟩
 by_cases hbe:b=e
 ·subst hbe;exact heo
 ·exact ⟨u,k b u hbe q⟩
end
noncomputable def trk (h:Heap) (H:Hp):List Addr:=(List.range h.objs.size).filter fun a=>(H a).isSome
noncomputable def hidT (h:Heap) (H:Hp):Heap:=PySem.W.hideAll h (trk h H)
theorem KA (h:Heap) (H:Hp):(hidT h H).objs.size=h.objs.size:=PySem.W.hideAll_size _ _
theorem MW {h:Heap} {H:Hp} {b:Addr} {o:Obj} (e:h.get? b=some o) (n:H b=none):(hidT h H).get? b=some o:=
 PySem.W.hideAll_get _ e fun hm=>by
  have q:(H b).isSome=true:=(List.mem_filter.mp hm).2
  rw [n] at q;simp at q
theorem Pd {h:Heap} {H:Hp} {b:Addr} {o:Obj} (e:(hidT h H).get? b=some o):h.get? b=some o∧H b=none:=by
 have e':h.get? b=some o:=PySem.W.of_hideAll (trk h H) e
 refine ⟨e',?_⟩
 cases q:H b with
 | none=>rfl
 | some x=>
   have hm:b∈trk h H:=List.mem_filter.mpr ⟨List.mem_range.mpr (Heap.lt_size e'),by simp [q]⟩
   have z:(hidT h H).get? b=none:=PySem.W.hideAll_none (trk h H) hm
   rw [z] at e;cases e
noncomputable def P7 (g h:Heap) (L:Addr):List (Addr×Obj):=(List.range h.objs.size).filterMap fun a=>if a=L∨(g.get? a).isSome=true then none else (h.get? a).map fun o=>(a,o)
noncomputable def rest (g h:Heap) (L d:Addr):List (Addr×Obj):=(P7 g h L).filter fun p=>decide (p.1≠d)
structure Mod (K:PySem.W.Frag) (mg:Str→Option Value) (base:Heap):Prop where
 kin:K.In base
 glob:base.Ns mainGlobals mg
 blt:∃ mb,base.Ns builtinsNs mb∧∀ x:Str,x≠"__name__"→mb x=bootBuiltins x
 nolimit:base.NoLimit
structure Cx where
 prog:Program
 w:World
 K:PySem.W.Frag
 mg:Str→Option Value
 base:Heap
 A:Around
 N:List Str
 s₀:Shared
 H₀:Hp
 env:Env
 outer:List Env
 stack:List Env
 ex:List Addr
 fn:Str→Bool
 calm:Bool
 pn:List (Addr×Obj)
 xe:Value→Shared→Prop
noncomputable def frs (l:List Env):List Addr:=l.filterMap (·.frame)
noncomputable abbrev Cx.fs (X:Cx):List Addr:=frs X.outer
noncomputable def Vis (sc:Scope) (x:Str):Prop:=sc.names.lookup x=some .local∨sc.names.lookup x=some .cell∨sc.names.lookup x=some .free
noncomputable def Loc (sc:Scope) (x:Str):Prop:=sc.names.lookup x=some .local∨sc.names.lookup x=some .cell
noncomputable def Look (env:Env) (h:Heap) (m:Str→Option Value) (x:Str) (u:Value):Prop:=
 (env.kindOf x=some .local∧m x=some u)∨((env.kindOf x=some .cell∨env.kindOf x=some .free)∧∃ c,env.cells.lookup x=some c∧h.IsCell c (some u))
structure Cx.Ok (X:Cx):Prop where
 mod:Mod X.K X.mg X.base
 kind:X.env.scope.kind= .function
 glob:X.env.globals=mainGlobals
 blt:X.env.builtins=builtinsNs
 above:X.s₀.heap.objs.size≤X.env.locals
 inj:∀ x y c,X.env.cells.lookup x=some c→X.env.cells.lookup y=some c→x=y
 has:∀ x,(X.env.kindOf x=some .cell∨X.env.kindOf x=some .free)→∃ c,X.env.cells.lookup x=some c
 cab:∀ x c,X.fn x=true→X.env.cells.lookup x=some c→X.s₀.heap.objs.size≤c
 hd:X.calm=true→X.A.handled=none
 frames:X.A.frames=some X.stack
 stk:X.stack=X.outer∨(X.stack=X.env::X.outer∧X.env.frame=some X.env.locals)
 exf:∀ b∈X.ex,b≠X.env.locals∧∀ x c,X.env.cells.lookup x=some c→c≠b
 bs:∀ b o,X.base.get? b=some o→X.s₀.heap.get? b=some o∧X.H₀ b=none
 bsz:X.base.objs.size≤X.s₀.heap.objs.size
 noex:∀ b o,X.base.get? b=some o→b∉X.ex
 exfs:∀ b∈X.ex,b∉X.fs
 funs:X.s₀.heap.FunFrames X.base X.outer
 frf:∀ b∈X.fs,X.H₀ b=none
structure Inv (X:Cx) (pins:List (Addr×Obj)) (σ:List (Option V)) (H:Hp) (s:Shared):Prop where
 ok:X.Ok
 os:s.os=X.s₀.os
 bare:AllBare s.gens
 base:Un X.fs X.ex X.H₀ H X.s₀.heap s.heap
 loc:∃ m,s.heap.Ns X.env.locals m∧∀ (i:Nat) (x:Str) (v:V),X.N[i]? =some x→σ[i]? =some (some v)→Vis X.env.scope x→∃ u,RelV v u∧Look X.env s.heap m x u
 cell:∀ x c,X.env.cells.lookup x=some c→∃ v,s.heap.IsCell c v
 free:H X.env.locals=none
 freeC:∀ x c,X.env.cells.lookup x=some c→H c=none
 pin:∀ p∈X.pn++pins,s.heap.get? p.1=some p.2∧H p.1=none∧p.1≠X.env.locals∧p.1∉X.fs∧∀ v,p.2.data≠.cell v
 hok:HOk X.prog X.w H s.heap
 len:σ.length=X.N.length
section
variable {X:Cx} {pins:List (Addr×Obj)} {σ:List (Option V)} {H H':Hp} {s:Shared} {h':Heap}
theorem Cx.Ok.nofr (ok:X.Ok) {b:Addr} {o:Obj} (e:X.base.get? b=some o):b∉X.fs:=fun hb=>by
 have:=(ok.funs.mem hb).1
 rw [e] at this;cases this
theorem Inv.bs (I:Inv X pins σ H s):∀ b o,X.base.get? b=some o→s.heap.get? b=some o∧H b=none:=fun b o e=>
 ⟨I.base.keep b o (I.ok.bs b o e).1 (I.ok.bs b o e).2 (I.ok.nofr e) (I.ok.noex b o e),I.base.free b o (I.ok.bs b o e).1 (I.ok.bs b o e).2 (I.ok.noex b o e)⟩
theorem Inv.bk (I:Inv X pins σ H s):∀ b o,X.base.get? b=some o→s.heap.get? b=some o:=fun b o e=>(I.bs b o e).1
theorem Inv.mod (I:Inv X pins σ H s):Mod X.K X.mg X.base:=I.ok.mod
theorem Inv.kIn (I:Inv X pins σ H s):X.K.In s.heap:=I.ok.mod.kin.keeps I.bk
theorem Inv.lt (I:Inv X pins σ H s):X.env.locals < s.heap.objs.size:=let ⟨_,hn,_⟩:=I.loc;hn.lt
theorem Inv.sz (I:Inv X pins σ H s):X.s₀.heap.objs.size≤s.heap.objs.size:=Nat.le_trans I.ok.above (Nat.le_of_lt I.lt)
theorem Inv.nofs (I:Inv X pins σ H s) {a:Addr} (h:s.heap.objs.size≤a):a∉X.fs:=fun hb=>by
 obtain ⟨_,o,ho,_⟩:=I.ok.funs.mem hb
 exact absurd (Nat.lt_of_lt_of_le (Heap.lt_size ho) (Nat.le_trans I.sz h)) (Nat.lt_irrefl _)
theorem Inv.cne (I:Inv X pins σ H s):∀ x c,X.env.cells.lookup x=some c→c≠X.env.locals:=fun x c e z=>by
 obtain ⟨v,o,ho,hd⟩:=I.cell x c e
 obtain ⟨m,⟨o',es,ep,ho',hd',_⟩,_⟩:=I.loc
 rw [z,ho'] at ho;cases ho;rw [hd'] at hd;cases hd
theorem Inv.funs (I:Inv X pins σ H s):s.heap.FunFrames X.base X.outer:=by
 have all:∀ (l:List Env),(∀ b∈frs l,b∈X.fs)→X.s₀.heap.FunFrames X.base l→s.heap.FunFrames X.base l:=by
  intro l
  induction l with
  | nil=>intro _ _;trivial
  | cons env r ih=>
    intro hs hl
    obtain ⟨hk,⟨L,o,hf,hn,ho,hd⟩,hr⟩:=hl
    have hL:L∈X.fs:=hs L (by unfold frs;rw [List.filterMap_cons,hf];exact List.mem_cons_self)
    obtain ⟨sl,e⟩:=I.base.slot L o ho (I.ok.frf L hL) hL fun z=>I.ok.exfs L z hL
    exact ⟨hk,⟨L,_,hf,hn,e,hd⟩,ih (fun b hb=>hs b (by unfold frs;rw [List.filterMap_cons,hf];exact List.mem_cons_of_mem _ hb)) hr⟩
 exact all X.outer (fun _ hb=>hb) I.ok.funs
theorem Inv.stack (I:Inv X pins σ H s):s.heap.FunFrames X.base X.stack:=by
 rcases I.ok.stk with e | ⟨e,hf⟩
 ·rw [e];exact I.funs
 ·rw [e]
  obtain ⟨m,hn,_⟩:=I.loc
  refine .cons (by rw [I.ok.kind];decide) hf hn ?_ I.funs
  exact Heap.get?_none_of_le (Nat.le_trans I.ok.bsz I.ok.above)
theorem Inv.stkSub (I:Inv X pins σ H s):∀ b∈frs X.stack,b∈X.env.locals::X.fs:=fun b hb=>by
 rcases I.ok.stk with e | ⟨e,hf⟩
 ·rw [e] at hb;exact List.mem_cons_of_mem _ hb
 ·rw [e] at hb
  unfold frs at hb
  rw [List.filterMap_cons,hf] at hb
  exact hb
theorem Inv.stkFree (I:Inv X pins σ H s):∀ b∈frs X.stack,H b=none:=fun b hb=>by
 rcases List.mem_cons.mp (I.stkSub b hb) with e | hb
 ·rw [e];exact I.free
 ·obtain ⟨_,o,ho,_⟩:=I.ok.funs.mem hb
  exact I.base.free b o ho (I.ok.frf b hb) fun z=>I.ok.exfs b z hb
theorem Inv.step {g':Array GenState} {t':Nat} {d':Drawn} {ch:List Addr} (I:Inv X pins σ H s)
  (hch:∀ b∈ch,(b∈X.ex∨X.s₀.heap.objs.size≤b)∧b≠X.env.locals∧(∀ x c,X.env.cells.lookup x=some c→c≠b)∧∀ p∈X.pn++pins,p.1≠b)
  (keep:∀ b o,b≠X.env.locals→b∉X.fs→b∉ch→s.heap.get? b=some o→H b=none→h'.get? b=some o)
  (slot:∀ b o,b≠X.env.locals→b∈X.fs→b∉ch→s.heap.get? b=some o→H b=none→∃ sl,h'.get? b=some {o with slots:=sl}) (free:∀ b o,b∉ch→s.heap.get? b=some o→H b=none→H' b=none)
  (there:∀ b o,b∉ch→s.heap.get? b=some o→∃ o',h'.get? b=some o')
  (tups:∀ b xs,H b=some (.tup xs)→H' b=some (.tup xs)) (frzs:∀ b o u,H b=some (.frz o u)→H' b=some (.frz o u)) (tbls:∀ b ps,H b=some (.tbl ps)→∃ more,H' b=some (.tbl (ps++more)))
  (ns:∀ m,s.heap.Ns X.env.locals m→h'.Ns X.env.locals m) (hok:HOk X.prog X.w H' h') (hg:AllBare g'):
  Inv X pins σ H' {s with heap:=h',gens:=g',drawn:=d',toks:=t'}:=by
 have neL:∀ b o,X.s₀.heap.get? b=some o→b≠X.env.locals:=fun b o e=>Nat.ne_of_lt (Nat.lt_of_lt_of_le (Heap.lt_size e) I.ok.above)
 have neC:∀ b o,X.s₀.heap.get? b=some o→b∉X.ex→b∉ch:=fun b o e hx hb=>by
  rcases (hch b hb).1 with z | z
  ·exact hx z
  ·exact absurd (Nat.lt_of_lt_of_le (Heap.lt_size e) z) (Nat.lt_irrefl _)
 have cellK:∀ x c,X.env.cells.lookup x=some c→∀ v,s.heap.IsCell c v→h'.IsCell c v:=fun x c e v ⟨o,ho,hd⟩=>by
  have nch:c∉ch:=fun z=>(hch c z).2.2.1 x c e rfl
  by_cases hc:c∈X.fs
  ·obtain ⟨sl,q⟩:=slot c o (I.cne x c e) hc nch ho (I.freeC x c e)
   exact ⟨_,q,hd⟩
  ·exact ⟨o,keep c o (I.cne x c e) hc nch ho (I.freeC x c e),hd⟩
 refine ⟨I.ok,I.os,hg,⟨fun b o e n hb hx=>?_,fun b o e n hb hx=>?_,fun b o e n hx=>?_,fun b o e hx=>?_,fun b xs e=>tups b xs (I.base.tups b xs e),fun b o xs e=>frzs b o xs (I.base.frzs b o xs e),fun b ps e=>?_⟩,?_,fun x c e=>?_,?_,fun x c e=>?_,fun p hp=>?_,hok,I.len⟩
 ·exact keep b o (neL b o e) hb (neC b o e hx) (I.base.keep b o e n hb hx) (I.base.free b o e n hx)
 ·obtain ⟨sl,e1⟩:=I.base.slot b o e n hb hx
  obtain ⟨sl',e2⟩:=slot b _ (neL b o e) hb (neC b o e hx) e1 (I.base.free b o e n hx)
  exact ⟨sl',e2⟩
 ·obtain ⟨o',e1⟩:=I.base.there b o e hx
  exact free b o' (neC b o e hx) e1 (I.base.free b o e n hx)
 ·obtain ⟨o',e1⟩:=I.base.there b o e hx
  exact there b o' (neC b o e hx) e1
 ·obtain ⟨m1,e1⟩:=I.base.tbls b ps e
  obtain ⟨m2,e2⟩:=tbls b _ e1
  exact ⟨m1++m2,by rw [e2,Array.append_assoc]⟩
 ·obtain ⟨m,hn,hl⟩:=I.loc
  refine ⟨m,ns m hn,fun i x v e1 e2 e3=>?_⟩
  obtain ⟨u,r,l⟩:=hl i x v e1 e2 e3
  refine ⟨u,r,?_⟩
  rcases l with l | ⟨k,c,e,z⟩
  ·exact .inl l
  ·exact .inr ⟨k,c,e,cellK x c e _ z⟩
 ·obtain ⟨v,z⟩:=I.cell x c e
  exact ⟨v,cellK x c e v z⟩
 ·obtain ⟨m,⟨o,_,_,ho,_⟩,_⟩:=I.loc
  exact free _ o (fun z=>(hch _ z).2.1 rfl) ho I.free
 ·obtain ⟨v,o,ho,hd⟩:=I.cell x c e
  exact free c o (fun z=>(hch c z).2.2.1 x c e rfl) ho (I.freeC x c e)
 ·obtain ⟨e,n,ne,nf,d⟩:=I.pin p hp
  have nch:p.1∉ch:=fun z=>(hch p.1 z).2.2.2 p hp rfl
  exact ⟨keep p.1 p.2 ne nf nch e n,free p.1 p.2 nch e n,ne,nf,d⟩
theorem Inv.un {t':Nat} (I:Inv X pins σ H s) (u:Un X.fs [] H H' s.heap h') (hok:HOk X.prog X.w H' h'):Inv X pins σ H' {s with heap:=h',toks:=t'}:=by
 obtain ⟨m,⟨o,es,ep,ho,r⟩,_⟩:=id I.loc
 obtain ⟨sl,hL⟩:=u.any ho I.free (by simp)
 exact I.step (g':=s.gens) (d':=s.drawn) (ch:=[]) (fun _ z=>nomatch z) (fun b o _ hb _ e n=>u.keep b o e n hb (by simp)) (fun b o _ hb _ e n=>u.slot b o e n hb (by simp)) (fun b o _ e n=>u.free b o e n (by simp)) (fun b o _ e=>u.there b o e (by simp)) u.tups u.frzs u.tbls (fun m' hm=>by
  obtain ⟨o',es',ep',ho',r'⟩:=hm
  rw [ho] at ho';cases ho'
  exact ⟨_,es',ep',hL,r'⟩) hok I.bare
theorem Inv.call {g':Array GenState} {t':Nat} {d':Drawn} {ch:List Addr} (I:Inv X pins σ H s) (u:Un (frs X.stack) ch H H' s.heap h') (hok:HOk X.prog X.w H' h') (hg:AllBare g')
  (hch:∀ b∈ch,(b∈X.ex∨X.s₀.heap.objs.size≤b)∧b≠X.env.locals∧(∀ x c,X.env.cells.lookup x=some c→c≠b)∧∀ p∈X.pn++pins,p.1≠b):
  Inv X pins σ H' {s with heap:=h',gens:=g',drawn:=d',toks:=t'}:=by
 obtain ⟨m,⟨o,es,ep,ho,r⟩,_⟩:=id I.loc
 obtain ⟨sl,hL⟩:=u.any ho I.free fun z=>(hch _ z).2.1 rfl
 exact I.step (ch:=ch) hch (fun b o hL hb hc e n=>u.keep b o e n (fun z=>(List.mem_cons.mp (I.stkSub b z)).elim hL hb) hc) (fun b o _ _ hc e n=>u.any e n hc) (fun b o hc e n=>u.free b o e n hc) (fun b o hc e=>u.there b o e hc) u.tups u.frzs u.tbls (fun m' hm=>by
  obtain ⟨o',es',ep',ho',r'⟩:=hm
  rw [ho] at ho';cases ho'
  exact ⟨_,es',ep',hL,r'⟩) hok hg
theorem Inv.turned {t':Nat} {it:Addr} (I:Inv X pins σ H s) (k:∀ b o,b≠it→s.heap.get? b=some o→h'.get? b=some o) (hn:H it=none) (hL:it≠X.env.locals)
  (h1:it∈X.ex∨X.s₀.heap.objs.size≤it) (h2:∀ x c,X.env.cells.lookup x=some c→c≠it) (h3:∀ p∈X.pn++pins,p.1≠it):Inv X pins σ H {s with heap:=h',toks:=t'}:=by
 have nit:∀ b u,H b=some u→b≠it:=fun b u e z=>by rw [z,hn] at e;cases e
 refine I.step (g':=s.gens) (d':=s.drawn) (ch:=[it]) (fun b hb=>?_) (fun b o _ _ hc e _=>k b o (fun z=>hc (by simp [z])) e) (fun b o _ _ hc e _=>⟨o.slots,k b o (fun z=>hc (by simp [z])) e⟩) (fun _ _ _ _ n=>n)
  (fun b o hc e=>⟨o,k b o (fun z=>hc (by simp [z])) e⟩) (fun _ _ e=>e) (fun _ _ _ e=>e) (fun b ps e=>⟨#[],by rw [e];simp⟩) (fun m hm=>?_) (fun b u e=>?_) I.bare
 ·have e:b=it:=by simpa using hb
  subst e
  exact ⟨h1,hL,h2,h3⟩
 ·obtain ⟨o,es,ep,ho,r⟩:=hm
  exact ⟨o,es,ep,k _ o (Ne.symm hL) ho,r⟩
 ·refine (I.hok b u e).stay (fun c v hc q=>k c v ?_ q) (fun _ q=>q) fun _ _ q=>q
  rcases hc with z | z
  ·rw [z];exact nit b u e
  ·exact nit c _ z
theorem Inv.tok (I:Inv X pins σ H s) (t:Nat):Inv X pins σ H {s with toks:=t}:=I.un (h':=s.heap) (t':=t) Un.refl I.hok
theorem Inv.kept {t':Nat} (I:Inv X pins σ H s) (k:∀ b u,s.heap.get? b=some u→h'.get? b=some u):Inv X pins σ H {s with heap:=h',toks:=t'}:=I.un (Un.kept k) (I.hok.kept k)
theorem Inv.laid {a:Addr} {o:HO} {t':Nat} (I:Inv X pins σ H s) (k:∀ b u,s.heap.get? b=some u→h'.get? b=some u) (hp:s.heap.objs.size≤a) (new:fm X.prog X.w (upd H a o) h' a o):
  Inv X pins σ (upd H a o) {s with heap:=h',toks:=t'}:=I.un (Un.laid k hp (I.hok.fresh hp)) (I.hok.laid k hp new)
theorem Inv.write {x e:Addr} {o:HO} {t':Nat} (I:Inv X pins σ H s) (mu:Mut (H x)) (he:e=x∨H e=some (.own x)) (k:∀ b u,b≠e→s.heap.get? b=some u→h'.get? b=some u) (heo:∃ u,h'.get? e=some u)
  (new:fm X.prog X.w (upd H x o) h' x o):Inv X pins σ (upd H x o) {s with heap:=h',toks:=t'}:=I.un (Un.write mu he k heo) (I.hok.write mu he k heo new)
theorem Inv.weak {σ':List (Option V)} (I:Inv X pins σ H s) (hl:σ'.length=σ.length) (w:∀ (i:Nat) v,σ'[i]? =some (some v)→σ[i]? =some (some v)):Inv X pins σ' H s:=
 ⟨I.ok,I.os,I.bare,I.base,let ⟨m,hn,hl'⟩:=I.loc;⟨m,hn,fun i x v e1 e2 e3=>hl' i x v e1 (w i v e2) e3⟩,I.cell,I.free,I.freeC,I.pin,I.hok,hl.trans I.len⟩
theorem Inv.pins_of {pins':List (Addr×Obj)} (I:Inv X pins σ H s) (h:∀ p∈pins',s.heap.get? p.1=some p.2∧H p.1=none∧p.1≠X.env.locals∧p.1∉X.fs∧∀ v,p.2.data≠.cell v):Inv X pins' σ H s:=
 ⟨I.ok,I.os,I.bare,I.base,I.loc,I.cell,I.free,I.freeC,fun p hp=>(List.mem_append.mp hp).elim (fun z=>I.pin p (List.mem_append_left _ z)) (h p),I.hok,I.len⟩
theorem zd {N:List Str} (hN:N.Nodup) {i j:Nat} {x:Str} (a:N[i]? =some x) (b:N[j]? =some x):i=j:=by
 obtain ⟨h1,e1⟩:=List.getElem?_eq_some_iff.mp a
 obtain ⟨h2,e2⟩:=List.getElem?_eq_some_iff.mp b
 exact (List.getElem_inj hN).mp (e1.trans e2.symm)
theorem Ay {M:Model} {A:Around} {E:Value→Shared→Prop} {i:Nat} {x:Str} {v:V} {u:Value} {Q:Unit→Shared→Prop} (I:Inv X pins σ H s) (hN:X.N.Nodup) (hi:X.N[i]? =some x) (hx:Loc X.env.scope x) (r:RelV v u)
  (h:∀ s',Inv X pins (σ.set i (some v)) H s'→(∃ a,Heap.SameBut a s.heap s'.heap∧(a=X.env.locals∨X.env.cells.lookup x=some a))→Q () s') (hf:X.fn x=true∨X.env.scope.names.lookup x=some .local:=by first | exact .inl rfl | exact .inr rfl | assumption):wpAny M A (storeName X.env x u) Q E s:=by
 obtain ⟨m,hn,hl⟩:=id I.loc
 have hcls:(X.env.scope.kind == .class||(X.env.scope.kind == .module&&X.env.locals != X.env.globals))=false:=by rw [I.ok.kind];rfl
 have hiσ:i < σ.length:=by rw [I.len];exact (List.getElem?_eq_some_iff.mp hi).1
 have cne:=I.cne
 have tracked:∀ {a:Addr} {h':Heap},(∃ o,s.heap.get? a=some o∧H a=none)→Heap.SameBut a s.heap h'→HOk X.prog X.w H h':=fun {a h'} ha hs b ob e=>by
  obtain ⟨_,_,hfree⟩:=ha
  refine (I.hok b ob e).stay (fun c w' hc q=>(hs.2 c ?_).trans q) (fun _ q=>q) fun _ _ q=>q
  rintro rfl
  rcases hc with rfl | hc
  ·rw [hfree] at e;cases e
  ·rw [hfree] at hc;cases hc
 rcases hx with hk | hk
 ·refine wpAny_storeName_local hk hn (fun h' hn' hs=>?_) hcls
  obtain ⟨oL,_,_,hoL,_⟩:=id hn
  refine h _ ⟨I.ok,I.os,I.bare,⟨fun b o e n hb hx=>?_,fun b o e n hb hx=>?_,I.base.free,fun b o e hx=>?_,I.base.tups,I.base.frzs,I.base.tbls⟩,⟨_,hn',fun j y v' e1 e2 e3=>?_⟩,fun y c e=>?_,I.free,I.freeC,fun p hp=>?_,tracked ⟨oL,hoL,I.free⟩ hs,by simpa using I.len⟩ ⟨_,hs,.inl rfl⟩
  ·exact (hs.2 b (Nat.ne_of_lt (Nat.lt_of_lt_of_le (Heap.lt_size e) I.ok.above))).trans (I.base.keep b o e n hb hx)
  ·obtain ⟨sl,e1⟩:=I.base.slot b o e n hb hx
   exact ⟨sl,(hs.2 b (Nat.ne_of_lt (Nat.lt_of_lt_of_le (Heap.lt_size e) I.ok.above))).trans e1⟩
  ·obtain ⟨o',e1⟩:=I.base.there b o e hx
   exact ⟨o',(hs.2 b (Nat.ne_of_lt (Nat.lt_of_lt_of_le (Heap.lt_size e) I.ok.above))).trans e1⟩
  ·by_cases hj:j=i
   ·subst hj
    rw [hi] at e1;cases e1
    rw [List.getElem?_set_self hiσ] at e2
    cases e2
    exact ⟨u,r,.inl ⟨hk,by simp⟩⟩
   ·rw [List.getElem?_set_ne (Ne.symm hj)] at e2
    obtain ⟨u',r',q⟩:=hl j y v' e1 e2 e3
    refine ⟨u',r',?_⟩
    rcases q with ⟨k,e⟩ | ⟨k,c,e,z⟩
    ·refine .inl ⟨k,?_⟩
     have:y≠x:=fun e=>hj (zd hN e1 (e ▸ hi))
     simp [this,e]
    ·exact .inr ⟨k,c,e,z.sameBut hs (cne y c e)⟩
  ·obtain ⟨w',z⟩:=I.cell y c e
   exact ⟨w',z.sameBut hs (cne y c e)⟩
  ·obtain ⟨e,n,ne,nf,d⟩:=I.pin p hp
   exact ⟨(hs.2 p.1 ne).trans e,n,ne,nf,d⟩
 ·have hfn:X.fn x=true:=by
   rcases hf with z | z
   ·exact z
   ·rw [z] at hk;cases hk
  obtain ⟨c,hc⟩:=I.ok.has x (.inl hk)
  obtain ⟨w',z⟩:=I.cell x c hc
  refine wpAny_storeName_cell I.ok.kind hk hc z (fun h' hc' hs=>?_)
  obtain ⟨oc,hoc,hocd⟩:=id z
  refine h {s with heap:=h'} ⟨I.ok,I.os,I.bare,⟨fun b o e n hb hx=>?_,fun b o e n hb hx=>?_,I.base.free,fun b o e hx=>?_,I.base.tups,I.base.frzs,I.base.tbls⟩,⟨m,hn.sameBut hs (Ne.symm (cne x c hc)),fun j y v' e1 e2 e3=>?_⟩,fun y c' e=>?_,I.free,I.freeC,fun p hp=>?_,tracked ⟨oc,hoc,I.freeC x c hc⟩ hs,by simpa using I.len⟩ ⟨c,hs,.inr hc⟩
  ·exact (hs.2 b (Nat.ne_of_lt (Nat.lt_of_lt_of_le (Heap.lt_size e) (I.ok.cab x c hfn hc)))).trans (I.base.keep b o e n hb hx)
  ·obtain ⟨sl,e1⟩:=I.base.slot b o e n hb hx
   exact ⟨sl,(hs.2 b (Nat.ne_of_lt (Nat.lt_of_lt_of_le (Heap.lt_size e) (I.ok.cab x c hfn hc)))).trans e1⟩
  ·obtain ⟨o',e1⟩:=I.base.there b o e hx
   exact ⟨o',(hs.2 b (Nat.ne_of_lt (Nat.lt_of_lt_of_le (Heap.lt_size e) (I.ok.cab x c hfn hc)))).trans e1⟩
  ·by_cases hj:j=i
   ·subst hj
    rw [hi] at e1;cases e1
    rw [List.getElem?_set_self hiσ] at e2
    cases e2
    exact ⟨u,r,.inr ⟨.inl hk,c,hc,hc'⟩⟩
   ·rw [List.getElem?_set_ne (Ne.symm hj)] at e2
    obtain ⟨u',r',q⟩:=hl j y v' e1 e2 e3
    refine ⟨u',r',?_⟩
    rcases q with q | ⟨k,c',e,z'⟩
    ·exact .inl q
    ·refine .inr ⟨k,c',e,z'.sameBut hs ?_⟩
     rintro rfl
     exact hj (zd hN e1 (I.ok.inj _ _ _ e hc ▸ hi))
  ·by_cases hcc:c'=c
   ·subst hcc;exact ⟨_,hc'⟩
   ·obtain ⟨w2,z2⟩:=I.cell y c' e
    exact ⟨w2,z2.sameBut hs hcc⟩
  ·obtain ⟨e,n,ne,nf,d⟩:=I.pin p hp
   refine ⟨(hs.2 p.1 ?_).trans e,n,ne,nf,d⟩
   intro q
   rw [q,hoc] at e
   have q':oc=p.2:=Option.some.inj e
   exact d w' (by rw [← q'];exact hocd)
theorem yw {M:Model} {A:Around} {E:Value→Shared→Prop} {i:Nat} {x:Str} {v:V} {u:Value} {Q:Unit→Shared→Prop} (I:Inv X pins σ H s) (hN:X.N.Nodup) (hi:X.N[i]? =some x) (hx:Loc X.env.scope x) (r:RelV v u)
  (h:∀ s',Inv X pins (σ.set i (some v)) H s'→Q () s') (hf:X.fn x=true∨X.env.scope.names.lookup x=some .local:=by first | exact .inl rfl | exact .inr rfl | assumption):wpAny M A (storeName X.env x u) Q E s:=
 Ay I hN hi hx r (fun s' I' _=>h s' I') hf
theorem Inv.call' {s':Shared} {ch:List Addr} (I:Inv X pins σ H s) (ho:s'.os=s.os) (u:Un (frs X.stack) ch H H' s.heap s'.heap) (hok:HOk X.prog X.w H' s'.heap) (hg:AllBare s'.gens)
  (hch:∀ b∈ch,(b∈X.ex∨X.s₀.heap.objs.size≤b)∧b≠X.env.locals∧(∀ x c,X.env.cells.lookup x=some c→c≠b)∧∀ p∈X.pn++pins,p.1≠b):Inv X pins σ H' s':=by
 obtain ⟨h',g',d',t',o'⟩:=s'
 have e:o'=s.os:=ho
 subst e
 exact I.call (g':=g') (t':=t') (d':=d') u hok hg hch
end
noncomputable abbrev XK:=Value→Option Addr→Hp→Prop
noncomputable abbrev St:=List (Option V)
noncomputable abbrev VK:=V→Hp→Prop
noncomputable abbrev TE:=St→Hp→VK→Prop
noncomputable abbrev TT:=St→Hp→(Bool→Hp→Prop)→Prop
noncomputable abbrev TA:=St→Hp→(List V→Hp→Prop)→Prop
structure Ends where
 nx:St→Hp→Prop
 rt:VK
 bk:St→Hp→Prop:=fun _ _=>False
 ct:St→Hp→Prop:=fun _ _=>False
noncomputable abbrev TS:=Ends→St→Hp→Prop
noncomputable def EP (X:Cx) (pins:List (Addr×Obj)) (σ:St) (Q:VK) (u:Value) (s':Shared):Prop:=∃ v H',Inv X pins σ H' s'∧RelV v u∧Q v H'
noncomputable def TP (X:Cx) (pins:List (Addr×Obj)) (σ:St) (Q:Bool→Hp→Prop) (b:Bool) (s':Shared):Prop:=∃ H',Inv X pins σ H' s'∧Q b H'
noncomputable def AP (X:Cx) (pins:List (Addr×Obj)) (σ:St) (Q:List V→Hp→Prop) (us:List Value) (s':Shared):Prop:=∃ vs H',Inv X pins σ H' s'∧Vals vs us∧Q vs H'
noncomputable def SP (X:Cx) (pins:List (Addr×Obj)) (D:Ends) (f:Flow) (s':Shared):Prop:=
 match f with
 | .next=>∃ σ' H',Inv X pins σ' H' s'∧D.nx σ' H'
 | .brk=>∃ σ' H',Inv X pins σ' H' s'∧D.bk σ' H'
 | .cont=>∃ σ' H',Inv X pins σ' H' s'∧D.ct σ' H'
 | .ret u=>∃ v σ' H',Inv X pins σ' H' s'∧RelV v u∧D.rt v H'
noncomputable def PE (X:Cx) (e:Expr) (t:TE):Prop:=
 ∀ (pins:List (Addr×Obj)) (s:Shared) (σ:St) (H:Hp) (Q:VK),Inv X pins σ H s→t σ H Q→wpAny (model X.prog X.w) X.A (eval e X.env) (EP X pins σ Q) X.xe s
noncomputable def PT (X:Cx) (e:Expr) (t:TT):Prop:=
 ∀ (pins:List (Addr×Obj)) (s:Shared) (σ:St) (H:Hp) (Q:Bool→Hp→Prop),Inv X pins σ H s→t σ H Q→wpAny (model X.prog X.w) X.A (isTrue e X.env (eval e X.env)) (TP X pins σ Q) X.xe s
noncomputable def PW (X:Cx) (e:Expr) (t:TT):Prop:=
 ∀ (whole:Sem Value) (pins:List (Addr×Obj)) (s:Shared) (σ:St) (H:Hp) (Q:Bool→Hp→Prop),Inv X pins σ H s→t σ H Q→wpAny (model X.prog X.w) X.A (isTrue e X.env whole) (TP X pins σ Q) X.xe s
theorem PW.pt {X:Cx} {e:Expr} {t:TT} (h:PW X e t):PT X e t:=h _
noncomputable def PA (X:Cx) (es:List Expr) (t:TA):Prop:=
 ∀ (pos:Pos) (pins:List (Addr×Obj)) (s:Shared) (σ:St) (H:Hp) (Q:List V→Hp→Prop),Inv X pins σ H s→t σ H Q→wpAny (model X.prog X.w) X.A (spliced (backTo pos (starEach es X.env))) (AP X pins σ Q) X.xe s
noncomputable def PS (X:Cx) (st:Stmt) (t:TS):Prop:=
 ∀ (pins:List (Addr×Obj)) (s:Shared) (σ:St) (H:Hp) (D:Ends),Inv X pins σ H s→t D σ H→wpAny (model X.prog X.w) X.A (exec st X.env) (SP X pins D) X.xe s
noncomputable def PSs (X:Cx) (st:List Stmt) (t:TS):Prop:=
 ∀ (pins:List (Addr×Obj)) (s:Shared) (σ:St) (H:Hp) (D:Ends),Inv X pins σ H s→t D σ H→wpAny (model X.prog X.w) X.A (execs st X.env) (SP X pins D) X.xe s
theorem thn {α:Type} {t:Sem α} {Q Q':α→Shared→Prop} {M:Model} {A:Around} {E:Value→Shared→Prop} {s:Shared} (h:wpAny M A t Q E s) (hQ:∀ a s,Q a s→Q' a s):wpAny M A t Q' E s:=wpAny_mono h hQ fun _ _ x=>x
section
variable {X:Cx}
noncomputable def tVar (i:Nat):TE:=fun σ H Q=>∃ v,σ[i]? =some (some v)∧Q v H
noncomputable abbrev tC (v:V):TE:=fun _ H Q=>Q v H
theorem Rg {i:Nat} {x:Str} {pos:Pos} (hN:X.N[i]? =some x) (hv:Vis X.env.scope x) (hd:(x == ("__debug__":Str))=false:=by decide) (hcd:(x == ("__classdict__":Str))=false:=by decide):PE X (.Name x pos) (tVar i):=by
 intro pins s σ H Q I h
 obtain ⟨v,e,h⟩:=h
 obtain ⟨m,hn,hl⟩:=I.loc
 obtain ⟨u,r,l⟩:=hl i x v hN e hv
 have fin:EP X pins σ Q u s:=⟨v,H,I,r,h⟩
 rcases l with ⟨hk,hm⟩ | ⟨hk,c,hc,hcell⟩
 ·exact wpAny_Name (wpAny_loadName_local I.ok.kind hk hn hm fin) hd
 ·rcases hk with hk | hk
  ·exact wpAny_Name (wpAny_loadName_cell I.ok.kind hk hc hcell fin) hd
  ·exact wpAny_Name (wpAny_loadName_free I.ok.kind hk hc hcell fin hcd) hd
theorem af {i j pos}:PE X (.Constant (.int i) j pos) (tC (.int i)):=fun _ _ _ H _ I h=>wpAny_Constant_int ⟨.int i,H,I.tok _,⟨_,rfl⟩,h⟩
theorem md {b j pos}:PE X (.Constant (.bool b) j pos) (tC (.bl b)):=fun _ _ _ H _ I h=>Constant_bool ⟨.bl b,H,I,rfl,h⟩
theorem NN {j pos}:PE X (.Constant .none j pos) (tC .non):=fun _ _ _ H _ I h=>Constant_none ⟨.non,H,I,rfl,h⟩
theorem fq {x j pos}:PE X (.Constant (.str x) j pos) (tC (.str x)):=fun _ _ _ H _ I h=>Calls.Constant_str ⟨.str x,H,I.tok _,⟨_,rfl⟩,h⟩
noncomputable def Gl (X:Cx) (x:Str):Prop:=X.env.kindOf x=some .globalImplicit
theorem p8 {E:Value→Shared→Prop} {pins:List (Addr×Obj)} {s:Shared} {σ:St} {H:Hp} {x:Str} {u:Value} {pos:Pos} {Q:Value→Shared→Prop} (I:Inv X pins σ H s) (hg:Gl X x) (hm:X.mg x=some u) (h:Q u s)
  (hd:(x == ("__debug__":Str))=false:=by decide):wpAny (model X.prog X.w) X.A (eval (.Name x pos) X.env) Q E s:=
 Calls.Name_function_global I.ok.kind hg (Calls.loadGlobal_global (by rw [I.ok.glob];exact I.mod.glob.keeps I.bk) hm h) hd
theorem my {E:Value→Shared→Prop} {pins:List (Addr×Obj)} {s:Shared} {σ:St} {H:Hp} {x:Str} {u:Value} {pos:Pos} {Q:Value→Shared→Prop} (I:Inv X pins σ H s) (hg:Gl X x) (hm:X.mg x=none) (hv:bootBuiltins x=some u) (h:Q u s)
  (hn:x≠"__name__":=by decide) (hd:(x == ("__debug__":Str))=false:=by decide):wpAny (model X.prog X.w) X.A (eval (.Name x pos) X.env) Q E s:=by
 obtain ⟨mb,h1,h2⟩:=I.mod.blt
 exact Calls.Name_function_global I.ok.kind hg (Calls.loadGlobal_builtin (by rw [I.ok.glob];exact I.mod.glob.keeps I.bk) hm (by rw [I.ok.blt];exact h1.keeps I.bk) ((h2 x hn).trans hv) h) hd
theorem pE {x:Str} {v:V} {u:Value} {pos:Pos} (hg:Gl X x) (hm:X.mg x=some u) (r:RelV v u) (hd:(x == ("__debug__":Str))=false:=by decide):PE X (.Name x pos) (tC v):=
 fun _ _ _ H _ I h=>p8 I hg hm ⟨v,H,I,r,h⟩ hd
theorem gy {x:Str} {v:V} {u:Value} {pos:Pos} (hg:Gl X x) (hm:X.mg x=none) (hv:bootBuiltins x=some u) (r:RelV v u) (hn:x≠"__name__":=by decide) (hd:(x == ("__debug__":Str))=false:=by decide):PE X (.Name x pos) (tC v):=
 fun _ _ _ H _ I h=>my I hg hm hv ⟨v,H,I,r,h⟩ hn hd
variable {a b:Expr} {ta tb:TE} {pos:Pos}
noncomputable def PC (X:Cx) (op:CmpOp) (a b:Expr) (t:TE):Prop:=
 ∀ (pins:List (Addr×Obj)) (s:Shared) (σ:St) (H:Hp) (Q:VK),Inv X pins σ H s→t σ H Q→
  wpAny (model X.prog X.w) X.A (eval a X.env) (fun v s₁=>wpAny (model X.prog X.w) X.A (eval b X.env) (fun u s₂=>wpAny (model X.prog X.w) X.A (compareOp op v u) (EP X pins σ Q) X.xe s₂) X.xe s₁) X.xe s
noncomputable abbrev tB (t:TE):TT:=fun σ H Q=>t σ H fun x H1=>∃ c,x= .bl c∧Q c H1
theorem Q9 {op:CmpOp} {t:TE} (h:PC X op a b t) (h1:behindInMarks op b=false:=by first | exact nobehind _ (by decide) (by decide) | rfl):PT X (.Compare a [op] [b] pos) (tB t):=by
 intro pins s σ H Q I hw
 refine wpAny_isTrue_Compare1 (thn (h pins s σ H _ I hw) fun v s1 h1=>thn h1 fun u s2 h2=>thn h2 fun c s3 ⟨x,H1,I1,r1,q1⟩=>?_) h1
 obtain ⟨d,rfl,q⟩:=q1
 cases r1
 exact wpAny_truthy_bool ⟨H1,I1,q⟩
theorem cI {e:Expr} {t:TE} (h:PE X e t) (he:∀ whole,isTrue e X.env whole=(do let v ← whole;standAt e.pos;holding [v] (truthy v)):=by intro _;rfl):PT X e (tB t):=by
 intro pins s σ H Q I hw
 refine isTrue_plain (thn (h pins s σ H _ I hw) fun v s1 ⟨x,H1,I1,r1,q1⟩=>?_) (he _)
 obtain ⟨d,rfl,q⟩:=q1
 cases r1
 exact wpAny_truthy_bool ⟨H1,I1,q⟩
variable {tA tB':TT} {rest:List Expr}
noncomputable abbrev tAnd (t u:TT):TT:=fun σ H Q=>t σ H fun c H1=>if c=true then u σ H1 Q else Q false H1
noncomputable abbrev tOr (t u:TT):TT:=fun σ H Q=>t σ H fun c H1=>if c=true then Q true H1 else u σ H1 Q
noncomputable abbrev tNot (t:TT):TT:=fun σ H Q=>t σ H fun c H1=>Q (!c) H1
theorem yI (ha:PT X a tA):PW X (.BoolOp .And [a] pos) tA:=by
 intro wh pins s σ H Q I h
 refine isTrue_and (thn (ha pins s σ H Q I h) fun c s1 e=>?_)
 cases c with
 | true=>exact isTrue_and_nil e
 | false=>exact e
theorem jf (ha:PT X a tA):PW X (.BoolOp .Or [a] pos) tA:=by
 intro wh pins s σ H Q I h
 refine isTrue_or (thn (ha pins s σ H Q I h) fun c s1 e=>?_)
 cases c with
 | false=>exact isTrue_or_nil e
 | true=>exact e
theorem FK (ha:PT X a tA) (hb:PW X (.BoolOp .And (b::rest) pos) tB'):PW X (.BoolOp .And (a::b::rest) pos) (tAnd tA tB'):=by
 intro wh pins s σ H Q I h
 refine isTrue_and (thn (ha pins s σ H _ I h) fun c s1 ⟨H1,I1,q1⟩=>?_)
 cases c with
 | true=>exact hb wh pins s1 σ H1 Q I1 q1
 | false=>exact ⟨H1,I1,q1⟩
theorem mK (ha:PT X a tA) (hb:PW X (.BoolOp .Or (b::rest) pos) tB'):PW X (.BoolOp .Or (a::b::rest) pos) (tOr tA tB'):=by
 intro wh pins s σ H Q I h
 refine isTrue_or (thn (ha pins s σ H _ I h) fun c s1 ⟨H1,I1,q1⟩=>?_)
 cases c with
 | true=>exact ⟨H1,I1,q1⟩
 | false=>exact hb wh pins s1 σ H1 Q I1 q1
theorem dj (ha:PT X a tA):PT X (.UnaryOp .Not a pos) (tNot tA):=by
 intro pins s σ H Q I h
 exact isTrue_not (ha pins s σ H (fun c H1=>Q (!c) H1) I h)
noncomputable abbrev SD (ta tb:TE):TE:=fun σ H Q=>ta σ H fun x H1=>∃ c,x= .bl c∧if c=true then tb σ H1 Q else Q (.bl false) H1
noncomputable abbrev SA (ta:TE):TE:=fun σ H Q=>ta σ H fun x H1=>∃ c,x= .bl c∧Q (.bl (!c)) H1
theorem nN {op} {t:TE} (h:PE X a t):PE X (.BoolOp op [a] pos) t:=fun pins s σ H Q I hw=>BoolOp_one (h pins s σ H Q I hw)
theorem j3 (ha:PE X a ta) (hb:PE X (.BoolOp .And (b::rest) pos) tb):PE X (.BoolOp .And (a::b::rest) pos) (SD ta tb):=by
 intro pins s σ H Q I h
 refine BoolOp_and (thn (ha pins s σ H _ I h) fun v s1 ⟨x,H1,I1,r1,q1⟩=>?_)
 obtain ⟨c,rfl,q1⟩:=q1
 cases r1
 refine wpAny_truthy_bool ?_
 cases c with
 | true=>exact hb pins s1 σ H1 Q I1 q1
 | false=>exact ⟨.bl false,H1,I1,rfl,q1⟩
theorem NM (ha:PE X a ta):PE X (.UnaryOp .Not a pos) (SA ta):=by
 intro pins s σ H Q I h
 refine UnaryOp_ (thn (ha pins s σ H _ I h) fun v s1 ⟨x,H1,I1,r1,q1⟩=>?_)
 obtain ⟨c,rfl,q1⟩:=q1
 cases r1
 exact not_of (wpAny_truthy_bool ⟨.bl (!c),H1,I1,rfl,q1⟩)
end
noncomputable def SqL (K:PySem.W.Frag) (H:Hp) (a:Addr) (xs:List V):Prop:=
 Rd H a (.lst xs)∨
  ∃ (o:Obj) (its:Array Value) (n:Nat),K.lookup a=some o∧o.cls= .type "list"∧o.dict=none∧o.data= .seq its n∧its.size≤sizeLine∧Vals xs its.toList
noncomputable def SqT (K:PySem.W.Frag) (H:Hp) (a:Addr) (xs:List V):Prop:=
 Rd H a (.tup xs)∨
  ∃ (o:Obj) (its:Array Value) (n:Nat),K.lookup a=some o∧o.cls= .type "tuple"∧o.data= .seq its n∧its.size≤sizeLine∧Vals xs its.toList
noncomputable def absV:Value→Option V
 | .none=>some .non
 | .bool b=>some (.bl b)
 | .int i _=>some (.int i)
 | .str x _=>some (.str x)
 | .bytes b _=>some (.byt b)
 | .float b _=>some (.flt b)
 | .ref a=>some (.ref a)
 | .type n=>some (.ty n)
 | _=>none
theorem RelV.abs {x:V} {u:Value} (r:RelV x u):absV u=some x:=by
 cases x with
 | non=>cases r;rfl
 | bl _=>cases r;rfl
 | int _=>obtain ⟨t,rfl⟩:=r;rfl
 | str _=>obtain ⟨t,rfl⟩:=r;rfl
 | byt _=>obtain ⟨t,rfl⟩:=r;rfl
 | flt _=>obtain ⟨t,rfl⟩:=r;rfl
 | ref _=>cases r;rfl
 | ty _=>cases r;rfl
theorem RelV.inj {x y:V} {u:Value} (r:RelV x u) (q:RelV y u):x=y:=Option.some.inj (r.abs.symm.trans q.abs)
theorem Vals.inj:∀ {xs ys:List V} {us:List Value},Vals xs us→Vals ys us→xs=ys
 | _,_,_,.nil,.nil=>rfl
 | _,_,_,.cons r t,.cons r' t'=>by rw [r.inj r',Vals.inj t t']
section
variable {X:Cx} {pins:List (Addr×Obj)} {σ:St} {H:Hp} {s:Shared} {a:Addr} {xs ys:List V}
theorem SqL.of {K:PySem.W.Frag} (h:H a=some (.lst xs)):SqL K H a xs:= .inl (.inl h)
theorem SqT.of {K:PySem.W.Frag} (h:H a=some (.tup xs)):SqT K H a xs:= .inl (.inl h)
theorem Inv.list (I:Inv X pins σ H s) (h:SqL X.K H a xs):∃ its:List Value,Vals xs its∧PlainL s.heap a its.toArray∧xs.length≤sizeLine:=by
 rcases h with h | ⟨o,its,n,hk,hc,hd,hs,hz,r⟩
 ·obtain ⟨z,its,n,r,e⟩:=h.ok I.hok
  exact ⟨its,r,⟨_,n,e,rfl,rfl,rfl⟩,z⟩
 ·refine ⟨its.toList,r,⟨o,n,I.kIn a o hk,hc,hd,by simpa using hs⟩,?_⟩
  have e:=r.length
  simp only [Array.length_toList] at e
  omega
theorem Inv.tuple (I:Inv X pins σ H s) (h:SqT X.K H a xs):∃ its:List Value,Vals xs its∧IsTup s.heap a its.toArray∧xs.length≤sizeLine:=by
 rcases h with h | ⟨o,its,n,hk,hc,hs,hz,r⟩
 ·obtain ⟨z,its,r,p⟩:=h.ok I.hok
  exact ⟨its,r,p,z⟩
 ·refine ⟨its.toList,r,⟨o,I.kIn a o hk,hc,n,by simpa using hs⟩,?_⟩
  have e:=r.length
  simp only [Array.length_toList] at e
  omega
theorem Inv.list_inj (I:Inv X pins σ H s) (h:SqL X.K H a xs) (h':SqL X.K H a ys):xs=ys:=by
 obtain ⟨its,r,⟨o,n,e,_,_,d⟩,_⟩:=I.list h
 obtain ⟨its',r',⟨o',n',e',_,_,d'⟩,_⟩:=I.list h'
 rw [e] at e';cases e'
 rw [d] at d'
 injection d' with d1 _
 have:its=its':=by simpa using congrArg Array.toList d1
 subst this
 exact r.inj r'
theorem Inv.tuple_inj (I:Inv X pins σ H s) (h:SqT X.K H a xs) (h':SqT X.K H a ys):xs=ys:=by
 obtain ⟨its,r,⟨o,e,_,n,d⟩,_⟩:=I.tuple h
 obtain ⟨its',r',⟨o',e',_,n',d'⟩,_⟩:=I.tuple h'
 rw [e] at e';cases e'
 rw [d] at d'
 injection d' with d1 _
 have:its=its':=by simpa using congrArg Array.toList d1
 subst this
 exact r.inj r'
end
noncomputable abbrev Cx.wish (X:Cx) (E:Value→Shared→Prop):Cx:={X with xe:=E}
noncomputable abbrev Cx.nox (X:Cx):Cx:=X.wish fun _ _=>False
theorem Cx.Ok.wish {X:Cx} (ok:X.Ok) (E:Value→Shared→Prop):(X.wish E).Ok:=
 ⟨ok.mod,ok.kind,ok.glob,ok.blt,ok.above,ok.inj,ok.has,ok.cab,ok.hd,ok.frames,ok.stk,ok.exf,ok.bs,ok.bsz,ok.noex,ok.exfs,ok.funs,ok.frf⟩
theorem Cx.Ok.unwish {X:Cx} {E:Value→Shared→Prop} (ok:(X.wish E).Ok):X.Ok:=
 ⟨ok.mod,ok.kind,ok.glob,ok.blt,ok.above,ok.inj,ok.has,ok.cab,ok.hd,ok.frames,ok.stk,ok.exf,ok.bs,ok.bsz,ok.noex,ok.exfs,ok.funs,ok.frf⟩
section
variable {X:Cx} {pins:List (Addr×Obj)} {σ:St} {H:Hp} {s:Shared} {E:Value→Shared→Prop}
theorem Inv.wish (I:Inv X pins σ H s) (E:Value→Shared→Prop):Inv (X.wish E) pins σ H s:=⟨I.ok.wish E,I.os,I.bare,I.base,I.loc,I.cell,I.free,I.freeC,I.pin,I.hok,I.len⟩
theorem Inv.unwish (I:Inv (X.wish E) pins σ H s):Inv X pins σ H s:=⟨I.ok.unwish,I.os,I.bare,I.base,I.loc,I.cell,I.free,I.freeC,I.pin,I.hok,I.len⟩
theorem SP.unwish {D:Ends} {f:Flow} {s':Shared} (h:SP (X.wish E) pins D f s'):SP X pins D f s':=by
 cases f with
 | next=>obtain ⟨σ',H',I,q⟩:=h;exact ⟨σ',H',I.unwish,q⟩
 | brk=>obtain ⟨σ',H',I,q⟩:=h;exact ⟨σ',H',I.unwish,q⟩
 | cont=>obtain ⟨σ',H',I,q⟩:=h;exact ⟨σ',H',I.unwish,q⟩
 | ret u=>obtain ⟨v,σ',H',I,r,q⟩:=h;exact ⟨v,σ',H',I.unwish,r,q⟩
theorem PSs.nox {st:List Stmt} {t:TS} (h:PSs X.nox st t):PSs X st t:=fun pins s σ H D I hw=>
 wpAny_mono (h pins s σ H D (I.wish _) hw) (fun _ _ q=>q.unwish) fun _ _ z=>False.elim z
end
section
variable {X:Cx} {st:Stmt} {rest:List Stmt} {t u:TS} {e:Expr} {te:TE} {pos:Pos}
noncomputable def Qn:TS:=fun D σ H=>D.nx σ H
noncomputable def tSeq (t u:TS):TS:=fun D σ H=>t {D with nx:=u D} σ H
theorem aQ:PSs X [] Qn:=fun _ _ σ H _ I h=>wpAny_execs_nil ⟨σ,H,I,h⟩
theorem ai (h1:PS X st t) (h2:PSs X rest u):PSs X (st::rest) (tSeq t u):=by
 intro pins s σ H D I h
 refine wpAny_execs_cons (thn (h1 pins s σ H {D with nx:=u D} I h) fun f s1 q=>?_)
 cases f with
 | next=>
   obtain ⟨σ',H',I',q⟩:=q
   exact h2 pins s1 σ' H' D I' q
 | ret v=>exact q
 | brk=>exact q
 | cont=>exact q
theorem aj (h1:PS X st t):PSs X [st] t:=by
 intro pins s σ H D I h
 refine wpAny_execs_cons (thn (h1 pins s σ H D I h) fun f s1 q=>?_)
 cases f with
 | next=>exact wpAny_execs_nil q
 | ret v=>exact q
 | brk=>exact q
 | cont=>exact q
theorem Inv.quiet {pins:List (Addr×Obj)} {σ:St} {H:Hp} {s:Shared} (I:Inv X pins σ H s):interactive X.env=false:=by simp [interactive,I.ok.kind]
noncomputable abbrev SB (te:TE):TS:=fun D σ H=>te σ H fun _ H1=>D.nx σ H1
theorem dU (he:PE X e te) (hs:swapsWith e none pos.line X.env=pure false:=by rfl):PS X (.Expr e pos) (SB te):=by
 intro pins s σ H D I h
 exact wpAny_Expr_any (thn (he pins s σ H _ I h) fun v s1 ⟨x,H1,I1,r1,q1⟩=>⟨σ,H1,I1,q1⟩) I.quiet hs
noncomputable abbrev tRet (te:TE):TS:=fun D σ H=>te σ H D.rt
theorem aI (he:PE X e te):PS X (.Return (some e) pos) (tRet te):=by
 intro pins s σ H D I h
 exact wpAny_Return_some (thn (he pins s σ H _ I h) fun v s1 ⟨x,H1,I1,r1,q1⟩=>⟨x,σ,H1,I1,r1,q1⟩)
noncomputable abbrev tIfS (c:TT) (t u:TS):TS:=fun D σ H=>c σ H fun b H1=>if b=true then t D σ H1 else u D σ H1
theorem cJ {c:Expr} {a b:List Stmt} {tc:TT} (hc:PT X c tc) (ha:PSs X a t) (hb:PSs X b u):PS X (.If c a b pos) (tIfS tc t u):=by
 intro pins s σ H D I h
 refine wpAny_If (thn (hc pins s σ H _ I h) fun d s1 ⟨H1,I1,q1⟩=>?_)
 cases d with
 | true=>exact ha pins s1 σ H1 D I1 q1
 | false=>exact hb pins s1 σ H1 D I1 q1
end
noncomputable abbrev TG:=V→St→Hp→(St→Hp→Prop)→Prop
noncomputable abbrev TGs:=List V→St→Hp→(St→Hp→Prop)→Prop
noncomputable def PG (X:Cx) (target:Expr) (t:TG):Prop:=
 ∀ (pins:List (Addr×Obj)) (s:Shared) (σ:St) (H:Hp) (v:V) (u:Value) (Q:St→Hp→Prop),Inv X pins σ H s→RelV v u→t v σ H Q→
  wpAny (model X.prog X.w) X.A (assign target X.env u) (fun _ s'=>∃ σ' H',Inv X pins σ' H' s'∧Q σ' H') X.xe s
noncomputable def PGs (X:Cx) (ts:List Expr) (t:TGs):Prop:=
 ∀ (pins:List (Addr×Obj)) (s:Shared) (σ:St) (H:Hp) (vs:List V) (us:List Value) (Q:St→Hp→Prop),Inv X pins σ H s→Vals vs us→t vs σ H Q→
  wpAny (model X.prog X.w) X.A (assignInOrder ((assignEach ts X.env).map (·.2)) us) (fun _ s'=>∃ σ' H',Inv X pins σ' H' s'∧Q σ' H') X.xe s
noncomputable abbrev TSet:=V→V→V→Hp→(Hp→Prop)→Prop
noncomputable def PSet (X:Cx) (t:TSet):Prop:=
 ∀ (pins:List (Addr×Obj)) (s:Shared) (σ:St) (H:Hp) (o i v:V) (ov iv u:Value) (Q:Hp→Prop),Inv X pins σ H s→RelV o ov→RelV i iv→RelV v u→t o i v H Q→
  wpAny (model X.prog X.w) X.A (setItem ov iv u) (fun _ s'=>∃ H',Inv X pins σ H' s'∧Q H') X.xe s
section
variable {X:Cx} {pos:Pos}
noncomputable def KM (i:Nat):TG:=fun v σ H Q=>Q (σ.set i (some v)) H
theorem aG {i:Nat} {x:Str} (hN:X.N.Nodup) (hi:X.N[i]? =some x) (hx:Loc X.env.scope x) (hf:X.fn x=true∨X.env.scope.names.lookup x=some .local:=by first | exact .inl rfl | exact .inr rfl | assumption):PG X (.Name x pos) (KM i):=by
 intro pins s σ H v u Q I r h
 exact wpAny_assign_Name (yw I hN hi hx r (fun s' I'=>⟨_,H,I',h⟩) hf)
noncomputable def gNil:TGs:=fun vs σ H Q=>vs=[]∧Q σ H
noncomputable def PF (t:TG) (u:TGs):TGs:=fun vs σ H Q=>∃ v r,vs=v::r∧t v σ H fun σ' H'=>u r σ' H' Q
theorem jH:PGs X [] gNil:=by
 intro pins s σ H vs us Q I r h
 obtain ⟨e,h⟩:=h
 subst e
 cases r
 exact assignInOrder_nil ⟨σ,H,I,h⟩
theorem bY {e:Expr} {es:List Expr} {t:TG} {u:TGs} (h1:PG X e t) (h2:PGs X es u)
  (hs:(assignEach (e::es) X.env).map (·.2)=assign e X.env::(assignEach es X.env).map (·.2):=by rfl):PGs X (e::es) (PF t u):=by
 intro pins s σ H vs us Q I r h
 obtain ⟨v,vr,e1,h⟩:=h
 subst e1
 cases r with
 | cons r rr=>
   rw [hs]
   refine assignInOrder_cons (thn (h1 pins s σ H _ _ _ I r h) fun _ s1 ⟨σ1,H1,I1,q1⟩=>?_)
   exact h2 pins s1 σ1 H1 _ _ Q I1 rr q1
noncomputable def gTup (K:PySem.W.Frag) (n:Nat) (t:TGs):TG:=fun v σ H Q=>∃ a xs,v= .ref a∧SqT K H a xs∧xs.length=n∧t xs σ H Q
theorem t4 {es:List Expr} {k:Nat} {t:TGs} {n:Nat} (hc:X.calm=true) (h:PGs X es t)
  (hn:(assignEach es X.env).length=n:=by rfl) (hst:(assignEach es X.env).findIdx? (·.1)=none:=by rfl):PG X (.Tuple es k pos) (gTup X.K n t):=by
 intro pins s σ H v u Q I r hw
 obtain ⟨a,xs,e1,hq,hl,hw⟩:=hw
 subst e1
 cases r
 obtain ⟨its,rv,ht,hz⟩:=I.tuple hq
 refine assign_Tuple_tuple (I.ok.hd hc) ht (by simp [hn,← hl,rv.length]) hst fun h' hx=>?_
 have I1:Inv X pins σ H {s with heap:=h'}:=I.kept (t':=s.toks) fun b o e=>hx b o (Nat.ne_of_lt (Heap.lt_size e)) e
 exact h pins _ σ H xs _ Q I1 (by simpa using rv) hw
noncomputable def gSub (to ti:TE) (t:TSet):TG:=fun v σ H Q=>to σ H fun o H1=>ti σ H1 fun i H2=>t o i v H2 fun H3=>Q σ H3
theorem Rf {o i:Expr} {to ti:TE} {t:TSet} (ho:PE X o to) (hi:PE X i ti) (hs:PSet X t)
  (ha:∀ v,assign (.Subscript o i pos) X.env v=(do
   let ov ← holding [v] (eval o X.env)
   let iv ← holding [v,ov] (eval i X.env)
   standAt pos
   holding [v,ov,iv] (setItem ov iv v)
   release [v,ov,iv] []):=by intro _;rfl):PG X (.Subscript o i pos) (gSub to ti t):=by
 intro pins s σ H v u Q I r h
 rw [ha]
 refine wpAny_bind (wpAny_holding (thn (ho pins s σ H _ I h) fun ov s1 ⟨x,H1,I1,r1,q1⟩=>?_))
 refine wpAny_bind (wpAny_holding (thn (hi pins s1 σ H1 _ I1 q1) fun iv s2 ⟨y,H2,I2,r2,q2⟩=>?_))
 refine wpAny_bind (wpAny_standAt (wpAny_bind (wpAny_holding (thn (hs pins s2 σ H2 x y v ov iv u _ I2 r1 r2 r q2) fun _ s3 ⟨H3,I3,q3⟩=>?_))))
 exact wpAny_release ⟨σ,H3,I3,q3⟩
noncomputable abbrev tAsg (te:TE) (g:TG):TS:=fun D σ H=>te σ H fun x H1=>g x σ H1 D.nx
theorem NK {tg e:Expr} {te:TE} {g:TG} (he:PE X e te) (hg:PG X tg g) (hs:swapsWithSole [tg] e pos.line X.env=pure false:=by rfl) (hw:swappedStores [tg] e X.env=pure none:=by rfl)
  (h1:(assignEach [tg] X.env).map (·.2)=[assign tg X.env]:=by rfl):PS X (.Assign [tg] e pos) (tAsg te g):=by
 intro pins s σ H D I h
 refine wpAny_Assign_stores (thn (he pins s σ H _ I h) fun v s1 ⟨x,H1,I1,r1,q1⟩=>?_) hs hw
 rw [h1]
 exact thn (hg pins s1 σ H1 x v _ I1 r1 q1) fun _ s2 q=>q
theorem au {i:Nat} {x:Str} {e:Expr} {te:TE} {pos':Pos} (hN:X.N.Nodup) (hi:X.N[i]? =some x) (hx:Loc X.env.scope x) (he:PE X e te) (hs:swapsWith e (some (.Name x pos')) pos.line X.env=pure false:=by rfl) (hf:X.fn x=true∨X.env.scope.names.lookup x=some .local:=by first | exact .inl rfl | exact .inr rfl | assumption):
  PS X (.Assign [.Name x pos'] e pos) (tAsg te (KM i)):=by
 intro pins s σ H D I h
 refine wpAny_Assign_Name (thn (he pins s σ H _ I h) fun v s1 ⟨y,H1,I1,r1,q1⟩=>?_) hs
 exact yw I1 hN hi hx r1 (fun s2 I2=>⟨_,H1,I2,q1⟩) hf
end
section
variable {X:Cx} {pos:Pos}
noncomputable def Ql (c:TT) (tb:TS):TS:=fun D σ H=>∃ W:Nat→St→Hp→Prop,(∃ m,W m σ H)∧∀ m σ H,W m σ H→
 c σ H fun b H1=>if b=true then ∃ N:St→Hp→Prop,(∀ σ' H',N σ' H'→∃ m',m' < m∧W m' σ' H')∧tb {D with nx:=N,ct:=N,bk:=D.nx} σ H1 else D.nx σ H1
theorem yK {c:Expr} {body:List Stmt} {tc:TT} {tb:TS} (hp:PassesOwn (model X.prog X.w) X.A X.env X.xe) (hc:PT X c tc) (hb:PSs X body tb):PS X (.While c body [] pos) (Ql tc tb):=by
 intro pins s σ H D I h
 obtain ⟨W,⟨m0,w0⟩,turn⟩:=h
 refine wpAny_While (codeAny_whileLoop (fun n s'=>∃ σ' H',Inv X pins σ' H' s'∧W n σ' H') ?_ m0 ⟨σ,H,I,w0⟩)
 rintro n s1 ⟨σ1,H1,I1,w1⟩
 refine wpAny_passesOwn hp (thn (hc pins s1 σ1 H1 _ I1 (turn n σ1 H1 w1)) fun b s2 ⟨H2,I2,q2⟩=>?_)
 cases b with
 | true=>
   obtain ⟨N,hN,q2⟩:=q2
   rw [if_pos rfl]
   refine wpAny_passesOwn hp (thn (hb pins s2 σ1 H2 _ I2 q2) fun f s3 q3=>?_)
   cases f with
   | next=>
     obtain ⟨σ3,H3,I3,n3⟩:=q3
     obtain ⟨m',hm,w3⟩:=hN σ3 H3 n3
     exact ⟨m',hm,σ3,H3,I3,w3⟩
   | cont=>
     obtain ⟨σ3,H3,I3,n3⟩:=q3
     obtain ⟨m',hm,w3⟩:=hN σ3 H3 n3
     exact ⟨m',hm,σ3,H3,I3,w3⟩
   | brk=>exact q3
   | ret v=>exact q3
 | false=>
   rw [if_neg Bool.false_ne_true]
   exact wpAny_execs_nil ⟨σ1,H2,I2,q2⟩
end
structure It where
 go:Nat→Hp→Prop
 yld:Nat→Hp→V→Hp→Prop
 stop:Nat→Hp→Prop
noncomputable def FpOk (X:Cx) (pins:List (Addr×Obj)) (H:Hp) (b:Addr):Prop:=
 H b=none∧b≠X.env.locals∧b∉X.fs∧(b∈X.ex∨X.s₀.heap.objs.size≤b)∧(∀ x c,X.env.cells.lookup x=some c→c≠b)∧∀ p∈X.pn++pins,p.1≠b
theorem Inv.fpOk {X:Cx} {pins:List (Addr×Obj)} {σ:St} {H H':Hp} {s:Shared} {b:Addr} (I:Inv X pins σ H s) (hb:s.heap.objs.size≤b) (hn:H' b=none):FpOk X pins H' b:=by
 refine ⟨hn,Nat.ne_of_gt (Nat.lt_of_lt_of_le I.lt hb),I.nofs hb,.inr (Nat.le_trans I.sz hb),fun x c e z=>?_,fun p hp z=>?_⟩
 ·obtain ⟨v,q⟩:=I.cell x c e
  exact absurd (Nat.lt_of_lt_of_le q.lt (by rw [z];exact hb)) (Nat.lt_irrefl _)
 ·exact absurd (Nat.lt_of_lt_of_le (Heap.lt_size (I.pin p hp).1) (by rw [z];exact hb)) (Nat.lt_irrefl _)
structure Turn (P:Program) (w:World) (K:PySem.W.Frag) (tg:Expr) (J:It) (fp:List Addr) (it:Addr) (tn:Nat→Heap→Prop):Prop where
 mem:it∈fp
 obj:∀ i h,tn i h→∀ b∈fp,∃ o,h.get? b=some o∧∀ v,o.data≠.cell v
 keep:∀ i h h',tn i h→(∀ b∈fp,∀ o,h.get? b=some o→h'.get? b=some o)→tn i h'
 item:∀ (X:Cx),X.prog=P→X.w=w→X.K=K→X.calm=true→∀ (i:Nat) (pins:List (Addr×Obj)) (s:Shared) (σ:St) (H:Hp) (E:Value→Shared→Prop),Inv X pins σ H s→(∀ b∈fp,FpOk X pins H b)→tn i s.heap→J.go i H→
  wpAny (model P w) X.A (pyNext (.ref it)) (fun r s1=>∃ u,r=some u∧
   wpAny (model P w) X.A (letOwnedTupleGo tg (.ref it) u) (fun _ s2=>∃ x H',Inv X pins σ H' s2∧RelV x u∧J.yld i H x H'∧tn (i + 1) s2.heap∧∀ b∈fp,H' b=none) E s1) E s
 done:∀ (X:Cx),X.prog=P→X.w=w→X.K=K→X.calm=true→∀ (i:Nat) (pins:List (Addr×Obj)) (s:Shared) (σ:St) (H:Hp) (E:Value→Shared→Prop),Inv X pins σ H s→(∀ b∈fp,FpOk X pins H b)→tn i s.heap→J.stop i H→
  wpAny (model P w) X.A (pyNext (.ref it)) (fun r s1=>r=none∧Inv X pins σ H s1) E s
 self:∀ (A:Around) (i:Nat) (s:Shared) (Q:Value→Shared→Prop) (E:Value→Shared→Prop),tn i s.heap→Q (.ref it) s→wpAny (model P w) A (pyIter (.ref it)) Q E s
noncomputable abbrev TI:=St→Hp→(It→Hp→Prop)→Prop
noncomputable def PIE (X:Cx) (pins:List (Addr×Obj)) (σ:St) (tg:Expr) (R:It→Hp→Prop) (itv:Value) (s2:Shared):Prop:=
 ∃ (it:Addr) (fp:List Addr) (tn:Nat→Heap→Prop) (J:It) (H':Hp),itv= .ref it∧Inv X pins σ H' s2∧Turn X.prog X.w X.K tg J fp it tn∧tn 0 s2.heap∧(∀ b∈fp,FpOk X pins H' b)∧R J H'
noncomputable def PI (X:Cx) (tg iter:Expr) (wi:TI):Prop:=
 ∀ (pins:List (Addr×Obj)) (s:Shared) (σ:St) (H:Hp) (R:It→Hp→Prop),Inv X pins σ H s→wi σ H R→
  wpAny (model X.prog X.w) X.A (eval iter X.env) (fun v s1=>wpAny (model X.prog X.w) X.A (pyIter v) (PIE X pins σ tg R) X.xe s1) X.xe s
theorem RN {M:Model} {A:Around} {E:Value→Shared→Prop} {s:Shared} {tg:Expr} {it:Addr} {u:Value} {o:Obj} {n:String} {vs:Array Value} {Q:Unit→Shared→Prop} (ho:s.heap.get? it=some o) (hc:o.cls= .type n) (hd:o.data= .fields vs)
  (hn:["enumerate","zip","dict_itemiterator","dict_reverseitemiterator","odict_iterator","itertools.zip_longest","itertools.pairwise"].contains n=false) (hQ:Q () s):wpAny M A (letOwnedTupleGo tg (.ref it) u) Q E s:=by
 unfold letOwnedTupleGo
 cases tg<;>first
  | exact wpAny_pure hQ
  | (cases u<;>first
    | exact wpAny_pure hQ
    | (refine wpAny_bind (wpAny_load ho ?_)
       rw [hc,hd]
       show wpAny M A (if (["enumerate","zip","dict_itemiterator","dict_reverseitemiterator","odict_iterator","itertools.zip_longest","itertools.pairwise"].contains n&&vs[0]? == some (rawInt _))=true then _ else _) Q E s
       rw [if_neg (by intro h;rw [hn,Bool.false_and] at h;cases h)]
       exact wpAny_pure hQ))
noncomputable def Itl (K:PySem.W.Frag) (a:Addr):It:=
 ⟨fun i H=>∃ xs x,SqL K H a xs∧xs[i]? =some x,fun i H x H'=>H'=H∧∀ xs,SqL K H a xs→xs[i]? =some x,fun i H=>∃ xs,SqL K H a xs∧xs.length≤i⟩
noncomputable def Itr (lo:Int) (n:Nat):It:=⟨fun i _=>i < n,fun i H x H'=>H'=H∧x= .int (lo + i),fun i _=>n≤i⟩
theorem IZ {P:Program} {w:World} {K:PySem.W.Frag} {tg:Expr} (a it:Addr):Turn P w K tg (Itl K a) [it] it (fun i h=>h.IsListIter it a i) where
 mem:=by simp
 obj:=fun i h st b hb=>by
  have e:b=it:=by simpa using hb
  subst e
  obtain ⟨o,e,c,d⟩:=st
  exact ⟨o,e,fun v z=>by rw [d] at z;cases z⟩
 keep:=fun i h h' st k=>st.at fun o e=>k it (by simp) o e
 item:=by
  intro X hP hw hK hc i pins s σ H E I hf st hg
  subst hP hw hK
  obtain ⟨xs,x,hq,hx⟩:=hg
  obtain ⟨its,rv,p,hz⟩:=I.list hq
  obtain ⟨u,hu,ru⟩:=rv.get hx
  obtain ⟨f0,f1,f2,f3,f4,f5⟩:=hf it (by simp)
  refine wpAny_pyNext_list_item st p.isList (x:=u) (by simpa using hu) fun h' st' sb=>?_
  have I1:Inv X pins σ H {s with heap:=h'}:=I.turned (t':=s.toks) (fun b o hb e=>(sb.2 b hb).trans e) f0 f1 f3 f4 f5
  obtain ⟨o,e,c,d⟩:=id st'
  exact ⟨u,rfl,RN (s:={s with heap:=h'}) e c d (by decide) ⟨x,H,I1,ru,⟨rfl,fun ys hy=>by rw [I.list_inj hy hq];exact hx⟩,st',fun b hb=>(hf b hb).1⟩⟩
 done:=by
  intro X hP hw hK hc i pins s σ H E I hf st hg
  subst hP hw hK
  obtain ⟨xs,hq,hx⟩:=hg
  obtain ⟨its,rv,p,hz⟩:=I.list hq
  obtain ⟨f0,f1,f2,f3,f4,f5⟩:=hf it (by simp)
  have hl:=rv.length
  exact wpAny_pyNext_list_end (I.ok.hd hc) st p.isList (by simp;omega) fun h' eb=>⟨rfl,I.turned (t':=s.toks) (fun b o hb e=>eb b o hb e) f0 f1 f3 f4 f5⟩
 self:=fun _ _ _ _ _ st h=>wpAny_pyIter_listiter st h
theorem Gk {P:Program} {w:World} {K:PySem.W.Frag} {tg:Expr} (it:Addr) (lo:Int) (n:Nat):Turn P w K tg (Itr lo n) [it] it (fun i h=>IsRangeIter h it (lo + (i:Nat) * 1) ((n:Int) - (i:Nat)) 1) where
 mem:=by simp
 obj:=fun i h st b hb=>by
  have e:b=it:=by simpa using hb
  subst e
  exact ⟨_,st,fun v z=>by
   have z':Data.fields _=Data.cell v:=z
   cases z'⟩
 keep:=fun i h h' st k=>k it (by simp) _ st
 item:=by
  intro X hP hw hK hc i pins s σ H E I hf st hg
  subst hP hw hK
  obtain ⟨f0,f1,f2,f3,f4,f5⟩:=hf it (by simp)
  have W:=Walks.range (prog:=X.prog) (w:=X.w) (I.ok.hd hc) it lo 1 n
  refine W.item i s _ _ hg st fun v h' tk hv st' kk=>?_
  obtain ⟨t,rfl⟩:=hv
  have I1:Inv X pins σ H {s with heap:=h',toks:=tk}:=I.turned (fun b o hb e=>kk b o (by simpa using hb) e) f0 f1 f3 f4 f5
  refine ⟨_,rfl,RN (s:={s with heap:=h',toks:=tk}) (n:="range_iterator") st' rfl rfl (by decide) ⟨.int (lo + i),H,I1,⟨t,?_⟩,⟨rfl,rfl⟩,st',fun b hb=>(hf b hb).1⟩⟩
  rw [Int.mul_one]
 done:=by
  intro X hP hw hK hc i pins s σ H E I hf st hg
  subst hP hw hK
  obtain ⟨f0,f1,f2,f3,f4,f5⟩:=hf it (by simp)
  exact wpAny_pyNext_range_end (I.ok.hd hc) st (by have:n≤i:=hg;omega) fun h' eb=>⟨rfl,I.turned (t':=s.toks) (fun b o hb e=>eb b o hb e) f0 f1 f3 f4 f5⟩
 self:=fun _ _ _ _ _ st h=>wpAny_pyIter_rangeiter st h
section
variable {X:Cx} {tg:Expr}
noncomputable abbrev RL (K:PySem.W.Frag) (tl:TE):TI:=fun σ H R=>tl σ H fun x H1=>∃ a,x= .ref a∧(∃ xs,SqL K H1 a xs)∧R (Itl K a) H1
theorem O8 {l:Expr} {tl:TE} (hl:PE X l tl):PI X tg l (RL X.K tl):=by
 intro pins s σ H R I h
 refine thn (hl pins s σ H _ I h) fun v s1 ⟨x,H1,I1,r1,q1⟩=>?_
 obtain ⟨a,e,⟨xs,hq⟩,q⟩:=q1
 subst e
 cases r1
 obtain ⟨its,rv,p,hz⟩:=I1.list hq
 refine wpAny_pyIter_list p.isList ?_
 refine ⟨s1.heap.objs.size,[s1.heap.objs.size],_,_,H1,rfl,I1.kept (t':=s1.toks) fun b o e=>Heap.get?_push_of_some _ e,IZ a _,⟨_,Heap.get?_push_size _ rfl,rfl,rfl⟩,fun b hb=>?_,q⟩
 have e:b=s1.heap.objs.size:=by simpa using hb
 subst e
 exact I1.fpOk (Nat.le_refl _) (I1.hok.fresh (Nat.le_refl _))
theorem Mm {pins:List (Addr×Obj)} {σ:St} {H:Hp} {s:Shared} {R:It→Hp→Prop} {E:Value→Shared→Prop} {lo hi:Int} {t u v:Tok} {tk:Nat} (I:Inv X pins σ H s) (h1: -(2 ^ 62)≤lo) (h2:lo < 2 ^ 62) (h3: -(2 ^ 62)≤hi) (h4:hi < 2 ^ 62)
  (q:R (Itr lo (hi - lo).toNat) H):wpAny (model X.prog X.w) X.A (pyIter (.ref s.heap.objs.size)) (PIE X pins σ tg R) E {s with heap:=s.heap.push {cls:= .type "range",data:= .fields #[.int lo t,.int hi u,.int 1 v]},toks:=tk}:=by
 refine wpAny_pyIter_range (IsRange.new ..) (small_one h1 h2 h3 h4) ?_
 have I1:Inv X pins σ H {s with heap:=s.heap.push {cls:= .type "range",data:= .fields #[.int lo t,.int hi u,.int 1 v]},toks:=tk}:=I.kept fun b o e=>Heap.get?_push_of_some _ e
 refine ⟨(s.heap.push {cls:= .type "range",data:= .fields #[.int lo t,.int hi u,.int 1 v]}).objs.size,[(s.heap.push {cls:= .type "range",data:= .fields #[.int lo t,.int hi u,.int 1 v]}).objs.size],_,_,H,rfl,
  I1.kept (t':=tk) fun b o e=>Heap.get?_push_of_some _ e,Gk _ lo (hi - lo).toNat,?_,fun b hb=>?_,q⟩
 ·have e1:lo + ((0:Nat):Int) * 1=lo:=by simp
  have e2:(((hi - lo).toNat:Nat):Int) - ((0:Nat):Int)=Builtin.Range.rangeSize lo hi 1:=by rw [rangeSize_one];split<;>omega
  show IsRangeIter _ _ (lo + ((0:Nat):Int) * 1) ((((hi - lo).toNat:Nat):Int) - ((0:Nat):Int)) 1
  rw [e1,e2]
  exact Heap.get?_push_size _ rfl
 ·have e:b=(s.heap.push {cls:= .type "range",data:= .fields #[.int lo t,.int hi u,.int 1 v]}).objs.size:=by simpa using hb
  subst e
  exact I1.fpOk (Nat.le_refl _) (I1.hok.fresh (Nat.le_refl _))
noncomputable abbrev S5 (ta:TA):TI:=fun σ H R=>ta σ H fun vs H1=>∃ j:Int,vs=[.int j]∧-(2 ^ 62)≤j∧j < 2 ^ 62∧R (Itr 0 j.toNat) H1
theorem jg {a:Expr} {ta:TA} {p pos:Pos} (hg:Gl X "range") (hm:X.mg "range"=none) (ha:PA X [a] ta) (hs:starEach [a] X.env=[(false,eval a X.env)]:=by rfl):PI X tg (.Call (.Name "range" p) [a] [] pos) (S5 ta):=by
 intro pins s σ H R I h
 refine Call_ (my I hg hm boot_range (PyProof.Rows.callWith_type1 (thn (ha pos pins s σ H _ I h) fun us s1 ⟨vs,H1,I1,r1,q1⟩=>?_) hs rfl))
 obtain ⟨j,e,q1,q2,q⟩:=q1
 subst e
 cases r1 with
 | cons r rr=>
   cases rr
   obtain ⟨t,rfl⟩:=r
   exact call_range_1 (Mm I1 (by omega) (by omega) q1 q2 (by simpa using q))
noncomputable def tFor (wi:TI) (g:TG) (tb:TS):TS:=fun D σ H=>wi σ H fun J H1=>∃ W:Nat→Nat→St→Hp→Prop,(∃ m,W 0 m σ H1)∧∀ i m σ H,W i m σ H→
 (J.stop i H∧D.nx σ H)∨(J.go i H∧∃ N:St→Hp→Prop,(∀ σ' H',N σ' H'→∃ m',m' < m∧W (i + 1) m' σ' H')∧∀ x H',J.yld i H x H'→g x σ H' fun σ2 H2=>tb {D with nx:=N,ct:=N,bk:=D.nx} σ2 H2)
noncomputable def AU (fp:List Addr) (h:Heap):List (Addr×Obj):=fp.filterMap fun b=>(h.get? b).map fun o=>(b,o)
theorem lQ {fp:List Addr} {h:Heap} {b:Addr} {o:Obj} (hb:b∈fp) (e:h.get? b=some o):(b,o)∈AU fp h:=List.mem_filterMap.mpr ⟨b,hb,by rw [e];rfl⟩
theorem JW {fp:List Addr} {h:Heap} {p:Addr×Obj} (hp:p∈AU fp h):p.1∈fp∧h.get? p.1=some p.2:=by
 obtain ⟨b,hb,e⟩:=List.mem_filterMap.mp hp
 cases q:h.get? b with
 | none=>rw [q] at e;cases e
 | some o=>
   rw [q] at e
   have e':(b,o)=p:=Option.some.inj e
   subst e'
   exact ⟨hb,q⟩
theorem Inv.pinned {pins:List (Addr×Obj)} {σ:St} {H:Hp} {s:Shared} {fp:List Addr} (I:Inv X pins σ H s) (hf:∀ b∈fp,FpOk X pins H b) (ho:∀ b∈fp,∃ o,s.heap.get? b=some o∧∀ v,o.data≠.cell v):Inv X (pins++AU fp s.heap) σ H s:=
 I.pins_of fun p hp=>(List.mem_append.mp hp).elim (fun z=>I.pin p (List.mem_append_right _ z)) fun z=>by
  obtain ⟨hb,e⟩:=JW z
  obtain ⟨f0,f1,f2,_⟩:=hf p.1 hb
  obtain ⟨o,e',d⟩:=ho p.1 hb
  rw [e] at e';cases e'
  exact ⟨e,f0,f1,f2,d⟩
theorem Inv.unpinned {pins pl:List (Addr×Obj)} {σ:St} {H:Hp} {s:Shared} (I:Inv X (pins++pl) σ H s):Inv X pins σ H s:=I.pins_of fun p hp=>I.pin p (List.mem_append_right _ (List.mem_append_left _ hp))
theorem gj {iter:Expr} {body:List Stmt} {wi:TI} {g:TG} {tb:TS} {pos:Pos} (hp:PassesOwn (model X.prog X.w) X.A X.env X.xe) (hc:X.calm=true) (hi:PI X tg iter wi) (hg:PG X tg g) (hb:PSs X body tb)
  (hs:∀ x,foldedSetIterable iter X.env x=pure x:=by intro _;rfl):PS X (.For tg iter body [] pos) (tFor wi g tb):=by
 intro pins s σ H D I h
 refine wpAny_For (thn (hi pins s σ H _ I h) fun v s1 h1=>thn h1 fun itv s2 h2=>?_) hs
 obtain ⟨it,fp,tn,J,H2,e,I2,T,st2,f2,W,⟨m0,w0⟩,turn⟩:=h2
 subst e
 have stat:∀ {H':Hp},(∀ b∈fp,H' b=none)→∀ b∈fp,FpOk X pins H' b:=fun hn b hb=>⟨hn b hb,(f2 b hb).2⟩
 refine codeAny_forLoop_any (fun n s'=>∃ i σ' H',Inv X pins σ' H' s'∧tn i s'.heap∧(∀ b∈fp,H' b=none)∧W i n σ' H') ?_ m0 ⟨0,σ,H2,I2,st2,fun b hb=>(f2 b hb).1,w0⟩
 rintro n s3 ⟨i,σ3,H3,I3,st3,fr3,w3⟩
 rcases turn i n σ3 H3 w3 with ⟨stop,qn⟩ | ⟨go,N,hN,step⟩
 ·refine wpAny_passesOwn hp (thn (T.done X rfl rfl rfl hc i pins s3 σ3 H3 X.xe I3 (stat fr3) st3 stop) fun r s4 ⟨hr,I4⟩=>?_)
  subst hr
  exact wpAny_execs_nil ⟨σ3,H3,I4,qn⟩
 ·refine wpAny_passesOwn hp (thn (T.item X rfl rfl rfl hc i pins s3 σ3 H3 X.xe I3 (stat fr3) st3 go) fun r s4 ⟨u,hr,h4⟩=>?_)
  subst hr
  refine wpAny_passesOwn hp (thn h4 fun _ s5 ⟨x,H5,I5,r5,y5,st5,fr5⟩=>?_)
  have I5':=I5.pinned (stat fr5) (T.obj _ _ st5)
  refine wpAny_passesOwn hp (thn (hg _ s5 σ3 H5 x u _ I5' r5 (step x H5 y5)) fun _ s6 ⟨σ6,H6,I6,q6⟩=>?_)
  refine wpAny_passesOwn hp (thn (hb _ s6 σ6 H6 _ I6 q6) fun f s7 q7=>?_)
  have again:∀ {σ7:St} {H7:Hp},Inv X (pins++AU fp s5.heap) σ7 H7 s7→N σ7 H7→∃ m,m < n∧∃ i σ' H',Inv X pins σ' H' s7∧tn i s7.heap∧(∀ b∈fp,H' b=none)∧W i m σ' H':=fun {σ7 H7} I7 n7=>by
   obtain ⟨m',hm,w7⟩:=hN σ7 H7 n7
   refine ⟨m',hm,i + 1,σ7,H7,I7.unpinned,T.keep _ _ _ st5 fun b hb o e=>(I7.pin (b,o) (List.mem_append_right _ (List.mem_append_right _ (lQ hb e)))).1,fun b hb=>?_,w7⟩
   obtain ⟨o,e,d⟩:=T.obj _ _ st5 b hb
   exact (I7.pin (b,o) (List.mem_append_right _ (List.mem_append_right _ (lQ hb e)))).2.1
  cases f with
  | next=>obtain ⟨σ7,H7,I7,n7⟩:=q7;exact again I7 n7
  | cont=>obtain ⟨σ7,H7,I7,n7⟩:=q7;exact again I7 n7
  | brk=>obtain ⟨σ7,H7,I7,q7⟩:=q7;exact ⟨σ7,H7,I7.unpinned,q7⟩
  | ret v=>obtain ⟨x7,σ7,H7,I7,r7,q7⟩:=q7;exact ⟨x7,σ7,H7,I7.unpinned,r7,q7⟩
end
theorem iD {K:PySem.W.Frag} {a:Addr} {xs:List V} {g:TG} {tb:TS} {D:Ends} {σ:St} {H:Hp} (Pv:Nat→St→Hp→Prop) (h0:Pv 0 σ H) (hl:∀ i σ H,i≤xs.length→Pv i σ H→SqL K H a xs)
  (hs:∀ i x σ H,xs[i]? =some x→Pv i σ H→g x σ H fun σ2 H2=>tb {D with nx:=Pv (i + 1),ct:=Pv (i + 1),bk:=D.nx} σ2 H2) (hd:∀ σ H,Pv xs.length σ H→D.nx σ H):
  ∃ W:Nat→Nat→St→Hp→Prop,(∃ m,W 0 m σ H)∧∀ i m σ H,W i m σ H→
    ((Itl K a).stop i H∧D.nx σ H)∨((Itl K a).go i H∧∃ N:St→Hp→Prop,(∀ σ' H',N σ' H'→∃ m',m' < m∧W (i + 1) m' σ' H')∧∀ x H',(Itl K a).yld i H x H'→g x σ H' fun σ2 H2=>tb {D with nx:=N,ct:=N,bk:=D.nx} σ2 H2):=by
 refine ⟨fun i m σ H=>m=xs.length - i∧i≤xs.length∧Pv i σ H,⟨xs.length,by simp,Nat.zero_le _,h0⟩,?_⟩
 rintro i m σ H ⟨rfl,hi,p⟩
 have q:=hl i σ H hi p
 by_cases hlt:i < xs.length
 ·refine .inr ⟨⟨xs,xs[i],q,by simp [hlt]⟩,Pv (i + 1),fun σ' H' p'=>⟨xs.length - (i + 1),by omega,rfl,hlt,p'⟩,fun x H' y=>?_⟩
  obtain ⟨e,y⟩:=y
  subst e
  exact hs i x σ _ (y xs q) p
 ·have e:i=xs.length:=by omega
  subst e
  exact .inl ⟨⟨xs,q,Nat.le_refl _⟩,hd σ H p⟩
theorem oa {lo:Int} {n:Nat} {g:TG} {tb:TS} {D:Ends} {σ:St} {H:Hp} (Pv:Nat→St→Hp→Prop) (h0:Pv 0 σ H)
  (hs:∀ i σ H,i < n→Pv i σ H→g (.int (lo + i)) σ H fun σ2 H2=>tb {D with nx:=Pv (i + 1),ct:=Pv (i + 1),bk:=D.nx} σ2 H2) (hd:∀ σ H,Pv n σ H→D.nx σ H):
  ∃ W:Nat→Nat→St→Hp→Prop,(∃ m,W 0 m σ H)∧∀ i m σ H,W i m σ H→
    ((Itr lo n).stop i H∧D.nx σ H)∨((Itr lo n).go i H∧∃ N:St→Hp→Prop,(∀ σ' H',N σ' H'→∃ m',m' < m∧W (i + 1) m' σ' H')∧∀ x H',(Itr lo n).yld i H x H'→g x σ H' fun σ2 H2=>tb {D with nx:=N,ct:=N,bk:=D.nx} σ2 H2):=by
 refine ⟨fun i m σ H=>m=n - i∧i≤n∧Pv i σ H,⟨n,by simp,Nat.zero_le _,h0⟩,?_⟩
 rintro i m σ H ⟨rfl,hi,p⟩
 by_cases hlt:i < n
 ·refine .inr ⟨hlt,Pv (i + 1),fun σ' H' p'=>⟨n - (i + 1),by omega,rfl,hlt,p'⟩,fun x H' y=>?_⟩
  obtain ⟨e,y⟩:=y
  subst e y
  exact hs i σ _ hlt p
 ·have e:i=n:=by omega
  subst e
  exact .inl ⟨Nat.le_refl _,hd σ H p⟩
noncomputable abbrev R2:=V→V→Hp→VK→Prop
noncomputable def OpR (X:Cx) (f:Value→Value→Sem Value) (r:R2):Prop:=
 ∀ (pins:List (Addr×Obj)) (s:Shared) (σ:St) (H:Hp) (x y:V) (v u:Value) (Q:VK),Inv X pins σ H s→RelV x v→RelV y u→r x y H Q→
  wpAny (model X.prog X.w) X.A (f v u) (EP X pins σ Q) X.xe s
noncomputable def UnR (X:Cx) (f:Value→Sem Value) (r:V→Hp→VK→Prop):Prop:=
 ∀ (pins:List (Addr×Obj)) (s:Shared) (σ:St) (H:Hp) (x:V) (v:Value) (Q:VK),Inv X pins σ H s→RelV x v→r x H Q→
  wpAny (model X.prog X.w) X.A (f v) (EP X pins σ Q) X.xe s
noncomputable def mi (X:Cx) (f:Value) (r:List V→Hp→VK→Prop):Prop:=
 ∀ (pins:List (Addr×Obj)) (s:Shared) (σ:St) (H:Hp) (xs:List V) (us:List Value) (Q:VK),Inv X pins σ H s→Vals xs us→r xs H Q→
  wpAny (model X.prog X.w) X.A (call f us) (EP X pins σ Q) X.xe s
noncomputable abbrev tOp (r:R2) (ta tb:TE):TE:=fun σ H Q=>ta σ H fun x H1=>tb σ H1 fun y H2=>r x y H2 Q
noncomputable abbrev tUn (r:V→Hp→VK→Prop) (ta:TE):TE:=fun σ H Q=>ta σ H fun x H1=>r x H1 Q
noncomputable def rI (C:Int→Int→Prop) (g:Int→Int→V):R2:=fun x y H Q=>∃ i j,x= .int i∧y= .int j∧C i j∧Q (g i j) H
noncomputable def rI0 (g:Int→Int→V):R2:=fun x y H Q=>∃ i j,x= .int i∧y= .int j∧Q (g i j) H
noncomputable def rU (g:Int→V):V→Hp→VK→Prop:=fun x H Q=>∃ i,x= .int i∧Q (g i) H
section
variable {X:Cx} {a b c:Expr} {ta tb tc:TE} {pos:Pos}
theorem binT (ha:PE X a ta) (hb:PE X b tb) {pins:List (Addr×Obj)} {s:Shared} {σ:St} {H:Hp} {R:V→V→Hp→Prop} (I:Inv X pins σ H s)
  (h:ta σ H fun x H1=>tb σ H1 fun y H2=>R x y H2) {Q:Value→Shared→Prop} {f:Value→Value→Sem Value}
  (hf:∀ v u s2 x y H2,Inv X pins σ H2 s2→RelV x v→RelV y u→R x y H2→wpAny (model X.prog X.w) X.A (f v u) Q X.xe s2):
  wpAny (model X.prog X.w) X.A (eval a X.env) (fun v s₁=>wpAny (model X.prog X.w) X.A (eval b X.env) (fun u s₂=>wpAny (model X.prog X.w) X.A (f v u) Q X.xe s₂) X.xe s₁) X.xe s:=by
 refine thn (ha pins s σ H _ I h) fun v s1 ⟨x,H1,I1,r1,q1⟩=>?_
 refine thn (hb pins s1 σ H1 _ I1 q1) fun u s2 ⟨y,H2,I2,r2,q2⟩=>?_
 exact hf v u s2 x y H2 I2 r1 r2 q2
theorem ar {op:Operator} {r:R2} (ho:OpR X (binaryOp op) r) (ha:PE X a ta) (hb:PE X b tb):PE X (.BinOp a op b pos) (tOp r ta tb):=by
 intro pins s σ H Q I h
 exact wpAny_BinOp (binT ha hb I h fun v u s2 x y H2 I2 rx ry q=>ho pins s2 σ H2 x y v u Q I2 rx ry q)
theorem Rh {op:UnaryOp} {r:V→Hp→VK→Prop} (ho:UnR X (unaryOp op) r) (ha:PE X a ta):PE X (.UnaryOp op a pos) (tUn r ta):=by
 intro pins s σ H Q I h
 exact UnaryOp_ (thn (ha pins s σ H _ I h) fun v s1 ⟨x,H1,I1,r1,q1⟩=>ho pins s1 σ H1 x v Q I1 r1 q1)
theorem opI {f:Value→Value→Sem Value} {C:Int→Int→Prop} {g:Int→Int→Int}
  (rule:∀ (i j:Int) (t u:Tok) (s:Shared) (Q:Value→Shared→Prop) (E:Value→Shared→Prop),C i j→Q (.int (g i j) s.toks) {s with toks:=s.toks + 1}→wpAny (model X.prog X.w) X.A (f (.int i t) (.int j u)) Q E s):
  OpR X f (rI C fun i j=> .int (g i j)):=by
 intro pins s σ H x y v u Q I rx ry h
 obtain ⟨i,j,rfl,rfl,hc,q⟩:=h
 obtain ⟨t,rfl⟩:=rx
 obtain ⟨t',rfl⟩:=ry
 exact rule i j t t' s _ _ hc ⟨.int (g i j),H,I.tok _,⟨_,rfl⟩,q⟩
theorem opI0 {f:Value→Value→Sem Value} {g:Int→Int→Int}
  (rule:∀ (i j:Int) (t u:Tok) (s:Shared) (Q:Value→Shared→Prop) (E:Value→Shared→Prop),Q (.int (g i j) s.toks) {s with toks:=s.toks + 1}→wpAny (model X.prog X.w) X.A (f (.int i t) (.int j u)) Q E s):
  OpR X f (rI0 fun i j=> .int (g i j)):=by
 intro pins s σ H x y v u Q I rx ry h
 obtain ⟨i,j,rfl,rfl,q⟩:=h
 obtain ⟨t,rfl⟩:=rx
 obtain ⟨t',rfl⟩:=ry
 exact rule i j t t' s _ _ ⟨.int (g i j),H,I.tok _,⟨_,rfl⟩,q⟩
theorem opB0 {f:Value→Value→Sem Value} {g:Int→Int→Bool}
  (rule:∀ (i j:Int) (t u:Tok) (s:Shared) (Q:Value→Shared→Prop) (E:Value→Shared→Prop),Q (.bool (g i j)) s→wpAny (model X.prog X.w) X.A (f (.int i t) (.int j u)) Q E s):
  OpR X f (rI0 fun i j=> .bl (g i j)):=by
 intro pins s σ H x y v u Q I rx ry h
 obtain ⟨i,j,rfl,rfl,q⟩:=h
 obtain ⟨t,rfl⟩:=rx
 obtain ⟨t',rfl⟩:=ry
 exact rule i j t t' s _ _ ⟨.bl (g i j),H,I,rfl,q⟩
noncomputable def CDiv (i j:Int):Prop:=0 < j∧j < 1073741824
noncomputable def Td (i j:Int):Prop:=j≠0∧j.natAbs < 1073741824
noncomputable def CPow (i j:Int):Prop:=0≤j∧j≤1000000∧i.natAbs < 2 ^ 64
noncomputable def CMul (i j:Int):Prop:=(-(2 ^ 64) < i∧i < 2 ^ 64)∨(-(2 ^ 64) < j∧j < 2 ^ 64)
theorem CMul.ok {i j:Int} (h:CMul i j):IntMulOk i j:=by
 rcases h with ⟨h1,h2⟩ | ⟨h1,h2⟩
 ·exact .of_left (intBits_le_64 h1 h2)
 ·exact .of_right (intBits_le_64 h1 h2)
theorem Gj (k:Nat):(0:Int)≤2 ^ k:=by
 rw [two_pow_cast]
 exact Int.natCast_nonneg _
theorem cX:OpR X (binaryOp .Add) (rI0 fun i j=> .int (i + j)):=opI0 fun _ _ _ _ _ _ _ q=>add_int q
theorem uf:OpR X (binaryOp .Sub) (rI0 fun i j=> .int (i - j)):=opI0 fun _ _ _ _ _ _ _ q=>sub_int q
theorem nQ:OpR X (binaryOp .Mult) (rI CMul fun i j=> .int (i * j)):=opI fun _ _ _ _ _ _ _ hc q=>mul_int q hc.ok
theorem gD:OpR X (binaryOp .FloorDiv) (rI CDiv fun i j=> .int (i / j)):=opI fun i j _ _ _ _ _ hc q=>by
 have h1:(0:Int) < j:=hc.1
 have h2:j < 1073741824:=hc.2
 exact floordiv_int (by omega) (by rw [Int.fdiv_eq_ediv_of_nonneg i (by omega)];exact q) (.inl (PyProof.noPylong_small (by omega)))
theorem bZ:OpR X (binaryOp .Mod) (rI (fun _ j=>0 < j) fun i j=> .int (i % j)):=opI fun i j _ _ _ _ _ hc q=>by
 have h1:(0:Int) < j:=hc
 exact mod_int' (by omega) (by rw [Int.fmod_eq_emod_of_nonneg i (by omega)];exact q)
theorem gq:OpR X (binaryOp .LShift) (rI CPow fun i j=> .int (i * 2 ^ j.toNat)):=opI fun _ _ _ _ _ _ _ hc q=>lshift_int_small hc.1 hc.2.1 hc.2.2 q
theorem FP:OpR X (binaryOp .RShift) (rI (fun _ j=>0≤j) fun i j=> .int (i / 2 ^ j.toNat)):=opI fun i j _ _ _ _ _ hc q=>
 rshift_int hc (by rw [Int.fdiv_eq_ediv_of_nonneg i (Gj _)];exact q)
theorem ji:OpR X (binaryOp .BitAnd) (rI0 fun i j=> .int (Builtin.bitAnd i j)):=opI0 fun _ _ _ _ _ _ _ q=>and_int q
theorem hX:OpR X (binaryOp .BitXor) (rI0 fun i j=> .int (Builtin.bitXor i j)):=opI0 fun _ _ _ _ _ _ _ q=>xor_int q
theorem unI {f:Value→Sem Value} {g:Int→Int}
  (rule:∀ (i:Int) (t:Tok) (s:Shared) (Q:Value→Shared→Prop) (E:Value→Shared→Prop),Q (.int (g i) s.toks) {s with toks:=s.toks + 1}→wpAny (model X.prog X.w) X.A (f (.int i t)) Q E s):
  UnR X f (rU fun i=> .int (g i)):=by
 intro pins s σ H x v Q I rx h
 obtain ⟨i,rfl,q⟩:=h
 obtain ⟨t,rfl⟩:=rx
 exact rule i t s _ _ ⟨.int (g i),H,I.tok _,⟨_,rfl⟩,q⟩
theorem Nq:UnR X (unaryOp .USub) (rU fun i=> .int (-i)):=unI fun _ _ _ _ _ q=>neg_int q
end
noncomputable def scal:V→V→Bool
 | .non,.non=>true | .non,.int _=>true | .int _,.non=>true | .non,.bl _=>true | .bl _,.non=>true | .non,.str _=>true | .str _,.non=>true
 | .int _,.int _=>true | .bl _,.bl _=>true | .str _,.str _=>true | .byt _,.byt _=>true
 | .int _,.str _=>true | .str _,.int _=>true | .bl _,.str _=>true | .str _,.bl _=>true
 | _,_=>false
noncomputable def rEq:R2:=fun x y H Q=>scal x y=true∧Q (.bl (decide (x=y))) H
noncomputable def rNe:R2:=fun x y H Q=>scal x y=true∧Q (.bl (!decide (x=y))) H
theorem KZ {i j:Int}:decide (V.int i=V.int j)=(i == j):=by
 rw [Bool.eq_iff_iff]
 simp
theorem N5 {i j:Bool}:decide (V.bl i=V.bl j)=(i == j):=by
 rw [Bool.eq_iff_iff]
 simp
theorem KY {i j:Str}:decide (V.str i=V.str j)=(i == j):=by
 rw [Bool.eq_iff_iff]
 simp
theorem K0 {i j:Array UInt8}:decide (V.byt i=V.byt j)=(i.toList == j.toList):=by
 rw [Bool.eq_iff_iff]
 cases i
 cases j
 simp
section
variable {X:Cx} {a b c:Expr} {ta tb tc:TE} {pos:Pos}
theorem b9 {pins:List (Addr×Obj)} {σ:St} {H:Hp} {s:Shared} {Q:VK} {k k':Bool} (I:Inv X pins σ H s) (q:Q (.bl k) H) (e:k=k'):EP X pins σ Q (.bool k') s:=by
 subst e
 exact ⟨.bl k,H,I,rfl,q⟩
theorem jh:OpR X (compareOp .Eq) rEq:=by
 intro pins s σ H x y v u Q I rx ry h
 obtain ⟨hs,q⟩:=h
 cases x with
 | non=>
   cases rx
   cases y with
   | non=>cases ry;exact PySem.EqNone.eq_none_none (b9 I q (by simp))
   | bl j=>cases ry;exact PySem.EqNone.eq_none_bool (b9 I q (by simp))
   | int j=>obtain ⟨t',rfl⟩:=ry;exact PySem.EqNone.eq_none_int (b9 I q (by simp))
   | str j=>obtain ⟨t',rfl⟩:=ry;exact PySem.EqNone.eq_none_str (b9 I q (by simp))
   | _=>exact absurd (show false=true from hs) Bool.false_ne_true
 | bl i=>
   cases rx
   cases y with
   | non=>cases ry;exact PySem.EqNone.eq_bool_none (b9 I q (by simp))
   | bl j=>cases ry;exact eq_bool (b9 I q N5)
   | str j=>obtain ⟨t',rfl⟩:=ry;exact PySem.EqMixed.eq_bool_str (b9 I q (by simp))
   | _=>exact absurd (show false=true from hs) Bool.false_ne_true
 | int i=>
   obtain ⟨t,rfl⟩:=rx
   cases y with
   | non=>cases ry;exact PySem.EqNone.eq_int_none (b9 I q (by simp))
   | int j=>obtain ⟨t',rfl⟩:=ry;exact eq_int (b9 I q KZ)
   | str j=>obtain ⟨t',rfl⟩:=ry;exact PySem.EqMixed.eq_int_str (b9 I q (by simp))
   | _=>exact absurd (show false=true from hs) Bool.false_ne_true
 | str i=>
   obtain ⟨t,rfl⟩:=rx
   cases y with
   | non=>cases ry;exact PySem.EqNone.eq_str_none (b9 I q (by simp))
   | bl j=>cases ry;exact PySem.EqMixed.eq_str_bool (b9 I q (by simp))
   | int j=>obtain ⟨t',rfl⟩:=ry;exact PySem.EqMixed.eq_str_int (b9 I q (by simp))
   | str j=>obtain ⟨t',rfl⟩:=ry;exact eq_str (b9 I q KY)
   | _=>exact absurd (show false=true from hs) Bool.false_ne_true
 | byt i=>
   obtain ⟨t,rfl⟩:=rx
   cases y with
   | byt j=>obtain ⟨t',rfl⟩:=ry;exact PySem.W.eq_bytes (b9 I q K0)
   | _=>exact absurd (show false=true from hs) Bool.false_ne_true
 | _=>cases y<;>exact absurd (show false=true from hs) Bool.false_ne_true
theorem DP:OpR X (compareOp .NotEq) rNe:=by
 intro pins s σ H x y v u Q I rx ry h
 obtain ⟨hs,q⟩:=h
 cases x with
 | non=>
   cases rx
   cases y with
   | non=>cases ry;exact PySem.EqNone.ne_none_none (b9 I q (by simp))
   | bl j=>cases ry;exact PySem.EqNone.ne_none_bool (b9 I q (by simp))
   | int j=>obtain ⟨t',rfl⟩:=ry;exact PySem.EqNone.ne_none_int (b9 I q (by simp))
   | str j=>obtain ⟨t',rfl⟩:=ry;exact PySem.EqNone.ne_none_str (b9 I q (by simp))
   | _=>exact absurd (show false=true from hs) Bool.false_ne_true
 | bl i=>
   cases rx
   cases y with
   | non=>cases ry;exact PySem.EqNone.ne_bool_none (b9 I q (by simp))
   | bl j=>cases ry;exact ne_bool (b9 I q (congrArg not N5))
   | str j=>obtain ⟨t',rfl⟩:=ry;exact PySem.EqMixed.ne_bool_str (b9 I q (by simp))
   | _=>exact absurd (show false=true from hs) Bool.false_ne_true
 | int i=>
   obtain ⟨t,rfl⟩:=rx
   cases y with
   | non=>cases ry;exact PySem.EqNone.ne_int_none (b9 I q (by simp))
   | int j=>obtain ⟨t',rfl⟩:=ry;exact ne_int (b9 I q (congrArg not KZ))
   | str j=>obtain ⟨t',rfl⟩:=ry;exact PySem.EqMixed.ne_int_str (b9 I q (by simp))
   | _=>exact absurd (show false=true from hs) Bool.false_ne_true
 | str i=>
   obtain ⟨t,rfl⟩:=rx
   cases y with
   | non=>cases ry;exact PySem.EqNone.ne_str_none (b9 I q (by simp))
   | bl j=>cases ry;exact PySem.EqMixed.ne_str_bool (b9 I q (by simp))
   | int j=>obtain ⟨t',rfl⟩:=ry;exact PySem.EqMixed.ne_str_int (b9 I q (by simp))
   | str j=>obtain ⟨t',rfl⟩:=ry;exact ne_str (b9 I q (congrArg not KY))
   | _=>exact absurd (show false=true from hs) Bool.false_ne_true
 | byt i=>
   obtain ⟨t,rfl⟩:=rx
   cases y with
   | byt j=>obtain ⟨t',rfl⟩:=ry;exact PySem.W.ne_bytes (b9 I q (congrArg not K0))
   | _=>exact absurd (show false=true from hs) Bool.false_ne_true
 | _=>cases y<;>exact absurd (show false=true from hs) Bool.false_ne_true
theorem Pa:OpR X (compareOp .Lt) (rI0 fun i j=> .bl (decide (i < j))):=opB0 fun _ _ _ _ _ _ _ q=>lt_int q
theorem Ro:OpR X (compareOp .LtE) (rI0 fun i j=> .bl (decide (i≤j))):=opB0 fun _ _ _ _ _ _ _ q=>le_int q
theorem ug:OpR X (compareOp .Gt) (rI0 fun i j=> .bl (decide (j < i))):=opB0 fun _ _ _ _ _ _ _ q=>gt_int q
theorem Pb:OpR X (compareOp .GtE) (rI0 fun i j=> .bl (decide (j≤i))):=opB0 fun _ _ _ _ _ _ _ q=>ge_int q
theorem aL (b:Expr) {op:CmpOp} (h:op≠.In:=by decide) (h2:op≠.NotIn:=by decide):behindInMarks op b=false:=by
 have e1:(op == CmpOp.In)=false:=by cases op<;>first | rfl | exact absurd rfl h
 have e2:(op == CmpOp.NotIn)=false:=by cases op<;>first | rfl | exact absurd rfl h2
 cases b<;>simp [behindInMarks,e1,e2]
theorem dw {op:CmpOp} {r:R2} (ho:OpR X (compareOp op) r) (ha:PE X a ta) (hb:PE X b tb) (hm:behindInMarks op b=false):PE X (.Compare a [op] [b] pos) (tOp r ta tb):=by
 intro pins s σ H Q I h
 exact wpAny_Compare1 (binT ha hb I h fun v u s2 x y H2 I2 rx ry q=>ho pins s2 σ H2 x y v u Q I2 rx ry q) hm
noncomputable abbrev Qm (t:TE):TT:=fun σ H Q=>t σ H fun x H'=>∃ k,x= .bl k∧Q k H'
theorem aP {op:CmpOp} {r:R2} (ho:OpR X (compareOp op) r) (ha:PE X a ta) (hb:PE X b tb) (hm:behindInMarks op b=false):PT X (.Compare a [op] [b] pos) (Qm (tOp r ta tb)):=by
 intro pins s σ H Q I h
 refine wpAny_isTrue_Compare1 (thn (ha pins s σ H _ I h) fun v s1 ⟨x,H1,I1,r1,q1⟩=>thn (hb pins s1 σ H1 _ I1 q1) fun u s2 ⟨y,H2,I2,r2,q2⟩=>
  thn (ho pins s2 σ H2 x y v u _ I2 r1 r2 q2) fun c s3 ⟨z,H3,I3,r3,k,e,q3⟩=>?_) hm
 subst e
 cases r3
 exact wpAny_truthy_bool ⟨H3,I3,q3⟩
noncomputable abbrev Qq (r r':R2) (ta tb tc:TE):TE:=fun σ H Q=>ta σ H fun x H1=>tb σ H1 fun y H2=>r x y H2 fun z H3=>∃ k,z= .bl k∧
 (if k=true then tc σ H3 fun w' H4=>r' y w' H4 Q else Q (.bl false) H3)
theorem MA {op op':CmpOp} {r r':R2} (ho:OpR X (compareOp op) r) (ho':OpR X (compareOp op') r') (ha:PE X a ta) (hb:PE X b tb) (hc:PE X c tc)
  (hm:lastMarks [op,op'] [b,c]=false:=by with_unfolding_all rfl):PE X (.Compare a [op,op'] [b,c] pos) (Qq r r' ta tb tc):=by
 intro pins s σ H Q I h
 refine Compare_chain (thn (ha pins s σ H _ I h) fun v s1 ⟨x,H1,I1,r1,q1⟩=>chain_link (thn (hb pins s1 σ H1 _ I1 q1) fun u s2 ⟨y,H2,I2,r2,q2⟩=>
  thn (ho pins s2 σ H2 x y v u _ I2 r1 r2 q2) fun d s3 ⟨z,H3,I3,r3,k,e,q3⟩=>?_)) hm
 subst e
 cases r3
 refine wpAny_truthy_bool ?_
 cases k with
 | false=>exact ite_ff ⟨.bl false,H3,I3,rfl,q3⟩
 | true=>exact ite_tt (chain_last (thn (hc pins s3 σ H3 _ I3 q3) fun w' s4 ⟨z',H4,I4,r4,q4⟩=>ho' pins s4 σ H4 y z' u w' Q I4 r2 r4 q4))
theorem FS:(sizeLine:Nat) < 2 ^ 63:=by rw [sizeLine_eq];decide
theorem IW {x:V} {us:List Value} (r:Vals [x] us):∃ u,us=[u]∧RelV x u:=by
 cases r with
 | cons r1 r2=>cases r2;exact ⟨_,rfl,r1⟩
theorem LL {x y:V} {us:List Value} (r:Vals [x,y] us):∃ u w',us=[u,w']∧RelV x u∧RelV y w':=by
 cases r with
 | cons r1 r2=>
   cases r2 with
   | cons r3 r4=>cases r4;exact ⟨_,_,rfl,r1,r3⟩
noncomputable def LenV (K:PySem.W.Frag) (x:V) (H:Hp) (n:Nat):Prop:=
 match x with
 | .str y=>y.length≤sizeLine∧n=y.length
 | .byt y=>y.size≤sizeLine∧n=y.size
 | .ref p=>(∃ xs,SqL K H p xs∧n=xs.length)∨∃ xs,SqT K H p xs∧n=xs.length
 | _=>False
theorem Nf:mi X (.builtin "len") (fun xs H Q=>∃ x n,xs=[x]∧LenV X.K x H n∧Q (.int n) H):=by
 intro pins s σ H xs us Q I r h
 obtain ⟨x,n,rfl,e,q⟩:=h
 obtain ⟨u,rfl,rx⟩:=IW r
 have hl:=FS
 have hs:sizeLine=16777216:=sizeLine_eq
 cases x with
 | str y=>
   obtain ⟨t,rfl⟩:=rx
   obtain ⟨hy,e'⟩:y.length≤sizeLine∧n=y.length:=e
   subst e'
   exact len_str (by omega) ⟨.int _,H,I.tok _,⟨_,rfl⟩,q⟩
 | byt y=>
   obtain ⟨t,rfl⟩:=rx
   obtain ⟨hy,e'⟩:y.size≤sizeLine∧n=y.size:=e
   subst e'
   exact PySem.W.len_bytes (by omega) ⟨.int _,H,I.tok _,⟨_,rfl⟩,q⟩
 | ref p=>
   cases rx
   have e':(∃ xs,SqL X.K H p xs∧n=xs.length)∨∃ xs,SqT X.K H p xs∧n=xs.length:=e
   rcases e' with ⟨xs,hx,e'⟩ | ⟨xs,hx,e'⟩
   ·subst e'
    obtain ⟨its,r',pl,hz⟩:=I.list hx
    have hlen:=r'.length
    exact Calls.call_len_list pl.isList (by simp only [List.size_toArray];omega) ⟨.int xs.length,H,I.tok _,⟨_,by simp only [List.size_toArray];rw [hlen]⟩,q⟩
   ·subst e'
    obtain ⟨its,r',pl,hz⟩:=I.tuple hx
    have hlen:=r'.length
    exact len_tuple pl (by simp only [List.size_toArray];omega) ⟨.int xs.length,H,I.tok _,⟨_,by simp only [List.size_toArray];rw [hlen]⟩,q⟩
 | _=>exact (show False from e).elim
theorem EU:mi X (.builtin "divmod") (fun xs H Q=>∃ i j,xs=[.int i,.int j]∧CDiv i j∧∀ p,H p=none→Q (.ref p) (upd H p (.tup [.int (i / j),.int (i % j)]))):=by
 intro pins s σ H xs us Q I r h
 obtain ⟨i,j,rfl,⟨h1,h2⟩,q⟩:=h
 obtain ⟨u,w',rfl,⟨t,rfl⟩,⟨t',rfl⟩⟩:=LL r
 refine divmod_int (by omega) ?_ (.inl (PyProof.noPylong_small (by omega)))
 rw [Int.fdiv_eq_ediv_of_nonneg i (by omega),Int.fmod_eq_emod_of_nonneg i (by omega)]
 have hn:H s.heap.objs.size=none:=I.hok.fresh (Nat.le_refl _)
 refine ⟨.ref s.heap.objs.size,_,?_,rfl,q _ hn⟩
 refine I.laid (fun b o e=>Heap.get?_push_of_some _ e) (Nat.le_refl _) ⟨by simp only [List.length_cons,List.length_nil];rw [sizeLine_eq];decide,[.int (i / j) s.toks,.int (i % j) (s.toks + 1)],.cons ⟨_,rfl⟩ (.cons ⟨_,rfl⟩ .nil),?_⟩
 exact ⟨_,Heap.get?_push_size s.heap rfl,rfl,0,rfl⟩
end
structure ObjM (h:Heap) (x dx C:Addr) (mA:Str→Option Value):Prop where
 obj:h.get? x=some (PySem.W.instObj C dx)
 ns:h.Ns1 dx mA
 ne:dx≠x
theorem Kf {h:Heap} {dx:Addr} {mA:Str→Option Value} (n:h.Ns1 dx mA):∃ od,h.get? dx=some od∧∀ name,PySem.W.lookIn name od=some (mA name):=by
 obtain ⟨o,es,ep,ho,hd,hk,_,hm⟩:=n
 refine ⟨o,ho,fun name=>?_⟩
 have e:=hm name
 unfold nsFind findBy at e
 rw [← Array.find?_toList] at e
 unfold PySem.W.lookIn
 rw [hd]
 dsimp only
 split
 ·rename_i y q
  rw [q] at e
  exact congrArg some e
 ·rename_i q
  rw [q] at e
  have a:es.toList.any (·.refKey)=false:=by
   rw [List.any_eq_false]
   intro y hy
   obtain ⟨z,t,hkey⟩:=hk y (Array.mem_toList_iff.mp hy)
   simp [DictEntry.refKey,hkey]
  have a':¬ es.toList.any (·.refKey)=true:=by rw [a];exact Bool.false_ne_true
  rw [if_neg a']
  exact congrArg some e
theorem ObjM.look {h:Heap} {x dx C:Addr} {mA:Str→Option Value} (I:ObjM h x dx C mA):∃ od,PySem.W.InstAt h x (PySem.W.instObj C dx) C (some od)∧∀ name,PySem.W.lookIn name od=some (mA name):=
 let ⟨od,ho,hl⟩:=Kf I.ns
 ⟨od,⟨I.obj,rfl,rfl,ho⟩,hl⟩
section
variable {prog:Program} {w:World} {A:Around} {E:Value→Shared→Prop} {s:Shared} {K:PySem.W.Frag} {x dx C f:Addr} {mA:Str→Option Value} {name:Str} {v:Value}
theorem bH {expr:Bool} {Q:Value→Shared→Prop} (X:K.In s.heap) (I:ObjM s.heap x dx C mA) (hg:PySem.W.plainGet K C name=true) (hh:PySem.W.hasDictIn K C=true)
  (ha:PySem.W.findIn K (.ref C) name=some none) (hv:mA name=some v) (hv':PySem.W.handedIn v=true) (h:Q v {s with toks:=s.toks + 1}):
  wpAny (model prog w) A (getAttr (.ref x) name expr) Q E s:=by
 obtain ⟨od,J,hl⟩:=I.look
 exact PySem.W.get_value X J (PySem.W.plainGet_of hg).1 (PySem.W.findObj_own hh ha rfl (by rw [hl,hv])) hv' h
theorem MY {pl:Sem Bool} {Q:Value×List Value→Shared→Prop} (X:K.In s.heap) (I:ObjM s.heap x dx C mA) (hg:PySem.W.plainGet K C name=true)
  (hf:PySem.W.findIn K (.ref C) name=some (some (.ref f))) (ht:PySem.W.isFn K (.ref f)=true) (hv:mA name=none) (h:Q (.ref f,[.ref x]) s):
  wpAny (model prog w) A (getMethod (.ref x) name pl) Q E s:=by
 obtain ⟨od,J,hl⟩:=I.look
 exact PySem.W.method_fn X J (PySem.W.plainGet_of hg).1 (PySem.W.plainGet_of hg).2 hf (beq_iff_eq.mp ht) (by show (PySem.W.lookIn name od).map (·.isSome)=some false;rw [hl,hv];rfl) h
theorem OF {ns:List Str} {Q:Unit→Shared→Prop} (X:K.In s.heap) (I:ObjM s.heap x dx C mA)
  (hs:PySem.W.findIn K (.ref C) "__setattr__"=some (some (.builtin "object.__setattr__"))) (hp:PySem.W.plainOver K C=true) (ht:PySem.W.takerIn K C name=some none) (hh:PySem.W.hasDictIn K C=true)
  (hw:PySem.Within mA ns) (hsz:ns.length≤sizeLine)
  (h:∀ h',ObjM h' x dx C (fun y=>if y=name then some v else mA y)→Heap.SameBut dx s.heap h'→Q () {s with heap:=h',toks:=s.toks + 2}):
  wpAny (model prog w) A (setAttr (.ref x) name v) Q E s:=by
 obtain ⟨od,J,hl⟩:=I.look
 refine PySem.W.set_plain X J hs (PySem.W.osa_open (s:={s with toks:=s.toks + 1}) (r:=none) X J hp ht fun b=>?_)
 obtain ⟨cd,hc,hd'⟩:=PySem.W.any_some hh
 have hx:s.heap.get? x=some ⟨.ref C,some dx,.plain,#[]⟩:=I.obj
 refine wpAny_bind (wpAny_pure (wpAny_bind (wpAny_bind (wpAny_loadPart hx (wpAny_bind (PySem.W.Looks.here (s:={s with toks:=s.toks + 1}) (PySem.W.looks_clsIn X hc) ?_))))))
 rw [hd']
 refine wpAny_pure (a:=some dx) (wpAny_bind (wpAny_pure (wpAny_bind ?_)))
 refine wpAny_nsSet1 (s:={s with toks:=s.toks + 1}) I.ns fun h' hn2 hs2=>?_
 obtain ⟨oD,esD,epD,hoD,hdD,hcD⟩:=hn2.count (PySem.Within.cons name v hw)
 refine wpAny_bind (wpAny_lookBehind hoD (by rw [hdD];exact pastItsLine_dict (Nat.le_trans hcD (by rw [List.length_cons];omega))) ?_)
 exact wpAny_pure (h _ ⟨(hs2.2 _ (Ne.symm I.ne)).trans I.obj,hn2,I.ne⟩ hs2)
theorem ML {R:Result→Shared→Prop} {vs:List Value} {kw:List (Str×Value)} (X:K.In s.heap) (hm:PySem.W.makesIn K C=true)
  (hi:PySem.W.findIn K (.ref C) "__init__"=some (some (.ref f))) (hf:PySem.W.typeIn K (.ref f)=some (.type "function"))
  (h:codeAny (model prog w) (A.under (.builtin "type.__call__" ⟨.ref C::vs,kw⟩)) (.call (.ref f) ⟨.ref (s.heap.objs.size + 1)::vs,kw⟩) (PySem.W.InitBack (s.heap.objs.size + 1) R)
   {s with heap:=(s.heap.push PySem.W.emptyDict).push (PySem.W.instObj C s.heap.objs.size)}):
  codeAny (model prog w) A (.call (.ref C) ⟨vs,kw⟩) R s:=by
 obtain ⟨hh,g,d,t,os⟩:=s
 exact PySem.W.make_core (PySem.W.makes_of X hm) (PySem.W.looks_findIn X hi) (fun self=>PySem.W.bind_fn X self hf) (.inl rfl) h
end
noncomputable def putF (f:Str) (v:V):List (Str×V)→List (Str×V)
 | []=>[(f,v)]
 | (g,x)::r=>if g=f then (g,v)::r else (g,x)::putF f v r
theorem uK (f g:Str) (v:V):∀ fs:List (Str×V),(putF f v fs).lookup g=if g=f then some v else fs.lookup g
 | []=>by
   show List.lookup g [(f,v)]=_
   by_cases h:g=f
   ·have hb:(g == f)=true:=beq_iff_eq.mpr h
    simp only [List.lookup,hb,if_pos h]
   ·have hb:(g == f)=false:=beq_eq_false_iff_ne.mpr h
    simp only [List.lookup,hb,if_neg h]
 | (k,x)::r=>by
   have ih:=uK f g v r
   rw [show putF f v ((k,x)::r)=(if k=f then (k,v)::r else (k,x)::putF f v r) from rfl]
   by_cases hk:k=f
   ·rw [if_pos hk]
    by_cases h:g=k
    ·have hb:(g == k)=true:=beq_iff_eq.mpr h
     simp only [List.lookup,hb,if_pos (h.trans hk)]
    ·have hb:(g == k)=false:=beq_eq_false_iff_ne.mpr h
     simp only [List.lookup,hb,if_neg (fun e:g=f=>h (e.trans hk.symm))]
   ·rw [if_neg hk]
    by_cases h:g=k
    ·have hb:(g == k)=true:=beq_iff_eq.mpr h
     simp only [List.lookup,hb,if_neg (fun e:g=f=>hk (h.symm.trans e))]
    ·have hb:(g == k)=false:=beq_eq_false_iff_ne.mpr h
     simp only [List.lookup,hb]
     exact ih
theorem uX (f:Str) (v:V):∀ fs:List (Str×V),f∈(putF f v fs).map (·.1)∧∀ g,g∈fs.map (·.1)→g∈(putF f v fs).map (·.1)
 | []=>⟨by simp [putF],fun g h=>by simp at h⟩
 | (k,x)::r=>by
   obtain ⟨i1,i2⟩:=uX f v r
   rw [show putF f v ((k,x)::r)=(if k=f then (k,v)::r else (k,x)::putF f v r) from rfl]
   by_cases hk:k=f
   ·rw [if_pos hk]
    subst hk
    exact ⟨by simp,fun g h=>by simpa using h⟩
   ·rw [if_neg hk]
    refine ⟨?_,fun g h=>?_⟩
    ·rw [List.map_cons]
     exact List.mem_cons_of_mem _ i1
    ·rw [List.map_cons] at h ⊢
     rcases List.mem_cons.mp h with e | e
     ·exact List.mem_cons.mpr (.inl e)
     ·exact List.mem_cons_of_mem _ (i2 g e)
theorem uN (f:Str) (v:V):∀ fs:List (Str×V),(putF f v fs).length≤fs.length + 1
 | []=>by simp [putF]
 | (k,x)::r=>by
   have ih:=uN f v r
   rw [show putF f v ((k,x)::r)=(if k=f then (k,v)::r else (k,x)::putF f v r) from rfl]
   by_cases hk:k=f
   ·rw [if_pos hk,List.length_cons,List.length_cons];omega
   ·rw [if_neg hk,List.length_cons,List.length_cons];omega
theorem RelO.some_of {v:V} {o:Option Value} (r:RelO (some v) o):∃ u,o=some u∧RelV v u:=by
 cases o with
 | none=>exact (show False from r).elim
 | some u=>exact ⟨u,rfl,r⟩
theorem RelO.none_of {o:Option Value} (r:RelO none o):o=none:=by
 cases o with
 | none=>rfl
 | some u=>exact (show False from r).elim
theorem KC {v:V} {u:Value} (r:RelV v u):PySem.W.handedIn u=true:=by
 cases v with
 | non=>cases (show u=Value.none from r);rfl
 | bl b=>cases (show u=Value.bool b from r);rfl
 | int i=>obtain ⟨t,e⟩:=(show ∃ t,u=Value.int i t from r);cases e;rfl
 | str x=>obtain ⟨t,e⟩:=(show ∃ t,u=Value.str x t from r);cases e;rfl
 | byt b=>obtain ⟨t,e⟩:=(show ∃ t,u=Value.bytes b t from r);cases e;rfl
 | flt b=>obtain ⟨t,e⟩:=(show ∃ t,u=Value.float b t from r);cases e;rfl
 | ref a=>cases (show u=Value.ref a from r);rfl
 | ty n=>cases (show u=Value.type n from r);rfl
section
variable {P:Program} {w:World} {H H':Hp} {h h':Heap} {a C dx:Addr} {fs fs':List (Str×V)}
theorem Ey (hok:HOk P w H h) (e:H a=some (.ins C dx fs)):∃ mA,ObjM h a dx C mA∧(∀ f,RelO (fs.lookup f) (mA f))∧PySem.Within mA (fs.map (·.1))∧fs.length≤1000∧H dx=some (.own a):=by
 obtain ⟨d,z,ne,ob,mA,n,r,q⟩:=(show fm P w H h a (.ins C dx fs) from hok a _ e)
 exact ⟨mA,⟨ob,n,ne⟩,r,q,z,d⟩
end
structure Cls (K:PySem.W.Frag) (C:Addr):Prop where
 pg:PySem.W.plainGet K C Str.empty=true
 hd:PySem.W.hasDictIn K C=true
 po:PySem.W.plainOver K C=true
 sa:PySem.W.findIn K (.ref C) "__setattr__"=some (some (.builtin "object.__setattr__"))
theorem Cls.get {K:PySem.W.Frag} {C:Addr} (c:Cls K C) (f:Str):PySem.W.plainGet K C f=true:=c.pg
noncomputable def dS (K:PySem.W.Frag) (C:Addr) (f:Str):Prop:=PySem.W.findIn K (.ref C) f=some none
theorem dS.taker {K:PySem.W.Frag} {C:Addr} {f:Str} (n:dS K C f):PySem.W.takerIn K C f=some none:=by
 unfold PySem.W.takerIn
 rw [show PySem.W.findIn K (.ref C) f=some none from n]
 rfl
structure Con (K:PySem.W.Frag) (C:Addr) (f:Str) (v:V) (u:Value):Prop where
 at_:PySem.W.findIn K (.ref C) f=some (some u)
 rel:RelV v u
 get:PySem.W.specialIn K u "__get__"=some none
 cp:PySem.W.copiedNames.contains f=false
structure Meth (K:PySem.W.Frag) (C:Addr) (m:Str) (f:Addr):Prop where
 at_:PySem.W.findIn K (.ref C) m=some (some (.ref f))
 fn:PySem.W.isFn K (.ref f)=true
 kp:PySem.W.keepIn K (.ref f)=true
section
variable {X:Cx} {pins:List (Addr×Obj)} {σ:St} {H:Hp} {s:Shared} {a C dx:Addr} {fs:List (Str×V)} {f:Str} {v:V} {A:Around} {E:Value→Shared→Prop}
theorem Hy {b:Bool} {Q:Value→Shared→Prop} (I:Inv X pins σ H s) (e:H a=some (.ins C dx fs)) (c:Cls X.K C) (n:dS X.K C f) (l:fs.lookup f=some v)
  (h:∀ u s',Inv X pins σ H s'→RelV v u→Q u s'):wpAny (model X.prog X.w) A (getAttr (.ref a) f b) Q E s:=by
 obtain ⟨mA,O,r,_,_,_⟩:=Ey I.hok e
 obtain ⟨u,hu,ru⟩:=RelO.some_of (v:=v) (o:=mA f) (by rw [← l];exact r f)
 exact bH I.kIn O (c.get f) c.hd n hu (KC ru) (h u _ (I.tok _) ru)
theorem qg {m:Str} {g:Addr} {pl:Sem Bool} {Q:Value×List Value→Shared→Prop} (I:Inv X pins σ H s) (e:H a=some (.ins C dx fs)) (c:Cls X.K C) (k:Meth X.K C m g) (l:fs.lookup m=none)
  (h:Q (.ref g,[.ref a]) s):wpAny (model X.prog X.w) A (getMethod (.ref a) m pl) Q E s:=by
 obtain ⟨mA,O,r,_,_,_⟩:=Ey I.hok e
 have hn:mA m=none:=RelO.none_of (by rw [← l];exact r m)
 exact MY I.kIn O (c.get m) k.at_ k.fn hn h
theorem GD {y:V} {u:Value} {Q:Unit→Shared→Prop} (I:Inv X pins σ H s) (e:H a=some (.ins C dx fs)) (c:Cls X.K C) (n:dS X.K C f) (hl:fs.length < 1000) (ry:RelV y u)
  (h:∀ s',Inv X pins σ (upd H a (.ins C dx (putF f y fs))) s'→Q () s'):wpAny (model X.prog X.w) A (setAttr (.ref a) f u) Q E s:=by
 obtain ⟨mA,O,r,wi,_,ho⟩:=Ey I.hok e
 have hz:(fs.map (·.1)).length≤sizeLine:=by rw [List.length_map,sizeLine_eq];omega
 refine OF I.kIn O c.sa c.po n.taker c.hd wi hz fun h' O' sb=>h _ ?_
 have hd:∃ o,h'.get? dx=some o:=let ⟨o,_,_,e',_⟩:=O'.ns;⟨o,e'⟩
 refine I.write (x:=a) (e:=dx) (by rw [e];exact True.intro) (.inr ho) (fun b q hb z=>(sb.2 b hb).trans z) hd ?_
 refine ⟨by rw [aV O.ne];exact ho,?_,O.ne,O'.obj,_,O'.ns,fun g=>?_,fun g hg=>?_⟩
 ·have:=uN f y fs;omega
 ·show RelO ((putF f y fs).lookup g) (if g=f then some u else mA g)
  rw [uK]
  by_cases q:g=f
  ·rw [if_pos q,if_pos q];exact ry
  ·rw [if_neg q,if_neg q];exact r g
 ·by_cases q:g=f
  ·rw [q];exact (uX f y fs).1
  ·refine (uX f y fs).2 g (wi g fun z=>hg ?_)
   show (if g=f then some u else mA g)=none
   rw [if_neg q];exact z
theorem Inv.made (I:Inv X pins σ H s):Inv X pins σ (upd (upd H s.heap.objs.size (.own (s.heap.objs.size + 1))) (s.heap.objs.size + 1) (.ins C s.heap.objs.size []))
  {s with heap:=(s.heap.push PySem.W.emptyDict).push (PySem.W.instObj C s.heap.objs.size)}:=by
 have e1:(s.heap.push PySem.W.emptyDict).get? s.heap.objs.size=some PySem.W.emptyDict:=Heap.get?_push_size s.heap rfl
 have e2:((s.heap.push PySem.W.emptyDict).push (PySem.W.instObj C s.heap.objs.size)).get? (s.heap.objs.size + 1)=some (PySem.W.instObj C s.heap.objs.size):=by
  have:=Heap.get?_push_size (s.heap.push PySem.W.emptyDict) (o:=PySem.W.instObj C s.heap.objs.size) rfl
  rwa [Heap.size_push] at this
 have e3:(s.heap.push PySem.W.emptyDict).Ns s.heap.objs.size (fun _=>none):=⟨PySem.W.emptyDict,#[],_,e1,rfl,(fun e he=>absurd he (by simp)),fun _=>rfl⟩
 have I1:=I.laid (a:=s.heap.objs.size) (o:= .own (s.heap.objs.size + 1)) (h':=s.heap.push PySem.W.emptyDict) (t':=s.toks) (fun b u q=>Heap.get?_push_of_some _ q) (Nat.le_refl _) ⟨_,e1⟩
 refine I1.laid (a:=s.heap.objs.size + 1) (o:= .ins C s.heap.objs.size []) (t':=s.toks) (fun b u q=>Heap.get?_push_of_some _ q) (Nat.le_of_eq (Heap.size_push _ _)) ?_
 have ne:s.heap.objs.size≠s.heap.objs.size + 1:=Nat.ne_of_lt (Nat.lt_succ_self _)
 refine ⟨by rw [aV ne,bo],Nat.zero_le _,ne,e2,fun _=>none,(Heap.Ns1.of_empty e3).at fun o q=>Heap.get?_push_of_some _ q,fun _=>True.intro,fun y hy=>absurd rfl hy⟩
theorem P4 {prog:Program} {w:World} {env:Env} {e:Expr} {f:Str} {pos:Pos} {s:Shared} {Q:Value→Shared→Prop} (hb:attributeBase e f env (eval e env)=eval e env)
  (h:wpAny (model prog w) A (eval e env) (fun o s₁=>wpAny (model prog w) A (getAttr o f true) Q E s₁) E s):wpAny (model prog w) A (eval (.Attribute e f pos) env) Q E s:=
 Attribute_any_ h (by rw [arm_eval_Attribute,hb])
end
noncomputable def tFld (K:PySem.W.Frag) (ta:TE) (f:Str):TE:=fun σ H Q=>ta σ H fun x H1=>∃ a C dx fs v,x= .ref a∧H1 a=some (.ins C dx fs)∧Cls K C∧dS K C f∧fs.lookup f=some v∧Q v H1
noncomputable def sFld (K:PySem.W.Frag) (ta tv:TE) (f:Str):TS:=fun D σ H=>tv σ H fun y H1=>ta σ H1 fun x H2=>∃ a C dx fs,x= .ref a∧H2 a=some (.ins C dx fs)∧Cls K C∧dS K C f∧fs.length < 1000∧
 D.nx σ (upd H2 a (.ins C dx (putF f y fs)))
section
variable {X:Cx} {o e value:Expr} {f:Str} {pos pos' tpos:Pos} {ta tv:TE}
theorem Ri (he:PE X e ta) (hb:attributeBase e f X.env (eval e X.env)=eval e X.env):PE X (.Attribute e f pos) (tFld X.K ta f):=by
 intro pins s σ H Q I h
 refine P4 hb (thn (he pins s σ H _ I h) fun u s1 ⟨x,H1,I1,rx,a,C,dx,fs,v,ex,ea,c,n,l,q⟩=>?_)
 subst ex
 obtain rfl:u=Value.ref a:=rx
 exact Hy I1 ea c n l fun u' s2 I2 ru=>⟨v,H1,I2,ru,q⟩
theorem Rb (ha:PE X o ta) (hv:PE X value tv) (hs:swapsWith value (some (.Attribute o f pos')) pos.line X.env=pure false):PS X (.Assign [.Attribute o f pos'] value pos) (sFld X.K ta tv f):=by
 intro pins s σ H D I h
 refine plainObj_wpAny_Assign_Attribute (thn (hv pins s σ H _ I h) fun u s1 ⟨y,H1,I1,ry,q⟩=>thn (ha pins s1 σ H1 _ I1 q) fun ov s2 ⟨x,H2,I2,rx,a,C,dx,fs,ex,ea,c,n,l,q2⟩=>?_) hs
 subst ex
 obtain rfl:ov=Value.ref a:=rx
 exact GD I2 ea c n l ry fun s3 I3=>⟨σ,_,I3,q2⟩
end
section
variable {X:Cx} {pins:List (Addr×Obj)} {σ:St} {H:Hp} {s:Shared} {A:Around} {E:Value→Shared→Prop} {Q:Value→Shared→Prop} {c:Value} {b:Bool}
inductive TyOf (K:PySem.W.Frag) (H:Hp):V→Value→Prop where
 | non:TyOf K H .non (.type "NoneType")
 | bl (x:Bool):TyOf K H (.bl x) (.type "bool")
 | int (i:Int):TyOf K H (.int i) (.type "int")
 | str (x:Str):TyOf K H (.str x) (.type "str")
 | flt (x:UInt64):TyOf K H (.flt x) (.type "float")
 | lst {a:Addr} {xs:List V} (e:H a=some (.lst xs)):TyOf K H (.ref a) (.type "list")
 | frz {a:Addr} {o:Obj} {xs:List V} (e:H a=some (.frz o (.lst xs))):TyOf K H (.ref a) (.type "list")
 | tup {a:Addr} {xs:List V} (e:H a=some (.tup xs)):TyOf K H (.ref a) (.type "tuple")
 | dK {a:Addr} {kvs:List (Key×V)} (e:H a=some (.dK kvs)):TyOf K H (.ref a) (.type "dict")
 | dT {a:Addr} {kvs:List (List Key×V)} (e:H a=some (.dT kvs)):TyOf K H (.ref a) (.type "dict")
 | ins {a C dx:Addr} {fs:List (Str×V)} (e:H a=some (.ins C dx fs)) (cl:Cls K C) (ha:PySem.W.findIn K (.ref C) "__class__"=some (some (.builtin "object.__class__")))
   (hn:PySem.W.specialIn K (.builtin "object.__class__") "__get__"=some (some (.builtin "getset_descriptor.__get__"))) (htk:PySem.W.takesIn K (.builtin "object.__class__")=some true)
   (hm:PySem.W.mroIn K C (.type "object")=some true):TyOf K H (.ref a) (.ref C)
end
structure Room (k:Nat) (A:Around):Prop where
 hd:A.handled=none
 dp:A.depth + 3 * k + 5 < recursionLimit
 un:A.units + 16 * k + 200 < cLine
theorem Room.mono {j k:Nat} {A:Around} (r:Room k A) (h:j≤k):Room j A:=⟨r.hd,by have:=r.dp;omega,by have:=r.un;omega⟩
theorem Room.deeper {k:Nat} {A:Around} (r:Room (k + 1) A) (env:Env):Room k (A.deeper env):=
 ⟨r.hd,by have:=r.dp;show A.depth + 1 + 3 * k + 5 < _;omega,by have:=r.un;show A.units + 3 + 16 * k + 200 < _;omega⟩
theorem Hi {A:Around} {C:Addr} {us:List Value} {kw:List (Str×Value)}:(A.under (.builtin "type.__call__" ⟨.ref C::us,kw⟩)).depth=A.depth + 1:=by
 first | rfl | simp [Around.under,Code.weight,Code.isCreation,Code.isGuard,Code.isCaller,Code.frames,Code.isFrame,guardIds]
theorem Hh {A:Around} {C:Addr} {us:List Value} {kw:List (Str×Value)}:(A.under (.builtin "type.__call__" ⟨.ref C::us,kw⟩)).units=A.units + 1:=by
 first | rfl | simp [Around.under,Code.cUnits,Code.frames,Code.isFrame]
theorem Room.make {k:Nat} {A:Around} (r:Room (k + 1) A) (C:Addr) (us:List Value) (kw:List (Str×Value)):Room k (A.under (.builtin "type.__call__" ⟨.ref C::us,kw⟩)):=
 ⟨r.hd,by have:=r.dp;rw [Hi];omega,by have:=r.un;rw [Hh];omega⟩
theorem Room.depth {k:Nat} {A:Around} (r:Room k A):A.depth < recursionLimit:=by have:=r.dp;omega
theorem Room.units {k:Nat} {A:Around} (r:Room k A):A.units + 64 < cLine:=by have:=r.un;omega
noncomputable abbrev tNil:TA:=fun _ H Q=>Q [] H
noncomputable abbrev SC (ta:TE) (tr:TA):TA:=fun σ H Q=>ta σ H fun x H1=>tr σ H1 fun xs H2=>Q (x::xs) H2
section
variable {X:Cx} {e:Expr} {es:List Expr} {te:TE} {t:TA} {pos:Pos}
theorem ae:PA X [] tNil:=fun _ _ _ _ H Q I h=>Calls.spliced_nil ⟨[],H,I,.nil,h⟩
theorem aa (ha:PE X e te) (hr:PA X es t) (hs:starEach (e::es) X.env=(false,eval e X.env)::starEach es X.env:=by rfl):PA X (e::es) (SC te t):=by
 intro pos pins s σ H Q I h
 rw [hs]
 show wpAny _ _ (spliced ((false,eval e X.env)::backTo pos (starEach es X.env))) _ _ s
 refine Calls.spliced_cons (thn (ha pins s σ H _ I h) fun u s1 ⟨x,H1,I1,r1,q1⟩=>?_)
 exact thn (hr pos pins s1 σ H1 _ I1 q1) fun us s2 ⟨xs,H2,I2,r2,q2⟩=>⟨x::xs,H2,I2,.cons r1 r2,q2⟩
noncomputable def tTup (t:TA):TE:=fun σ H Q=>t σ H fun xs H1=>xs.length≤sizeLine∧∀ p,H1 p=none→Q (.ref p) (upd H1 p (.tup xs))
noncomputable def tLst (t:TA):TE:=fun σ H Q=>t σ H fun xs H1=>xs.length≤sizeLine∧∀ p,H1 p=none→Q (.ref p) (upd H1 p (.lst xs))
theorem eP {x1} (h:PA X es t):PE X (.Tuple es x1 pos) (tTup t):=by
 intro pins s σ H Q I hq
 refine wpAny_Tuple_spliced (thn (h pos pins s σ H _ I hq) fun us s1 ⟨xs,H1,I1,r,z,q⟩=>⟨by rw [← r.length];exact z,?_⟩)
 have hf:H1 s1.heap.objs.size=none:=I1.hok.fresh (Nat.le_refl _)
 refine ⟨.ref s1.heap.objs.size,upd H1 s1.heap.objs.size (.tup xs),I1.laid (t':=s1.toks) (fun b u e=>Heap.get?_push_of_some _ e) (Nat.le_refl _) ?_,rfl,q _ hf⟩
 exact ⟨z,us,r,⟨_,Heap.get?_push_size _ rfl,rfl,_,rfl⟩⟩
theorem bK (h:PA X es t):PE X (.List es pos) (tLst t):=by
 intro pins s σ H Q I hq
 refine wpAny_List_spliced (thn (h pos pins s σ H _ I hq) fun us s1 ⟨xs,H1,I1,r,z,q⟩=>⟨by rw [← r.length];exact z,?_⟩)
 have hf:H1 s1.heap.objs.size=none:=I1.hok.fresh (Nat.le_refl _)
 refine ⟨.ref s1.heap.objs.size,upd H1 s1.heap.objs.size (.lst xs),I1.laid (t':=s1.toks) (fun b u e=>Heap.get?_push_of_some _ e) (Nat.le_refl _) ?_,rfl,q _ hf⟩
 exact ⟨z,us,0,r,Heap.get?_push_size _ rfl⟩
end
noncomputable abbrev Sp:=List V→Hp→VK→XK→Prop
noncomputable abbrev CXT:=List Env→Hp→Shared→XK→Value→Shared→Prop
structure Env0 (P:Program) (w:World) (K:PySem.W.Frag) (mg:Str→Option Value) (base:Heap) (A:Around) (outer:List Env) (s:Shared) (H:Hp):Prop where
 frames:A.frames=some outer
 mod:Mod K mg base
 bs:∀ b o,base.get? b=some o→s.heap.get? b=some o∧H b=none
 bsz:base.objs.size≤s.heap.objs.size
 funs:s.heap.FunFrames base outer
 frf:∀ b∈frs outer,H b=none
 hok:HOk P w H s.heap
 bare:AllBare s.gens
noncomputable def CE (outer:List Env) (P:Program) (w:World) (H:Hp) (s:Shared) (Q:VK) (u:Value) (s':Shared):Prop:=
 ∃ v H',s'.os=s.os∧AllBare s'.gens∧Un (frs outer) [] H H' s.heap s'.heap∧HOk P w H' s'.heap∧RelV v u∧Q v H'
noncomputable def CR (CX:CXT) (outer:List Env) (P:Program) (w:World) (H:Hp) (s:Shared) (Q:VK) (E:XK) (r:Result) (s':Shared):Prop:=
 match r with
 | .ok (.ret u)=>CE outer P w H s Q u s'
 | .ok _=>False
 | .error e=>CX outer H s E e s'
structure FnOk (P:Program) (w:World) (K:PySem.W.Frag) (mg:Str→Option Value) (base:Heap) (CX:CXT) (k:Nat) (f:Addr) (fd:FuncData) (ps:List Str) (sp:Sp):Prop where
 len:∀ vs H Q E,sp vs H Q E→vs.length=ps.length
 run:∀ (A:Around) (outer:List Env) (s:Shared) (H:Hp) (args:Args) (us:List Value) (vs:List V) (Q:VK) (E:XK),Room k A→Env0 P w K mg base A outer s H→BindsTo s fd args (ps.zip us)→Vals vs us→sp vs H Q E→
  codeAny (model P w) A (.call (.ref f) args) (CR CX outer P w H s Q E) s
theorem Env0.make {P:Program} {w:World} {K:PySem.W.Frag} {mg:Str→Option Value} {base:Heap} {A:Around} {outer:List Env} {s:Shared} {H:Hp} (e:Env0 P w K mg base A outer s H) (C:Addr) (us:List Value) (kw:List (Str×Value)):
  Env0 P w K mg base (A.under (.builtin "type.__call__" ⟨.ref C::us,kw⟩)) outer s H:=⟨by first | exact e.frames | (simpa [Around.under,Code.envs,Code.isFrame,pushEnvs] using e.frames),e.mod,e.bs,e.bsz,e.funs,e.frf,e.hok,e.bare⟩
section
variable {X:Cx} {pins:List (Addr×Obj)} {σ:St} {H:Hp} {s s':Shared}
theorem Inv.env0 (I:Inv X pins σ H s):Env0 X.prog X.w X.K X.mg X.base X.A X.stack s H:=
 ⟨I.ok.frames,I.ok.mod,I.bs,Nat.le_trans I.ok.bsz I.sz,I.stack,I.stkFree,I.hok,I.bare⟩
theorem Inv.after {Q:VK} {u:Value} (I:Inv X pins σ H s) (h:CE X.stack X.prog X.w H s Q u s'):EP X pins σ Q u s':=by
 obtain ⟨v,H',os,bare,un,hok,r,q⟩:=h
 obtain ⟨hh,g,d,t,os'⟩:=s'
 obtain rfl:os'=s.os:=os
 exact ⟨v,H',I.call (h':=hh) (g':=g) (d':=d) (t':=t) (ch:=[]) un hok bare (fun b z=>absurd z (by simp)),r,q⟩
end
noncomputable def Oq (sp:Sp) (dvs:List V) (E:XK) (t:TA):TE:=fun σ H Q=>t σ H fun vs H1=>sp (vs++dvs) H1 Q E
noncomputable def Oo (C:Addr) (m:Str) (sp:Sp) (dvs:List V) (E:XK) (ta:TE) (t:TA):TE:=fun σ H Q=>ta σ H fun x H1=>∃ a dx fs,x= .ref a∧H1 a=some (.ins C dx fs)∧fs.lookup m=none∧
 t σ H1 fun vs H2=>sp (x::(vs++dvs)) H2 Q E
noncomputable def Qo (C:Addr) (sp:Sp) (dvs:List V) (E:XK) (t:TA):TE:=fun σ H Q=>t σ H fun vs H1=>∀ x dx,H1 x=none→H1 dx=none→dx≠x→
 sp (.ref x::(vs++dvs)) (upd (upd H1 dx (.own x)) x (.ins C dx [])) (fun v H2=>v= .non∧Q (.ref x) H2) E
noncomputable def bj (K:PySem.W.Frag) (fd:FuncData) (ps:List Str) (ds:List Value):Prop:=
 ∀ (s:Shared) (us:List Value),K.In s.heap→(us++ds).length=ps.length→BindsTo s fd ⟨us,[]⟩ (ps.zip (us++ds))
theorem bj.all {K:PySem.W.Frag} {fd:FuncData} {ps:List Str} (h:∀ us:List Value,us.length=ps.length→bindArgs fd ⟨us,[]⟩=pure (ps.zip us)):bj K fd ps []:=fun s us _ hl=>by
 rw [List.append_nil] at hl ⊢
 exact .of_eq (h us hl)
noncomputable def vV (CX:CXT) (X:Cx) (E:XK):Prop:=∀ (pins:List (Addr×Obj)) (σ:St) (H:Hp) (s:Shared) (e:Value) (s':Shared),Inv X pins σ H s→CX X.stack H s E e s'→X.xe e s'
section
variable {X:Cx} {CX:CXT} {k:Nat} {f C:Addr} {fd:FuncData} {ps:List Str} {sp:Sp} {dvs:List V} {ds:List Value} {E:XK} {x m:Str} {p pos apos:Pos} {e o:Expr} {es:List Expr} {ta:TE} {t:TA}
theorem JA {pins:List (Addr×Obj)} {σ:St} {H:Hp} {s:Shared} {Q:VK} {us:List Value} {vs:List V} (F:FnOk X.prog X.w X.K X.mg X.base CX k f fd ps sp) (hr:Room k X.A) (hb:bj X.K fd ps ds) (hd:Vals dvs ds) (hx:vV CX X E)
  (I:Inv X pins σ H s) (r:Vals vs us) (h:sp (vs++dvs) H Q E):wpAny (model X.prog X.w) X.A (call (.ref f) us) (EP X pins σ Q) X.xe s:=by
 have r2:Vals (vs++dvs) (us++ds):=r.append hd
 have hl:(us++ds).length=ps.length:=by rw [← r2.length];exact F.len _ _ _ _ h
 refine wpAny_call (codeAny_mono (F.run X.A X.stack s H ⟨us,[]⟩ (us++ds) (vs++dvs) Q E hr I.env0 (hb s us I.kIn hl) r2 h) fun r s' hq=>?_)
 cases r with
 | error e=>exact hx pins σ H s e s' I hq
 | ok fl=>
   cases fl with
   | ret u=>exact I.after hq
   | next=>exact False.elim hq
   | brk=>exact False.elim hq
   | cont=>exact False.elim hq
theorem aq (F:FnOk X.prog X.w X.K X.mg X.base CX k f fd ps sp) (hr:Room k X.A) (hg:Gl X x) (hm:X.mg x=some (.ref f)) (hk:PySem.W.keepIn X.K (.ref f)=true) (hb:bj X.K fd ps ds) (hd:Vals dvs ds) (hx:vV CX X E)
  (ha:PA X (e::es) t) (hdb:(x == ("__debug__":Str))=false:=by decide) (he:starEach (e::es) X.env=(false,eval e X.env)::starEach es X.env:=by rfl) (hpl:(backTo pos (starEach es X.env)).any (·.1)=false:=by rfl):
  PE X (.Call (.Name x p) (e::es) [] pos) (Oq sp dvs E t):=by
 intro pins s σ H Q I h
 refine wpAny_Call_Name_kw (p8 I hg hm ?_ hdb)
 refine PySem.W.callWith_K (h₀:=X.base) I.ok.mod.kin hk (thn (ha pos pins s σ H _ I h) fun us s1 ⟨vs,H1,I1,r,q⟩=>⟨I1.kIn,?_⟩) he hpl
 exact JA F hr hb hd hx I1 r q
theorem yS {pl:Sem Bool} (he:PE X o ta) (c:Cls X.K C) (hm:Meth X.K C m f) (F:FnOk X.prog X.w X.K X.mg X.base CX k f fd ps sp) (hr:Room k X.A) (hb:bj X.K fd ps ds) (hd:Vals dvs ds) (hx:vV CX X E) (ha:PA X (e::es) t)
  (hst:starEach (e::es) X.env=(false,eval e X.env)::starEach es X.env:=by rfl) (hpl:(backTo pos (starEach es X.env)).any (·.1)=false:=by rfl)
  (ht:eval (.Call (.Attribute o m apos) (e::es) [] pos) X.env=(do
   let ov ← eval o X.env
   standAt apos.atName
   let (f,first) ← holding [ov] (getMethod ov m pl)
   callWith pos f first (backTo pos (starEach (e::es) X.env)) (backToKw pos (keywordEach [] X.env))):=by rfl):
  PE X (.Call (.Attribute o m apos) (e::es) [] pos) (Oo C m sp dvs E ta t):=by
 intro pins s σ H Q I h
 refine PySem.W.methodCall_KW (pl:=pl) (thn (he pins s σ H _ I h) fun u s1 ⟨x,H1,I1,rx,a,dx,fs,ex,ea,l,q⟩=>?_) ht
 subst ex
 obtain rfl:u=Value.ref a:=rx
 refine qg I1 ea c hm l ?_
 refine PySem.W.callWith_K (first:=[.ref a]) (h₀:=X.base) I.ok.mod.kin hm.kp (thn (ha pos pins s1 σ H1 _ I1 q) fun us s2 ⟨vs,H2,I2,r,q2⟩=>⟨I2.kIn,?_⟩) hst hpl
 exact JA (us:= .ref a::us) (vs:= .ref a::vs) F hr hb hd hx I2 (.cons rfl r) q2
theorem FM {pl:Sem Bool} (he:PE X o ta) (c:Cls X.K C) (hm:Meth X.K C m f) (F:FnOk X.prog X.w X.K X.mg X.base CX k f fd ps sp) (hr:Room k X.A) (hb:bj X.K fd ps ds) (hd:Vals dvs ds) (hx:vV CX X E)
  (ht:eval (.Call (.Attribute o m apos) [] [] pos) X.env=(do
   let ov ← eval o X.env
   standAt apos.atName
   let (f,first) ← holding [ov] (getMethod ov m pl)
   callWith pos f first (backTo pos (starEach [] X.env)) (backToKw pos (keywordEach [] X.env))):=by rfl):
  PE X (.Call (.Attribute o m apos) [] [] pos) (Oo C m sp dvs E ta tNil):=by
 intro pins s σ H Q I h
 refine PySem.W.methodCall_KW (pl:=pl) (thn (he pins s σ H _ I h) fun u s1 ⟨x,H1,I1,rx,a,dx,fs,ex,ea,l,q⟩=>?_) ht
 subst ex
 obtain rfl:u=Value.ref a:=rx
 refine qg I1 ea c hm l ?_
 exact PySem.W.callWith_K0 (first:=[.ref a]) I1.kIn hm.kp (JA (us:=[.ref a]) (vs:=[.ref a]) F hr hb hd hx I1 (.cons rfl .nil) q)
structure Mk (K:PySem.W.Frag) (C f:Addr):Prop where
 makes:PySem.W.makesIn K C=true
 init:PySem.W.findIn K (.ref C) "__init__"=some (some (.ref f))
 fn:PySem.W.isFn K (.ref f)=true
 kp:PySem.W.keepIn K (.ref C)=true
theorem Mi {pins:List (Addr×Obj)} {σ:St} {H:Hp} {s:Shared} {Q:VK} {us:List Value} {vs:List V} (M:Mk X.K C f) (F:FnOk X.prog X.w X.K X.mg X.base CX k f fd ps sp) (hr:Room (k + 1) X.A) (hb:bj X.K fd ps ds) (hd:Vals dvs ds)
  (hx:vV CX X E) (I:Inv X pins σ H s) (r:Vals vs us)
  (h:∀ x dx,H x=none→H dx=none→dx≠x→sp (.ref x::(vs++dvs)) (upd (upd H dx (.own x)) x (.ins C dx [])) (fun v H2=>v= .non∧Q (.ref x) H2) E):
  wpAny (model X.prog X.w) X.A (call (.ref C) us) (EP X pins σ Q) X.xe s:=by
 have hq:=h (s.heap.objs.size + 1) s.heap.objs.size (I.hok.fresh (Nat.le_succ _)) (I.hok.fresh (Nat.le_refl _)) (Nat.ne_of_lt (Nat.lt_succ_self _))
 have I2:=Inv.made (C:=C) I
 have r2:Vals (V.ref (s.heap.objs.size + 1)::(vs++dvs)) (Value.ref (s.heap.objs.size + 1)::(us++ds)):= .cons rfl (r.append hd)
 have hl:(Value.ref (s.heap.objs.size + 1)::us++ds).length=ps.length:=by
  have e:=r2.length
  rw [F.len _ _ _ _ hq] at e
  exact e.symm
 refine wpAny_call (ML (f:=f) I.kIn M.makes M.init (beq_iff_eq.mp M.fn) (codeAny_mono (F.run _ X.stack _ _ ⟨Value.ref (s.heap.objs.size + 1)::us,[]⟩ (Value.ref (s.heap.objs.size + 1)::(us++ds)) _ _ E (hr.make C us [])
  (I2.env0.make C us []) (hb _ (Value.ref (s.heap.objs.size + 1)::us) I2.kIn hl) r2 hq) fun r s' hq'=>?_))
 cases r with
 | error e=>exact hx pins σ _ _ e s' I2 hq'
 | ok fl=>
   cases fl with
   | ret u=>
     obtain ⟨v,H',I3,rv,ev,q3⟩:=I2.after hq'
     subst ev
     exact ⟨rv,⟨V.ref (s.heap.objs.size + 1),H',I3,rfl,q3⟩⟩
   | next=>exact False.elim hq'
   | brk=>exact False.elim hq'
   | cont=>exact False.elim hq'
theorem DN (M:Mk X.K C f) (F:FnOk X.prog X.w X.K X.mg X.base CX k f fd ps sp) (hr:Room (k + 1) X.A) (hg:Gl X x) (hm:X.mg x=some (.ref C)) (hb:bj X.K fd ps ds) (hd:Vals dvs ds) (hx:vV CX X E)
  (ha:PA X (e::es) t) (hdb:(x == ("__debug__":Str))=false:=by decide) (he:starEach (e::es) X.env=(false,eval e X.env)::starEach es X.env:=by rfl) (hpl:(backTo pos (starEach es X.env)).any (·.1)=false:=by rfl):
  PE X (.Call (.Name x p) (e::es) [] pos) (Qo C sp dvs E t):=by
 intro pins s σ H Q I h
 refine wpAny_Call_Name_kw (p8 I hg hm ?_ hdb)
 refine PySem.W.callWith_K (h₀:=X.base) I.ok.mod.kin M.kp (thn (ha pos pins s σ H _ I h) fun us s1 ⟨vs,H1,I1,r,q⟩=>⟨I1.kIn,?_⟩) he hpl
 exact Mi M F hr hb hd hx I1 r q
end
section
variable {X:Cx} {CX:CXT} {k:Nat} {f C:Addr} {fd:FuncData} {ps ks:List Str} {sp:Sp} {E:XK} {x m:Str} {p pos apos kpos:Pos} {e o:Expr} {es:List Expr} {kws:List Keyword} {te ta:TE} {t tk:TA} {nm:Option Str}
structure Tf (K:PySem.W.Frag) (fd:FuncData) (ps ks:List Str) (g:List Value→List Value→List Value) (gV:List V→List V→List V):Prop where
 to:∀ (s:Shared) (us ws:List Value),K.In s.heap→(g us ws).length=ps.length→BindsTo s fd ⟨us,ks.zip ws⟩ (ps.zip (g us ws))
 rel:∀ {vs:List V} {us:List Value} {zs:List V} {ws:List Value},Vals vs us→Vals zs ws→Vals (gV vs zs) (g us ws)
variable {g:List Value→List Value→List Value} {gV:List V→List V→List V}
end
structure aC (N P:List Str) (sc:Scope):Prop where
 kind:sc.kind= .function
 co:sc.isCoroutine=false
 gen:sc.isGenerator=false
 nd:N.Nodup
 pre:N.take P.length=P
 par:∀ x∈P,sc.names.lookup x=some .local∨sc.names.lookup x=some .cell
 nofree:∀ y∈sc.names,y.2≠.free
theorem CD {kindOf:Str→Option NameKind} {x:Str}:∀ {binds:List (Str×Value)} {m:Str→Option Value},(∀ v,(x,v)∉binds)→bindL kindOf binds m x=m x
 | [],_,_=>rfl
 | (n,v)::r,m,h=>by
   unfold bindL
   rw [CD fun w hw=>h w (List.mem_cons_of_mem _ hw)]
   split
   ·have:x≠n:=by rintro rfl;exact h v List.mem_cons_self
    simp [this]
   ·rfl
theorem CG {kindOf:Str→Option NameKind} {x:Str}:∀ {binds:List (Str×Value)} {m:Str→Option Value},(∀ v,(x,v)∉binds)→bindC kindOf binds m x=m x
 | [],_,_=>rfl
 | (n,v)::r,m,h=>by
   unfold bindC
   rw [CG fun w hw=>h w (List.mem_cons_of_mem _ hw)]
   split
   ·rfl
   ·have:x≠n:=by rintro rfl;exact h v List.mem_cons_self
    simp [this]
theorem CF {kindOf:Str→Option NameKind} {x:Str} {v:Value}:∀ {P:List Str} {vs:List Value} {i:Nat} {m:Str→Option Value},P.Nodup→P[i]? =some x→vs[i]? =some v→kindOf x=some .local→
  bindL kindOf (P.zip vs) m x=some v
 | [],_,_,_,_,h,_,_=>by simp at h
 | _::_,[],_,_,_,_,h,_=>by simp at h
 | p::P,w::vs,0,m,nd,h1,h2,hk=>by
   simp at h1 h2;subst h1;subst h2
   show bindL kindOf ((p,w)::P.zip vs) m p=_
   unfold bindL
   rw [CD fun v hv=>(List.nodup_cons.mp nd).1 (List.of_mem_zip hv).1,if_pos hk]
   simp
 | p::P,w::vs,i + 1,m,nd,h1,h2,hk=>by
   show bindL kindOf ((p,w)::P.zip vs) m x=_
   unfold bindL
   exact CF (i:=i) (List.nodup_cons.mp nd).2 (by simpa using h1) (by simpa using h2) hk
theorem CH {kindOf:Str→Option NameKind} {x:Str} {v:Value}:∀ {P:List Str} {vs:List Value} {i:Nat} {m:Str→Option Value},P.Nodup→P[i]? =some x→vs[i]? =some v→kindOf x≠some .local→
  bindC kindOf (P.zip vs) m x=some v
 | [],_,_,_,_,h,_,_=>by simp at h
 | _::_,[],_,_,_,_,h,_=>by simp at h
 | p::P,w::vs,0,m,nd,h1,h2,hk=>by
   simp at h1 h2;subst h1;subst h2
   show bindC kindOf ((p,w)::P.zip vs) m p=_
   unfold bindC
   rw [CG fun v hv=>(List.nodup_cons.mp nd).1 (List.of_mem_zip hv).1,if_neg hk]
   simp
 | p::P,w::vs,i + 1,m,nd,h1,h2,hk=>by
   show bindC kindOf ((p,w)::P.zip vs) m x=_
   unfold bindC
   exact CH (i:=i) (List.nodup_cons.mp nd).2 (by simpa using h1) (by simpa using h2) hk
noncomputable def rJ (N:List Str) (vs:List V):St:=vs.map some++List.replicate (N.length - vs.length) none
noncomputable def cxOf (CX:CXT) (P:Program) (w:World) (K:PySem.W.Frag) (mg:Str→Option Value) (base:Heap) (N:List Str) (qual:Str) (scope:Scope) (f:Addr) (cd:Value) (A:Around) (outer:List Env) (s:Shared) (H:Hp) (E:XK):Cx where
 prog:=P
 w:=w
 K:=K
 mg:=mg
 base:=base
 A:=A.deeper (envOfC qual scope s.heap.objs.size f cd)
 N:=N
 s₀:=s
 H₀:=H
 env:=envOfC qual scope s.heap.objs.size f cd
 outer:=outer
 stack:=envOfC qual scope s.heap.objs.size f cd::outer
 ex:=[]
 calm:=true
 fn:=fun _=>true
 pn:=[]
 xe:=fun e s'=>wpAny (model P w) (A.deeper (envOfC qual scope s.heap.objs.size f cd)) (leaving (envOfC qual scope s.heap.objs.size f cd) e) (fun _ s''=>CX outer H s E e s'') (fun e' s''=>CX outer H s E e' s'') s'
theorem F4 {sc:Scope} {n:Nat} {x:Str} (h:sc.names.lookup x=some .cell):∃ c,(cellsFrom n sc.names []).lookup x=some c:=by
 have q:=PySem.W.cellsFrom_some sc.names n [] (.inl h)
 exact Option.isSome_iff_exists.mp q
theorem Ky {CX:CXT} {P:Program} {w:World} {K:PySem.W.Frag} {mg:Str→Option Value} {base:Heap} {N ps:List Str} {qual:Str} {scope:Scope} {f:Addr} {cd:Value} {A:Around} {outer:List Env} {s s1:Shared} {H:Hp} {E:XK} {us:List Value} {vs:List V}
  (S:aC N ps scope) (hd:A.handled=none) (e0:Env0 P w K mg base A outer s H) (hl:vs.length=ps.length) (r:Vals vs us)
  (x:InCallC s s.heap.objs.size (bindL (envOfC qual scope s.heap.objs.size f cd).kindOf (ps.zip us) fun _=>none) (cellsFrom (s.heap.objs.size + 1) scope.names []) (bindC (envOfC qual scope s.heap.objs.size f cd).kindOf (ps.zip us) fun _=>none) s1):
  Inv (cxOf CX P w K mg base N qual scope f cd A outer s H E) [] (rJ N vs) H s1:=by
 have hpl:ps.length≤N.length:=by have:=congrArg List.length S.pre;rw [List.length_take] at this;omega
 obtain ⟨h1,tk,rfl,hk⟩:=x.done
 have noA:∀ b:Addr,b∉(cxOf CX P w K mg base N qual scope f cd A outer s H E).ex:=fun b z=>absurd (show b∈([]:List Addr) from z) (by simp)
 refine ⟨⟨e0.mod,S.kind,rfl,rfl,Nat.le_refl _,fun y z c h1 h2=>?_,fun y hy=>?_,fun y c _ h=>?_,fun _=>hd,Around.frames_deeper e0.frames,.inr ⟨rfl,rfl⟩,fun b z=>absurd z (noA b),e0.bs,e0.bsz,fun b _ _=>noA b,fun b z=>absurd z (noA b),e0.funs,e0.frf⟩,
  rfl,e0.bare,Un.kept hk,⟨_,x.toInCall.ns,fun i y v h1 h2 h3=>?_⟩,fun y c h=>⟨_,x.cell y c h⟩,e0.hok.fresh (Nat.le_refl _),fun y c h=>?_,fun p hp=>absurd (show p∈([]:List (Addr×Obj)) from hp) (by simp),e0.hok.kept hk,?_⟩
 ·exact name_of_addr x.apart (PySem.mem_of_lookup h1) (PySem.mem_of_lookup h2)
 ·have hy:scope.names.lookup y=some .cell∨scope.names.lookup y=some .free:=hy
  rcases hy with hy | hy
  ·exact F4 hy
  ·exact absurd rfl (S.nofree _ (PySem.mem_of_lookup hy))
 ·exact Nat.le_of_lt (x.above y c (PySem.mem_of_lookup h))
 ·have hi:i < vs.length:=by
   unfold rJ at h2
   by_cases hi:i < vs.length
   ·exact hi
   ·rw [List.getElem?_append_right (by simpa using hi)] at h2
    rw [List.getElem?_replicate] at h2
    split at h2<;>cases h2
  have ha:vs[i]? =some v:=by
   unfold rJ at h2
   rw [List.getElem?_append_left (by simpa using hi),List.getElem?_map] at h2
   cases e:vs[i]? with
   | none=>rw [e] at h2;cases h2
   | some a=>rw [e] at h2;cases h2;rfl
  obtain ⟨u,hu,rv⟩:=r.get ha
  have hp:ps[i]? =some y:=by
   rw [← S.pre,List.getElem?_take_of_lt (by omega)];exact h1
  have ndP:ps.Nodup:=by rw [← S.pre];exact S.nd.sublist (List.take_sublist _ _)
  refine ⟨u,rv,?_⟩
  rcases S.par y (List.mem_of_getElem? hp) with k | k
  ·exact .inl ⟨k,CF ndP hp hu k⟩
  ·obtain ⟨c,e⟩:=F4 (n:=s.heap.objs.size + 1) k
   refine .inr ⟨.inl k,c,e,?_⟩
   have q:=x.cell y c e
   rw [CH ndP hp hu (by show scope.names.lookup y≠_;rw [k];decide)] at q
   exact q
 ·exact e0.hok.fresh (Nat.le_of_lt (x.above y c (PySem.mem_of_lookup h)))
 ·unfold rJ
  show _=N.length
  rw [List.length_append,List.length_map,List.length_replicate]
  omega
theorem PM {CX:CXT} {P:Program} {w:World} {K:PySem.W.Frag} {mg:Str→Option Value} {base:Heap} {k:Nat} {f:Addr} {name qual:Str} {params:Arguments} {body:List Stmt} {scope:Scope} {dV kV doc pm cdv ct oc:Value} {an od:Option Addr}
  {osl:Array (Option Value)} {N ps:List Str} {sp:Sp} (lk:K.lookup f=some ⟨oc,od,.func (PySem.W.fnOf name qual params body scope dV kV doc pm an cdv ct),osl⟩) (hcd:PySem.W.codeIn K cdv qual=true) (S:aC N ps scope)
  (len:∀ vs H Q E,sp vs H Q E→vs.length=ps.length)
  (hbody:∀ (A:Around) (outer:List Env) (s:Shared) (H:Hp) (vs:List V) (Q:VK) (E:XK),Room k (A.deeper (envOfC qual scope s.heap.objs.size f cdv))→sp vs H Q E→
   ∃ t,PSs (cxOf CX P w K mg base N qual scope f cdv A outer s H E) body t∧t {nx:=fun _ H'=>Q .non H',rt:=Q} (rJ N vs) H):
  FnOk P w K mg base CX (k + 1) f (PySem.W.fnOf name qual params body scope dV kV doc pm an cdv ct) ps sp:=by
 refine ⟨len,fun A outer s H args us vs Q E hr e0 hb r hsp=>?_⟩
 have hl:=len _ _ _ _ hsp
 have KX:K.In s.heap:=e0.mod.kin.keeps fun b o e=>(e0.bs b o e).1
 have lim:s.heap.NoLimit:=e0.mod.nolimit.keeps fun b o e=>(e0.bs b o e).1
 have hkind:∀ y∈ps.zip us,scope.names.lookup y.1=some .local∨(scope.names.lookup y.1=some .cell∧((cellsFrom (s.heap.objs.size + 1) scope.names []).lookup y.1).isSome=true):=fun ⟨n,v⟩ hy=>by
  rcases S.par n (List.of_mem_zip hy).1 with q | q
  ·exact .inl q
  ·exact .inr ⟨q,PySem.W.cellsFrom_some _ _ _ (.inl q)⟩
 refine codeAny_call_function hr.depth (KX _ _ lk) rfl S.co S.gen rfl (PySem.W.codeRec_of KX hcd) (hb _ _ _ _ ?_)
 refine wpAny_newFunctionEnv_cells S.kind hkind fun env he s1 x=>?_
 subst he
 refine ⟨lim.keeps x.toInCall.keep,codeAny_func ?_⟩
 obtain ⟨t,ht,hq⟩:=hbody A outer s H vs Q E (hr.deeper _) hsp
 have I:Inv (cxOf CX P w K mg base N qual scope f cdv A outer s H E) [] (rJ N vs) H s1:=Ky S hr.hd e0 hl r x
 refine wpAny_mono (ht [] s1 (rJ N vs) H _ I hq) (fun fl s' hs=>?_) fun e s' hs=>hs
 have fin:∀ {σ':St} {H':Hp} {v:V} {u:Value},Inv (cxOf CX P w K mg base N qual scope f cdv A outer s H E) [] σ' H' s'→RelV v u→Q v H'→CE outer P w H s Q u s':=
  fun {σ' H' v u} J rv q=>⟨v,H',J.os,J.bare,J.base,J.hok,rv,q⟩
 cases fl with
 | ret u=>
   obtain ⟨v,σ',H',J,rv,q⟩:=hs
   exact fin J rv q
 | next=>
   obtain ⟨σ',H',J,q⟩:=hs
   exact fin (v:=V.non) (u:=Value.none) J rfl q
 | brk=>
   obtain ⟨_,_,_,q⟩:=hs
   exact False.elim q
 | cont=>
   obtain ⟨_,_,_,q⟩:=hs
   exact False.elim q
section
variable {X:Cx} {x:Str} {p pos:Pos} {e:Expr} {es:List Expr} {t:TA} {id T:String} {r:List V→Hp→VK→Prop}
noncomputable abbrev tCB (r:List V→Hp→VK→Prop) (t:TA):TE:=fun σ H Q=>t σ H fun vs H1=>r vs H1 Q
theorem ax (hc:mi X (.builtin id) r) (hg:Gl X x) (hm:X.mg x=none) (hv:bootBuiltins x=some (.builtin id)) (ha:PA X (e::es) t) (hn:x≠"__name__":=by decide) (hdb:(x == ("__debug__":Str))=false:=by decide)
  (he:starEach (e::es) X.env=(false,eval e X.env)::starEach es X.env:=by rfl) (hpl:(backTo pos (starEach es X.env)).any (·.1)=false:=by rfl):PE X (.Call (.Name x p) (e::es) [] pos) (tCB r t):=by
 intro pins s σ H Q I h
 refine wpAny_Call_Name_kw (my I hg hm hv ?_ hn hdb)
 exact PyProof.Rows.callWith_builtin1 (thn (ha pos pins s σ H _ I h) fun us s1 ⟨vs,H1,I1,r1,q1⟩=>hc pins s1 σ H1 vs us Q I1 r1 q1) he hpl
theorem gm (hc:mi X (.type T) r) (hg:Gl X x) (hm:X.mg x=none) (hv:bootBuiltins x=some (.type T)) (ha:PA X (e::es) t) (hn:x≠"__name__":=by decide) (hdb:(x == ("__debug__":Str))=false:=by decide)
  (he:starEach (e::es) X.env=(false,eval e X.env)::starEach es X.env:=by rfl) (hpl:(backTo pos (starEach es X.env)).any (·.1)=false:=by rfl):PE X (.Call (.Name x p) (e::es) [] pos) (tCB r t):=by
 intro pins s σ H Q I h
 refine wpAny_Call_Name_kw (my I hg hm hv ?_ hn hdb)
 exact PyProof.Rows.callWith_type1 (thn (ha pos pins s σ H _ I h) fun us s1 ⟨vs,H1,I1,r1,q1⟩=>hc pins s1 σ H1 vs us Q I1 r1 q1) he hpl
end
end L2
namespace HT
open PySem PyProof.Rows
section
variable {prog:Program} {w:World} {A:Around} {E:Value→Shared→Prop} {s:Shared}
noncomputable def sIx (n d:Nat):Option Int→Nat
 | none=>d
 | some v=>if v < 0 then (v + (n:Int)).toNat else min v.toNat n
theorem QZ (n d:Nat) (hd:d≤n) (o:Option Int):sIx n d o≤n:=by
 cases o with
 | none=>exact hd
 | some v=>
   show (if v < 0 then (v + (n:Int)).toNat else min v.toNat n)≤n
   by_cases hv:v < 0
   ·rw [if_pos hv];omega
   ·rw [if_neg hv];exact Nat.min_le_right _ _
theorem Lb (v:Int) (n d:Nat):(if v < 0 then max (v + (n:Int)) 0 else min v (n:Int))=((sIx n d (some v):Nat):Int):=by
 show (if v < 0 then max (v + (n:Int)) 0 else min v (n:Int))=(((if v < 0 then (v + (n:Int)).toNat else min v.toNat n):Nat):Int)
 by_cases hv:v < 0
 ·simp only [if_pos hv];omega
 ·simp only [if_neg hv];omega
theorem Ij (lo hi:Option Int) (n:Nat):Builtin.Slice.sliceAdjust lo hi 1 (n:Int)=(((sIx n 0 lo:Nat):Int),((sIx n n hi:Nat):Int)):=by
 have h1:¬ ((1:Int) < 0):=by omega
 unfold Builtin.Slice.sliceAdjust
 simp only [h1,if_false]
 refine Prod.ext ?_ ?_
 ·cases lo with
  | none=>rfl
  | some v=>exact Lb v n 0
 ·cases hi with
  | none=>rfl
  | some v=>exact Lb v n n
theorem GQ (i j:Nat):Builtin.Slice.slicePlaces (i:Int) (j:Int) 1=j - i:=by
 unfold Builtin.Slice.slicePlaces
 have h1:(1:Int) > 0:=by omega
 simp only [h1,if_true,Int.ediv_one]
 split<;>omega
theorem xR {v:Value} {o:Option Int} {Q:Option Int→Shared→Prop} (p:IsPart v o) (h:Q o s):wpAny (model prog w) A (Builtin.Slice.slicePartIndex v) Q E s:=by
 cases p with
 | none=>exact slicePart_none h
 | int i t=>exact slicePart_int h
theorem rK {sl:Addr} {vl vu:Value} {lo hi:Option Int} {n:Nat} {Q:Int×Int×Nat→Shared→Prop} (hs:s.heap.IsSliceOf sl vl vu .none) (pl:IsPart vl lo) (pu:IsPart vu hi)
  (h:Q (((sIx n 0 lo:Nat):Int),1,sIx n n hi - sIx n 0 lo) s):wpAny (model prog w) A (Builtin.Slice.sliceApplied (.ref sl) (pure (n:Int))) Q E s:=by
 obtain ⟨os,hos,hcs,hds⟩:=id hs
 unfold Builtin.Slice.sliceApplied Builtin.Slice.sliceFields
 refine wpAny_bind (wpAny_bind (wpAny_field hos hds (x:=vl) rfl (wpAny_bind (wpAny_field hos hds (x:=vu) rfl (wpAny_bind (wpAny_field hos hds (x:= .none) rfl (wpAny_pure ?_)))))))
 refine wpAny_bind (slicePart_none ?_)
 show wpAny _ _ (if ((1:Int) == 0)=true then _ else _) _ _ s
 rw [if_neg (by decide)]
 refine wpAny_bind (xR pl (wpAny_bind (xR pu (wpAny_bind (wpAny_pure ?_)))))
 show wpAny _ _ (match Builtin.Slice.sliceAdjust lo hi 1 (n:Int) with | (lo,hi)=>pure (lo,(1:Int),Builtin.Slice.slicePlaces lo hi 1)) _ _ s
 rw [Ij lo hi n]
 show wpAny _ _ (pure (((sIx n 0 lo:Nat):Int),(1:Int),Builtin.Slice.slicePlaces ((sIx n 0 lo:Nat):Int) ((sIx n n hi:Nat):Int) 1)) _ _ s
 rw [GQ]
 exact wpAny_pure h
theorem Mu (xs:Array Value) (i k:Nat):((List.range k).filterMap fun (m:Nat)=>xs[((i:Int) + (m:Int) * 1).toNat]?).toArray=((xs.toList.drop i).take k).toArray:=by
 have e:(fun (m:Nat)=>xs[((i:Int) + (m:Int) * 1).toNat]?)=fun m=>xs[i + m]? :=by
  funext m
  have:((i:Int) + (m:Int) * 1).toNat=i + m:=by omega
  rw [this]
 rw [e]
 have:=pick_run xs i k
 rw [List.filterMap_map] at this
 have e2:((fun x=>xs[x]?) ∘ fun x=>i + x)=fun m=>xs[i + m]? :=rfl
 rw [e2] at this
 rw [this]
theorem getItem_tuple_cut {t sl:Addr} {items:Array Value} {vl vu:Value} {lo hi:Option Int} {Q:Value→Shared→Prop} (ht:IsTup s.heap t items) (hs:s.heap.IsSliceOf sl vl vu .none) (pl:IsPart vl lo) (pu:IsPart vu hi)
  (hw:¬ (sIx items.size 0 lo=0∧sIx items.size items.size hi=items.size))
  (h:Q (.ref s.heap.objs.size) {s with heap:=s.heap.push {cls:= .type "tuple",data:= .seq ((items.toList.drop (sIx items.size 0 lo)).take (sIx items.size items.size hi - sIx items.size 0 lo)).toArray}})
  (hsz:items.size≤sizeLine):wpAny (model prog w) A (getItem (.ref t) (.ref sl)) Q E s:=by
 have htake:sizeOk (.seq ((items.toList.drop (sIx items.size 0 lo)).take (sIx items.size items.size hi - sIx items.size 0 lo)).toArray):=by
  show ((items.toList.drop (sIx items.size 0 lo)).take (sIx items.size items.size hi - sIx items.size 0 lo)).toArray.size≤sizeLine
  rw [List.size_toArray,List.length_take,List.length_drop,Array.length_toList]
  omega
 have hj:sIx items.size items.size hi≤items.size:=QZ _ _ (Nat.le_refl _) hi
 obtain ⟨os,hos,hcs,hds⟩:=id hs
 have hTs:s.TypeIs (.ref sl) "slice":=⟨os,hos,hcs⟩
 unfold getItem
 try with_reducible refine wpAny_holding ?_
 first | refine wpAny_bind (wpAny_pure ?_) | skip
 refine wpAny_bind (wpAny_sequenceKey ht.typeIs (by decide) ?_)
 refine wpAny_bind (wpAny_callSpecial?_slot (name:=Str.ofString "__getitem__") ht.typeIs PyProof.Rows.slot_tuple_getitem
  (wpAny_call_entry PyProof.Rows.slot_tuple_getitem ht.typeIs entry_tuple_getitem ?_ (args_tuple_getitem _ _)))
 show wpAny _ _ (Builtin.Tuple.tupleItemsOf (.ref t) >>=_) _ _ s
 refine wpAny_bind (tupleItemsOf_ ht ?_)
 refine wpAny_bind (wpAny_typeOf hTs ?_)
 rw [if_pos (by decide)]
 refine wpAny_bind (rK hs pl pu ?_)
 have hno:¬ ((((sIx items.size 0 lo:Nat):Int) == 0&&(1:Int) == 1&&(sIx items.size items.size hi - sIx items.size 0 lo) == items.size)=true):=by
  intro q
  rw [Bool.and_eq_true,Bool.and_eq_true] at q
  have q1:((sIx items.size 0 lo:Nat):Int)=0:=eq_of_beq q.1.1
  have q2:sIx items.size items.size hi - sIx items.size 0 lo=items.size:=eq_of_beq q.2
  exact hw ⟨by omega,by omega⟩
 show wpAny _ _ (if (((sIx items.size 0 lo:Nat):Int) == 0&&(1:Int) == 1&&(sIx items.size items.size hi - sIx items.size 0 lo) == items.size)=true then _ else _) _ _ s
 rw [if_neg hno,Mu]
 first
  | exact wpAny_bind (m:=Builtin.Tuple.tupleExact _) (wpAny_newObj_type (wpAny_pure ⟨_,rfl,wpAny_pure h⟩) htake)
  | exact wpAny_bind (m:=Builtin.Tuple.tupleExact _) (wpAny_newObj_type (wpAny_bind (wpAny_pure (wpAny_pure ⟨_,rfl,wpAny_pure h⟩))) htake)
  | exact wpAny_bind (wpAny_bind (m:=Builtin.Tuple.tupleExact _) (wpAny_newObj_type (wpAny_pure (wpAny_pure ⟨_,rfl,wpAny_pure h⟩)) htake))
  | exact wpAny_bind (wpAny_bind (m:=Builtin.Tuple.tupleExact _) (wpAny_newObj_type (wpAny_pure ⟨_,rfl,wpAny_pure h⟩) htake))
end
end HT
namespace L2
open PySem PySem.Spec PyProof.Rows
noncomputable abbrev TO:=St→Hp→(Option Int→Hp→Prop)→Prop
noncomputable def PO (X:Cx) (e:Option Expr) (t:TO):Prop:=
 ∀ (pins:List (Addr×Obj)) (s:Shared) (σ:St) (H:Hp) (Q:Option Int→Hp→Prop),Inv X pins σ H s→t σ H Q→
  wpAny (model X.prog X.w) X.A (evalPart e X.env) (fun u s'=>∃ o H',Inv X pins σ H' s'∧IsPart u o∧Q o H') X.xe s
noncomputable abbrev On:TO:=fun _ H Q=>Q none H
noncomputable abbrev Sy (t:TE):TO:=fun σ H Q=>t σ H fun x H1=>∃ i,x= .int i∧Q (some i) H1
section
variable {X:Cx} {e:Expr} {te:TE} {lo hi:Option Expr} {tl th:TO} {pos p2:Pos}
theorem O3:PO X none On:=by
 intro pins s σ H Q I h
 rw [evalPart_none]
 exact wpAny_pure ⟨none,H,I,.none,h⟩
theorem O2 (h:PE X e te):PO X (some e) (Sy te):=by
 intro pins s σ H Q I hw
 rw [evalPart_some]
 refine thn (h pins s σ H _ I hw) fun u s1 ⟨x,H1,I1,r1,q1⟩=>?_
 obtain ⟨i,rfl,q⟩:=q1
 obtain ⟨t,rfl⟩:=r1
 exact ⟨some i,H1,I1,.int i t,q⟩
noncomputable def SlR (X:Cx) (r:V→Option Int→Option Int→Hp→VK→Prop):Prop:=
 ∀ (pins:List (Addr×Obj)) (s:Shared) (σ:St) (H:Hp) (x:V) (v vl vu:Value) (lo hi:Option Int) (sl:Addr) (Q:VK),Inv X pins σ H s→RelV x v→s.heap.IsSliceOf sl vl vu .none→IsPart vl lo→IsPart vu hi→r x lo hi H Q→
  ∃ T id,typeLookup (.type T) "__getitem__"=pure (some (.builtin id))∧s.TypeIs v T∧wpAny (model X.prog X.w) X.A (getItem v (.ref sl)) (EP X pins σ Q) X.xe s
noncomputable abbrev tSl (r:V→Option Int→Option Int→Hp→VK→Prop) (te:TE) (tl th:TO):TE:=fun σ H Q=>te σ H fun x H1=>tl σ H1 fun l H2=>th σ H2 fun u H3=>r x l u H3 Q
theorem Mx {r:V→Option Int→Option Int→Hp→VK→Prop} (hr:SlR X r) (he:PE X e te) (hl:PO X lo tl) (hu:PO X hi th):PE X (.Subscript e (.Slice lo hi none p2) pos) (tSl r te tl th):=by
 intro pins s σ H Q I h
 refine Subscript_ (thn (he pins s σ H _ I h) fun v s1 ⟨x,H1,I1,r1,q1⟩=>?_)
 refine wpAny_Slice (thn (hl pins s1 σ H1 _ I1 q1) fun vl s2 ⟨l,H2,I2,pl,q2⟩=>thn (hu pins s2 σ H2 _ I2 q2) fun vu s3 ⟨u,H3,I3,pu,q3⟩=>?_)
 rw [evalPart_none]
 refine wpAny_pure ?_
 have I4:Inv X pins σ H3 {s3 with heap:=s3.heap.push {cls:= .type "slice",data:= .fields #[vl,vu,.none]}}:=I3.kept (t':=s3.toks) fun b ob q=>Heap.get?_push_of_some _ q
 obtain ⟨T,id,hT,ht,hg⟩:=hr pins {s3 with heap:=s3.heap.push {cls:= .type "slice",data:= .fields #[vl,vu,.none]}} σ H3 x v vl vu l u s3.heap.objs.size Q I4 r1 (Heap.IsSliceOf.new ..) pl pu q3
 show wpAny (model X.prog X.w) X.A (subscriptTail e (.Slice lo hi none p2) v (.ref s3.heap.objs.size)) (EP X pins σ Q) X.xe {s3 with heap:=s3.heap.push {cls:= .type "slice",data:= .fields #[vl,vu,.none]}}
 exact tail_any (ops:=[.ref s3.heap.objs.size,v]) ht hT hg (by with_unfolding_all rfl)
noncomputable def cutV (xs:List V) (lo hi:Option Int):List V:=(xs.drop (HT.sIx xs.length 0 lo)).take (HT.sIx xs.length xs.length hi - HT.sIx xs.length 0 lo)
theorem EM (xs:List V) (lo hi:Option Int):(cutV xs lo hi).length≤xs.length:=by
 unfold cutV
 rw [List.length_take,List.length_drop]
 omega
noncomputable def rSlT (K:PySem.W.Frag):V→Option Int→Option Int→Hp→VK→Prop:=fun x lo hi H Q=>∃ a xs,x= .ref a∧SqT K H a xs∧
 ¬ (HT.sIx xs.length 0 lo=0∧HT.sIx xs.length xs.length hi=xs.length)∧∀ p,H p=none→Q (.ref p) (upd H p (.tup (cutV xs lo hi)))
theorem Qz:SlR X (rSlT X.K):=by
 intro pins s σ H x v vl vu lo hi sl Q I rx hs pl pu h
 obtain ⟨a,xs,rfl,hx,hw,q⟩:=h
 cases rx
 obtain ⟨its,r,ht,hz⟩:=I.tuple hx
 have hlen:its.toArray.size=xs.length:=by rw [List.size_toArray];exact r.length.symm
 refine ⟨"tuple",_,PyProof.Rows.slot_tuple_getitem.lookup,ht.typeIs,?_⟩
 refine HT.getItem_tuple_cut ht hs pl pu (by rw [hlen];exact hw) ?_ (by rw [hlen];exact hz)
 rw [hlen]
 refine ⟨.ref s.heap.objs.size,_,I.laid (t':=s.toks) (o:= .tup (cutV xs lo hi)) (fun b ob q=>Heap.get?_push_of_some _ q) (Nat.le_refl _) ?_,rfl,q _ (I.hok.fresh (Nat.le_refl _))⟩
 exact ⟨Nat.le_trans (EM xs lo hi) hz,_,(r.drop (HT.sIx xs.length 0 lo)).take (HT.sIx xs.length xs.length hi - HT.sIx xs.length 0 lo),IsTup.new _ _⟩
end
noncomputable def ixN (n:Nat) (i:Int):Option Nat:=if 0≤i then (if i < n then some i.toNat else none) else if -(n:Int)≤i then some (i + n).toNat else none
noncomputable def atI {α:Type} (xs:List α) (i:Int):Option α:=(ixN xs.length i).bind fun j=>xs[j]?
theorem Kw {n:Nat} {i:Int} {j:Nat} (h:ixN n i=some j):seqIndex? i n=some j∧j < n∧-(n:Int)≤i∧i < n:=by
 unfold ixN at h
 by_cases h0:0≤i
 ·rw [if_pos h0] at h
  by_cases h1:i < n
  ·rw [if_pos h1] at h
   have e:i.toNat=j:=Option.some.inj h
   exact ⟨by rw [seqIndex_of h0 h1,e],by omega,by omega,h1⟩
  ·rw [if_neg h1] at h;cases h
 ·rw [if_neg h0] at h
  by_cases h1: -(n:Int)≤i
  ·rw [if_pos h1] at h
   have e:(i + n).toNat=j:=Option.some.inj h
   exact ⟨by rw [seqIndex_neg (by omega) h1,e],by omega,h1,by omega⟩
  ·rw [if_neg h1] at h;cases h
theorem Lm {α:Type} {xs:List α} {i:Int} {v:α} (h:atI xs i=some v):∃ j,seqIndex? i xs.length=some j∧xs[j]? =some v∧j < xs.length∧-(xs.length:Int)≤i∧i < xs.length:=by
 unfold atI at h
 cases e:ixN xs.length i with
 | none=>rw [e] at h;cases h
 | some j=>
   rw [e] at h
   obtain ⟨h1,h2,h3,h4⟩:=Kw e
   exact ⟨j,h1,h,h2,h3,h4⟩
theorem E8 {α:Type} {xs:List α} {j:Nat} {v:α} (h:xs[j]? =some v):atI xs (j:Int)=some v:=by
 have hj:j < xs.length:=(List.getElem?_eq_some_iff.mp h).1
 have e:ixN xs.length (j:Int)=some j:=by
  unfold ixN
  rw [if_pos (by omega),if_pos (by omega)];simp
 unfold atI;rw [e];exact h
noncomputable def Qb (b:Expr):Prop:=∀ o i,subscripted b false o i=operate [o,i] (getItem o i)
noncomputable def IxR (X:Cx) (r:R2):Prop:=
 ∀ (value slice:Expr) (pins:List (Addr×Obj)) (s:Shared) (σ:St) (H:Hp) (x y:V) (v u:Value) (Q:VK),Inv X pins σ H s→RelV x v→RelV y u→r x y H Q→
  subscripted slice false v u=operate [v,u] (getItem v u)→wpAny (model X.prog X.w) X.A (subscriptTail value slice v u) (EP X pins σ Q) X.xe s
noncomputable def MtR (X:Cx) (id:String) (r:V→List V→Hp→VK→Prop):Prop:=
 ∀ (pins:List (Addr×Obj)) (s:Shared) (σ:St) (H:Hp) (x:V) (xs:List V) (v:Value) (us:List Value) (Q:VK),Inv X pins σ H s→RelV x v→Vals xs us→r x xs H Q→
  wpAny (model X.prog X.w) X.A (call (.builtin id) (v::us)) (EP X pins σ Q) X.xe s
section
variable {X:Cx} {a b:Expr} {ta tb:TE} {pos:Pos}
theorem aX {r:R2} (hr:IxR X r) (ha:PE X a ta) (hb:PE X b tb) (hs:Qb b):PE X (.Subscript a b pos) (tOp r ta tb):=by
 intro pins s σ H Q I h
 exact Subscript_ (binT ha hb I h fun v u s2 x y H2 I2 rx ry q=>hr a b pins s2 σ H2 x y v u Q I2 rx ry q (hs _ _))
noncomputable def rIxL (K:PySem.W.Frag):R2:=fun x y H Q=>∃ p xs i v,x= .ref p∧y= .int i∧SqL K H p xs∧atI xs i=some v∧Q v H
noncomputable def rIxT (K:PySem.W.Frag):R2:=fun x y H Q=>∃ p xs i v,x= .ref p∧y= .int i∧SqT K H p xs∧atI xs i=some v∧Q v H
theorem Px:IxR X (rIxL X.K):=by
 intro value slice pins s σ H x y v u Q I rx ry h hs
 obtain ⟨p,xs,i,z,rfl,rfl,hq,he,q⟩:=h
 cases rx
 obtain ⟨t,rfl⟩:=ry
 obtain ⟨its,r,pl,hz⟩:=I.list hq
 obtain ⟨j,h1,h2,h3,h4,h5⟩:=Lm he
 obtain ⟨w,ew,rw'⟩:=r.get h2
 have hl:=r.length
 have hn:=FS
 have fin:EP X pins σ Q w s:=⟨z,H,I,rw',q⟩
 by_cases h0:0≤i
 ·have hj:i.toNat=j:=by
   rw [seqIndex_of h0 h5] at h1
   exact Option.some.inj h1
  exact item_listR pl.isList h0 (by omega) (by rw [hj];simpa using ew) fin hs
 ·have hj:(i + (its.toArray.size:Int)).toNat=j:=by
   rw [seqIndex_neg (by omega) h4] at h1
   rw [List.size_toArray,← hl]
   exact Option.some.inj h1
  exact subscriptTail_builtinR (x:=w) pl.isList.typeIs slot_list_getitem.lookup
   (wpAny_getItem_list_neg (Q:=fun r s'=>r=w∧EP X pins σ Q r s') pl.isList (by omega) (by rw [List.size_toArray]<;>omega) (by omega) (by rw [hj];simpa using ew) ⟨rfl,fin⟩) hs
theorem RJ:IxR X (rIxT X.K):=by
 intro value slice pins s σ H x y v u Q I rx ry h hs
 obtain ⟨p,xs,i,z,rfl,rfl,hq,he,q⟩:=h
 cases rx
 obtain ⟨t,rfl⟩:=ry
 obtain ⟨its,r,pl,hz⟩:=I.tuple hq
 obtain ⟨j,h1,h2,h3,h4,h5⟩:=Lm he
 obtain ⟨w,ew,rw'⟩:=r.get h2
 have hl:=r.length
 have hn:=FS
 have fin:EP X pins σ Q w s:=⟨z,H,I,rw',q⟩
 exact subscriptTail_builtinR (x:=w) pl.typeIs slot_tuple_getitem.lookup
  (getItem_tuple (j:=j) (Q:=fun r s'=>r=w∧EP X pins σ Q r s') pl (by omega) (by omega) (by rw [List.size_toArray,← hl];exact h1) (by simpa using ew) ⟨rfl,fin⟩) hs
theorem Hg (its:List Value) (n j:Nat) (u:Value):Obj.mapSeq (·.setIfInBounds j u) {cls:= .type "list",data:= .seq its.toArray n}={cls:= .type "list",data:= .seq (its.set j u).toArray n}:=by
 simp [Obj.mapSeq]
theorem Inv.lst {pins:List (Addr×Obj)} {σ:St} {H:Hp} {s:Shared} {p:Addr} {xs:List V} (I:Inv X pins σ H s) (h:H p=some (.lst xs)):
  ∃ (its:List Value) (n:Nat),Vals xs its∧s.heap.get? p=some {cls:= .type "list",data:= .seq its.toArray n}∧xs.length≤sizeLine:=by
 obtain ⟨z,its,n,r,e⟩:=I.hok p _ h
 exact ⟨its,n,r,e,z⟩
theorem Inv.lstUpd {pins:List (Addr×Obj)} {σ:St} {H:Hp} {s:Shared} {p:Addr} {xs ys:List V} {its its':List Value} {n n':Nat} {f:Obj→Obj} (I:Inv X pins σ H s) (h:H p=some (.lst xs))
  (ho:s.heap.get? p=some {cls:= .type "list",data:= .seq its.toArray n}) (hf:f {cls:= .type "list",data:= .seq its.toArray n}={cls:= .type "list",data:= .seq its'.toArray n'}) (r:Vals ys its') (hz:ys.length≤sizeLine) (t:Nat):
  Inv X pins σ (upd H p (.lst ys)) {s with heap:=s.heap.update p f,toks:=t}:=by
 have e:(s.heap.update p f).get? p=some {cls:= .type "list",data:= .seq its'.toArray n'}:=by
  rw [Heap.get?_update_self f ho (by rw [hf]<;>rfl),hf]
 refine I.write (x:=p) (e:=p) (by rw [h];trivial) (.inl rfl) (fun b u hb q=>(Heap.get?_update_other _ _ (Ne.symm hb)).trans q) ⟨_,e⟩ ?_
 exact ⟨hz,its',n',r,e⟩
noncomputable def Q3:V→V→V→Hp→(Hp→Prop)→Prop:=fun o i v H Q=>∃ p xs k j,o= .ref p∧i= .int k∧H p=some (.lst xs)∧ixN xs.length k=some j∧Q (upd H p (.lst (xs.set j v)))
theorem Mc:PSet X Q3:=by
 intro pins s σ H o i v ov iv u Q I ro ri rv h
 obtain ⟨p,xs,k,j,rfl,rfl,hp,hj,q⟩:=h
 cases ro
 obtain ⟨t,rfl⟩:=ri
 obtain ⟨its,n,r,ho,hz⟩:=I.lst hp
 obtain ⟨h1,h2,h3,h4⟩:=Kw hj
 have hl:=r.length
 have hn:=FS
 have I':Inv X pins σ (upd H p (.lst (xs.set j v))) {s with heap:=s.heap.update p (Obj.mapSeq (·.setIfInBounds j u))}:=
  I.lstUpd hp ho (Hg its n j u) (r.set rv j) (by rw [List.length_set];exact hz) s.toks
 by_cases h0:0≤k
 ·have hk:k.toNat=j:=by
   rw [seqIndex_of h0 h4] at h1
   exact Option.some.inj h1
  exact PySem.W.ki_setAt ho h0 (by omega) (by rw [List.size_toArray,← hl];exact h4) (by rw [hk];exact ⟨_,I',q⟩)
 ·have hk:(k + (its.toArray.size:Int)).toNat=j:=by
   rw [seqIndex_neg (by omega) h3] at h1
   rw [List.size_toArray,← hl]
   exact Option.some.inj h1
  exact PySem.W.ki_setBack ho (by omega) (by rw [List.size_toArray,← hl];exact h3) (by omega) (by rw [hk];exact ⟨_,I',q⟩)
noncomputable def jK:V→Bool
 | .non=>true
 | .bl _=>true
 | .int _=>true
 | .str _=>true
 | _=>false
noncomputable def eqV:V→V→Bool
 | .non,.non=>true
 | .bl a,.bl b=>a == b
 | .bl a,.int b=>(if a then 1 else 0) == b
 | .int a,.bl b=>a == (if b then 1 else 0)
 | .int a,.int b=>a == b
 | .str a,.str b=>a == b
 | _,_=>false
theorem N4 {A:Around} {s:Shared} {y x:V} {u v:Value} (ry:RelV y u) (rx:RelV x v) (fy:jK y=true) (fx:jK x=true):SeqAt.EqAt A s u v (eqV y x):=by
 cases y with
 | non=>
   cases ry
   cases x with
   | non=>cases rx;exact SeqAt.EqAt.same _
   | bl b=>cases rx;exact SeqAt.EqAt.none_bool b
   | int b=>obtain ⟨t,rfl⟩:=rx;exact SeqAt.EqAt.none_int b t
   | str b=>obtain ⟨t,rfl⟩:=rx;exact SeqAt.EqAt.none_str b t
   | _=>exact absurd (show false=true from fx) Bool.false_ne_true
 | bl a=>
   cases ry
   cases x with
   | non=>cases rx;exact SeqAt.EqAt.bool_none a
   | bl b=>cases rx;exact SeqAt.EqAt.bool_bool a b
   | int b=>obtain ⟨t,rfl⟩:=rx;exact SeqAt.EqAt.bool_int a b t
   | str b=>obtain ⟨t,rfl⟩:=rx;exact SeqAt.EqAt.bool_str a b t
   | _=>exact absurd (show false=true from fx) Bool.false_ne_true
 | int a=>
   obtain ⟨t',rfl⟩:=ry
   cases x with
   | non=>cases rx;exact SeqAt.EqAt.int_none a t'
   | bl b=>cases rx;exact SeqAt.EqAt.int_bool a t' b
   | int b=>obtain ⟨t,rfl⟩:=rx;exact SeqAt.EqAt.int_int a t' b t
   | str b=>obtain ⟨t,rfl⟩:=rx;exact SeqAt.EqAt.int_str a t' b t
   | _=>exact absurd (show false=true from fx) Bool.false_ne_true
 | str a=>
   obtain ⟨t',rfl⟩:=ry
   cases x with
   | non=>cases rx;exact SeqAt.EqAt.str_none a t'
   | bl b=>cases rx;exact SeqAt.EqAt.str_bool a t' b
   | int b=>obtain ⟨t,rfl⟩:=rx;exact SeqAt.EqAt.str_int a t' b t
   | str b=>obtain ⟨t,rfl⟩:=rx;exact SeqAt.EqAt.str_str a t' b t
   | _=>exact absurd (show false=true from fx) Bool.false_ne_true
 | _=>exact absurd (show false=true from fy) Bool.false_ne_true
noncomputable def eqU (x:V) (u:Value):Bool:=match u with
 | .none=>eqV .non x
 | .bool b=>eqV (.bl b) x
 | .int i _=>eqV (.int i) x
 | .str z _=>eqV (.str z) x
 | _=>false
theorem N1 {x y:V} {u:Value} (r:RelV y u) (f:jK y=true):eqU x u=eqV y x:=by
 cases y with
 | non=>cases r;rfl
 | bl b=>cases r;rfl
 | int i=>obtain ⟨t,rfl⟩:=r;rfl
 | str z=>obtain ⟨t,rfl⟩:=r;rfl
 | _=>exact absurd (show false=true from f) Bool.false_ne_true
theorem E9 {x:V}:∀ {xs:List V} {us:List Value},Vals xs us→xs.all jK=true→us.any (eqU x)=xs.any fun y=>eqV y x
 | _,_,.nil,_=>rfl
 | y::xs,u::us,.cons r t,f=>by
   rw [List.all_cons,Bool.and_eq_true] at f
   rw [List.any_cons,List.any_cons,N1 r f.1,E9 t f.2]
theorem zg {A:Around} {s:Shared} {x:V} {v:Value} (rx:RelV x v) (fx:jK x=true):∀ {xs:List V} {us:List Value},Vals xs us→xs.all jK=true→∀ u∈us,SeqAt.EqAt A s u v (eqU x u)
 | _,_,.nil,_=>fun u hu=>by cases hu
 | y::xs,u::us,.cons r t,f=>fun u' hu=>by
   rw [List.all_cons,Bool.and_eq_true] at f
   rcases List.mem_cons.mp hu with rfl | hu
   ·rw [N1 r f.1];exact N4 r rx f.1 fx
   ·exact zg rx fx t f.2 u' hu
noncomputable def inV (x:V) (xs:List V):Bool:=xs.any fun y=>eqV y x
noncomputable def rIn (K:PySem.W.Frag) (neg:Bool):R2:=fun x y H Q=>∃ p xs,y= .ref p∧(SqL K H p xs∨SqT K H p xs)∧jK x=true∧xs.all jK=true∧Q (.bl (if neg then !inV x xs else inV x xs)) H
theorem A2:OpR X (compareOp .NotIn) (rIn X.K true):=by
 intro pins s σ H x y v u Q I rx ry h
 obtain ⟨p,xs,rfl,hq,fx,fs,q⟩:=h
 cases ry
 rcases hq with hq | hq
 ·obtain ⟨its,r,pl,hz⟩:=I.list hq
  refine SeqAt.notIn_listAt (eqU x) pl.isList (fun w hw=>zg rx fx r fs w (by simpa using hw)) ⟨.bl _,H,I,rfl,?_⟩
  rw [show its.toArray.any (eqU x)=its.any (eqU x) by simp,E9 r fs]
  exact q
 ·obtain ⟨its,r,pl,hz⟩:=I.tuple hq
  refine SeqAt.notIn_tupleAt (eqU x) pl (fun w hw=>zg rx fx r fs w (by simpa using hw)) ⟨.bl _,H,I,rfl,?_⟩
  rw [show its.toArray.any (eqU x)=its.any (eqU x) by simp,E9 r fs]
  exact q
theorem Cq:mi X (.type "list") (fun xs H Q=>∃ p ys,xs=[.ref p]∧(SqL X.K H p ys∨SqT X.K H p ys)∧∀ l,H l=none→Q (.ref l) (upd H l (.lst ys))):=by
 intro pins s σ H xs us Q I r h
 obtain ⟨p,ys,rfl,hq,q⟩:=h
 obtain ⟨u,rfl,rx⟩:=IW r
 cases rx
 have fin:∀ (its:List Value),Vals ys its→ys.length≤sizeLine→∀ (h':Heap) (c':Nat),(∀ b o',s.heap.get? b=some o'→h'.get? b=some o')→
   h'.get? s.heap.objs.size=some {cls:= .type "list",dict:=none,data:= .seq its.toArray c',slots:=#[]}→EP X pins σ Q (.ref s.heap.objs.size) {s with heap:=h'}:=fun its r' hz h' c' kp e=>
  ⟨.ref s.heap.objs.size,_,I.laid (t':=s.toks) kp (Nat.le_refl _) (show fm X.prog X.w _ h' _ (.lst ys) from ⟨hz,its,c',r',e⟩),rfl,q _ (I.hok.fresh (Nat.le_refl _))⟩
 rcases hq with hq | hq
 ·obtain ⟨its,r',pl,hz⟩:=I.list hq
  have hlen:=r'.length
  obtain ⟨o,ho,hc,n,hd⟩:=pl.isList
  exact call_list_seq p (.inl rfl) ho hc hd (fun h' c' kp e=>fin its r' hz h' c' kp e) (by simp only [List.size_toArray]<;>omega)
 ·obtain ⟨its,r',pl,hz⟩:=I.tuple hq
  have hlen:=r'.length
  obtain ⟨o,ho,hc,n,hd⟩:=pl
  exact call_list_seq p (.inr rfl) ho hc hd (fun h' c' kp e=>fin its r' hz h' c' kp e) (by simp only [List.size_toArray]<;>omega)
theorem zY:mi X (.type "tuple") (fun xs H Q=>∃ p ys,xs=[.ref p]∧((SqL X.K H p ys∧∀ l,H l=none→Q (.ref l) (upd H l (.tup ys)))∨(SqT X.K H p ys∧Q (.ref p) H))):=by
 intro pins s σ H xs us Q I r h
 obtain ⟨p,ys,rfl,h⟩:=h
 obtain ⟨u,rfl,rx⟩:=IW r
 cases rx
 rcases h with ⟨hq,q⟩ | ⟨hq,q⟩
 ·obtain ⟨its,r',pl,hz⟩:=I.list hq
  have hlen:=r'.length
  refine call_tuple_list pl.isList (fun h' kp=>?_) (by simp only [List.size_toArray]<;>omega)
  have I1:Inv X pins σ H {s with heap:=h'}:=I.kept (t':=s.toks) kp
  have I2:Inv X pins σ (upd H h'.objs.size (.tup ys)) {s with heap:=h'.push {cls:= .type "tuple",data:= .seq its.toArray}}:=
   I1.laid (t':=s.toks) (fun b o e=>Heap.get?_push_of_some _ e) (Nat.le_refl _) (show fm X.prog X.w _ _ _ (.tup ys) from ⟨hz,its,r',IsTup.new _ _⟩)
  exact ⟨.ref h'.objs.size,_,I2,rfl,q _ (I1.hok.fresh (Nat.le_refl _))⟩
 ·obtain ⟨its,r',pl,hz⟩:=I.tuple hq
  exact call_tuple_same pl ⟨.ref p,H,I,rfl,q⟩
noncomputable def tyV (K:PySem.W.Frag) (T:String) (x:V) (H:Hp):Prop:=match x with
 | .str _=>T="str"
 | .int _=>T="int"
 | .ref p=>(T="list"∧∃ xs,SqL K H p xs)∨(T="tuple"∧∃ o,K.lookup p=some o∧o.cls= .type "tuple"∧o.dict=none)∨
   (T="dict"∧((∃ kvs,H p=some (.dK kvs))∨∃ kvs,H p=some (.dT kvs)))∨(T="set"∧∃ S n,H p=some (.set S n))
 | _=>False
theorem Nr {pins:List (Addr×Obj)} {σ:St} {H:Hp} {s:Shared} {T:String} {x:V} {v:Value} (I:Inv X pins σ H s) (r:RelV x v) (ty:tyV X.K T x H):
  s.TypeIs v T∧∀ a,v= .ref a→∃ ob,s.heap.get? a=some ob∧ob.dict=none:=by
 cases x with
 | str z=>
   obtain ⟨t,rfl⟩:=r
   cases (show T="str" from ty)
   exact ⟨typeIs_str s z t,fun _ e=>nomatch e⟩
 | int i=>
   obtain ⟨t,rfl⟩:=r
   cases (show T="int" from ty)
   exact ⟨typeIs_int s i t,fun _ e=>nomatch e⟩
 | ref p=>
   cases r
   rcases ty with ⟨rfl,xs,hq⟩ | ⟨rfl,o,hk,hc,hd⟩ | ⟨rfl,hk⟩ | ⟨rfl,S,n,hk⟩
   ·obtain ⟨its,_,pl,_⟩:=I.list hq
    refine ⟨pl.isList.typeIs,fun a e=>?_⟩
    cases e
    obtain ⟨o,n,e,c,hd,_⟩:=pl
    exact ⟨o,e,hd⟩
   ·refine ⟨⟨o,I.kIn p o hk,hc⟩,fun a e=>?_⟩
    cases e
    exact ⟨o,I.kIn _ o hk,hd⟩
   ·have z:∃ o,s.heap.get? p=some o∧o.ExactDict:=by
     rcases hk with ⟨kvs,hk⟩ | ⟨kvs,hk⟩
     ·obtain ⟨_,_,_,_,o,_,_,e,ex,_⟩:=I.hok p _ hk
      exact ⟨o,e,ex⟩
     ·obtain ⟨_,_,_,_,o,_,_,e,ex,_⟩:=I.hok p _ hk
      exact ⟨o,e,ex⟩
    obtain ⟨o,e,ex⟩:=z
    refine ⟨⟨o,e,ex.1⟩,fun a e2=>?_⟩
    cases e2
    exact ⟨o,e,ex.2.1⟩
   ·obtain ⟨o,_,_,_,e,ex,_⟩:=I.hok p _ hk
    refine ⟨⟨o,e,ex.1⟩,fun a e2=>?_⟩
    cases e2
    exact ⟨o,e,ex.2.1⟩
 | _=>exact False.elim ty
noncomputable abbrev tBM0 (K:PySem.W.Frag) (T:String) (r:V→List V→Hp→VK→Prop) (to:TE):TE:=fun σ H Q=>to σ H fun x H1=>tyV K T x H1∧r x [] H1 Q
noncomputable abbrev tBM (K:PySem.W.Frag) (T:String) (r:V→List V→Hp→VK→Prop) (to:TE) (t:TA):TE:=fun σ H Q=>to σ H fun x H1=>tyV K T x H1∧t σ H1 fun xs H2=>r x xs H2 Q
variable {o e:Expr} {es:List Expr} {to:TE} {t:TA} {name:Str} {apos cpos:Pos} {T id:String} {r:V→List V→Hp→VK→Prop}
theorem Rj (pa:PlainAttrs T) (slot:Slot T name id) (hty:typeOf (.builtin id)=pure (.type "method_descriptor")) (hm:MtR X id r) (ho:PE X o to)
  (hbase:attributeBase o name X.env (eval o X.env)=eval o X.env:=by rfl) (hline:(apos.endLine == cpos.line)=true:=by rfl):PE X (.Call (.Attribute o name apos) [] [] cpos) (tBM0 X.K T r to):=by
 intro pins s σ H Q I h
 refine wpAny_Call_method0_late hbase hline (thn (ho pins s σ H _ I h) fun v s1 ⟨x,H1,I1,r1,ty,q1⟩=>?_)
 obtain ⟨h1,h2⟩:=Nr I1 r1 ty
 exact ⟨T,id,pa,slot,hty,h1,h2,Calls.callWith_builtin rfl (PySem.evalArgs_none (hm pins s1 σ H1 x [] v [] Q I1 r1 .nil q1))⟩
theorem SY (pa:PlainAttrs T) (slot:Slot T name id) (hty:typeOf (.builtin id)=pure (.type "method_descriptor")) (hm:MtR X id r) (ho:PE X o to) (ha:PA X (e::es) t)
  (hbase:attributeBase o name X.env (eval o X.env)=eval o X.env:=by rfl)
  (hfew:((backTo cpos (starEach (e::es) X.env)).all (fun x=> !x.1)&&(backToKw cpos (keywordEach [] X.env)).all (fun x=>x.1.isSome)
   &&decide ((e::es).length + ([]:List Keyword).length + (if ([]:List Keyword).isEmpty then 0 else 1) < 30))=true:=by rfl)
  (hline:(apos.endLine == cpos.line)=true:=by rfl) (hs:starEach (e::es) X.env=(false,eval e X.env)::starEach es X.env:=by rfl) (hplain:(backTo cpos (starEach es X.env)).any (·.1)=false:=by rfl):
  PE X (.Call (.Attribute o name apos) (e::es) [] cpos) (tBM X.K T r to t):=by
 intro pins s σ H Q I h
 refine wpAny_Call_method_late hbase hfew hline rfl (thn (ho pins s σ H _ I h) fun v s1 ⟨x,H1,I1,r1,ty,q1⟩=>?_)
 obtain ⟨h1,h2⟩:=Nr I1 r1 ty
 refine ⟨T,id,pa,slot,hty,h1,h2,?_⟩
 have hA:=ha cpos pins s1 σ H1 _ I1 q1
 rw [hs] at hA ⊢
 refine Calls.callWith_builtin (by show (false||(backTo cpos (starEach es X.env)).any (·.1))=false;rw [hplain]<;>rfl) (Calls.evalArgs_plain ?_)
 exact thn hA fun us s2 ⟨vs,H2,I2,r2,q2⟩=>hm pins s2 σ H2 x vs v us Q I2 r1 r2 q2
end
noncomputable def MtM (X:Cx) (id:String) (r:V→List V→Hp→VK→Prop):Prop:=
 ∀ (pins:List (Addr×Obj)) (s:Shared) (σ:St) (H:Hp) (x:V) (xs:List V) (v:Value) (us:List Value) (Q:VK),Inv X pins σ H s→RelV x v→Vals xs us→r x xs H Q→
  wpAny (model X.prog X.w) X.A (call (.builtin id) (v::us)) (EP X pins σ Q) X.xe s
theorem Vals.one:∀ {x:V} {us:List Value},Vals [x] us→∃ u,us=[u]∧RelV x u
 | _,_,.cons r .nil=>⟨_,rfl,r⟩
theorem Vals.zero:∀ {us:List Value},Vals [] us→us=[]
 | _,.nil=>rfl
theorem Vals.rep {xs:List V} {us:List Value} (h:Vals xs us):∀ k:Nat,Vals (List.replicate k xs).flatten (List.replicate k us).flatten
 | 0=> .nil
 | k + 1=>by
   rw [List.replicate_succ,List.replicate_succ,List.flatten_cons,List.flatten_cons]
   exact Vals.append h (Vals.rep h k)
theorem BQ (its:List Value):∀ (k:Nat) (acc:List Value),
  List.foldl (fun x1 x2=>x1++x2) acc.toArray (List.replicate k its.toArray)=(acc++(List.replicate k its).flatten).toArray
 | 0,acc=>by simp
 | k + 1,acc=>by
   have e:acc.toArray++its.toArray=(acc++its).toArray:=by simp
   have e2:(acc++its)++(List.replicate k its).flatten=acc++(List.replicate (k + 1) its).flatten:=by
    rw [List.replicate_succ,List.flatten_cons,List.append_assoc]
   rw [← e2,← BQ its k (acc++its),← e,List.replicate_succ,List.foldl_cons]
section
variable {X:Cx} {pins:List (Addr×Obj)} {σ:St} {H:Hp} {s:Shared} {l b:Addr} {xs ys zs:List V}
theorem Inv.lset {its its':List Value} {n:Nat} {f:Array Value→Array Value} {t':Nat} (I:Inv X pins σ H s) (hH:H l=some (.lst xs))
  (e:s.heap.get? l=some {cls:= .type "list",data:= .seq its.toArray n}) (hf:f its.toArray=its'.toArray) (hv:Vals ys its') (hz:ys.length≤sizeLine):
  Inv X pins σ (upd H l (.lst ys)) {s with heap:=s.heap.update l (Obj.mapSeq f),toks:=t'}:=by
 have q:=PySem.IsL.update e f
 rw [hf] at q
 refine I.write (x:=l) (e:=l) (by rw [hH];exact trivial) (.inl rfl) (fun b' u hb hu=>(Heap.get?_update_other s.heap (Obj.mapSeq f) (Ne.symm hb)).trans hu) ⟨_,q⟩ ?_
 exact ⟨hz,its',_,hv,q⟩
theorem Inv.lnew {its:List Value} {t':Nat} (I:Inv X pins σ H s) (hv:Vals ys its) (hz:ys.length≤sizeLine):
  Inv X pins σ (upd H s.heap.objs.size (.lst ys)) {s with heap:=s.heap.push {cls:= .type "list",data:= .seq its.toArray},toks:=t'}:=
 I.laid (fun _ _ q=>Heap.get?_push_of_some _ q) (Nat.le_refl _) ⟨hz,its,0,hv,Heap.get?_push_size _ rfl⟩
theorem Inv.fresh (I:Inv X pins σ H s):H s.heap.objs.size=none:=I.hok.fresh (Nat.le_refl _)
theorem Inv.lstM (I:Inv X pins σ H s) (hH:H l=some (.lst xs)):xs.length≤sizeLine∧∃ (its:List Value) (n:Nat),Vals xs its∧xs.length=its.length∧s.heap.get? l=some {cls:= .type "list",data:= .seq its.toArray n}:=by
 obtain ⟨z,its,n,r,e⟩:=I.hok l _ hH
 exact ⟨z,its,n,r,r.length,e⟩
theorem ME {n:Nat} (h:n≤sizeLine):Builtin.List.listTooLong n=false:=by
 unfold Builtin.List.listTooLong
 exact decide_eq_false (by omega)
end
section
variable {X:Cx}
noncomputable def JH:V→List V→Hp→VK→Prop:=fun x vs H Q=>∃ l xs y,x= .ref l∧vs=[y]∧H l=some (.lst xs)∧xs.length < sizeLine∧Q .non (upd H l (.lst (xs++[y])))
theorem eV:MtM X "list.append" JH:=by
 intro pins s σ H x vs v us Q I rx rv h
 obtain ⟨l,xs,y,rfl,rfl,hH,hz,q⟩:=h
 cases rx
 obtain ⟨u,rfl,ru⟩:=rv.one
 obtain ⟨z,its,n,r,hl,e⟩:=I.lstM hH
 refine call_meets F.slot_list_append ⟨_,e,rfl⟩ F.entry_list_append (F.args_list_append_2 _ _) (PySem.list_append l its.toArray n u (by rw [List.size_toArray];omega)) ⟨e,?_⟩
 refine ⟨.non,_,I.lset (its':=its++[u]) hH e (by simp) (r.append (.cons ru .nil)) ?_,rfl,q⟩
 rw [List.length_append,List.length_singleton]
 omega
noncomputable def NJ:V→List V→Hp→VK→Prop:=fun x vs H Q=>∃ l xs,x= .ref l∧vs=[]∧H l=some (.lst xs)∧Q .non (upd H l (.lst []))
theorem MJ:MtM X "list.clear" NJ:=by
 intro pins s σ H x vs v us Q I rx rv h
 obtain ⟨l,xs,rfl,rfl,hH,q⟩:=h
 cases rx
 have hus:=rv.zero
 subst hus
 obtain ⟨z,its,n,r,hl,e⟩:=I.lstM hH
 refine call_meets F.slot_list_clear ⟨_,e,rfl⟩ F.entry_list_clear (F.args_list_clear_1 _) (AutoSeq1.list_clear_list_0 l its.toArray n (by rw [List.size_toArray];omega)) ⟨e,?_⟩
 exact ⟨.non,_,I.lset (its':=[]) (ys:=[]) hH e rfl .nil (Nat.zero_le _),rfl,q⟩
noncomputable def rCat:R2:=fun x y H Q=>∃ l b xs zs,x= .ref l∧y= .ref b∧H l=some (.lst xs)∧H b=some (.lst zs)∧xs.length + zs.length≤sizeLine∧∀ p,H p=none→Q (.ref p) (upd H p (.lst (xs++zs)))
theorem mx:OpR X (binaryOp .Add) rCat:=by
 intro pins s σ H x y v u Q I rx ry h
 obtain ⟨l,b,xs,zs,rfl,rfl,hH,hB,hz,q⟩:=h
 cases rx
 cases ry
 obtain ⟨z,its,n,r,hl,e⟩:=I.lstM hH
 obtain ⟨z2,its2,n2,r2,hl2,e2⟩:=I.lstM hB
 refine PySem.P.add_list e e2 ?_ (by rw [List.size_toArray,List.size_toArray];omega)
 have ea:its.toArray++its2.toArray=(its++its2).toArray:=by simp
 rw [ea]
 exact ⟨.ref _,_,I.lnew (t':=s.toks) (r.append r2) (by rw [List.length_append];omega),rfl,q _ I.fresh⟩
noncomputable def rRep:R2:=fun x y H Q=>∃ l k xs,x= .ref l∧y= .int k∧H l=some (.lst xs)∧-(2 ^ 63)≤k∧k < 2 ^ 63∧xs.length * k.toNat≤sizeLine∧
 ∀ p,H p=none→Q (.ref p) (upd H p (.lst (List.replicate k.toNat xs).flatten))
theorem Pq {α:Type} (xs:List α) (k:Nat):(List.replicate k xs).flatten.length=k * xs.length:=by
 induction k with
 | zero=>simp
 | succ k ih=>rw [List.replicate_succ,List.flatten_cons,List.length_append,ih,Nat.succ_mul,Nat.add_comm]
theorem JQ:OpR X (binaryOp .Mult) rRep:=by
 intro pins s σ H x y v u Q I rx ry h
 obtain ⟨l,k,xs,rfl,rfl,hH,h1,h2,hz,q⟩:=h
 cases rx
 obtain ⟨t,rfl⟩:=ry
 obtain ⟨z,its,n,r,hl,e⟩:=I.lstM hH
 have hlen:its.toArray.size * k.toNat≤sizeLine:=by rw [List.size_toArray,← hl];exact hz
 have hcap:¬ its.toArray.size * k.toNat > (2 ^ 63 - 1) / 8:=by
  have:(sizeLine:Nat)≤(2 ^ 63 - 1) / 8:=by decide
  omega
 have hfit:¬ (!Builtin.List.listFitsIndex k)=true:=by
  rw [fitsIndex_both h1 h2]
  exact Bool.false_ne_true
 have hlong:¬ Builtin.List.listTooLong (its.toArray.size * k.toNat)=true:=by
  rw [ME hlen]
  exact Bool.false_ne_true
 have hnew:List.foldl (fun x1 x2=>x1++x2) #[] (List.replicate (if its.toArray.isEmpty=true then 0 else k.toNat) its.toArray)=(List.replicate k.toNat its).flatten.toArray:=by
  have f0:∀ m:Nat,List.foldl (fun x1 x2=>x1++x2) #[] (List.replicate m its.toArray)=(List.replicate m its).flatten.toArray:=fun m=>by
   have:=BQ its m []
   rw [List.nil_append] at this
   exact this
  rw [f0]
  cases its with
  | nil=>simp
  | cons a r'=>rw [if_neg (by simp)]
 refine wpAny_binaryOp_repeat_ref (T:="list") (U:="int") (by decide) ⟨_,e,rfl⟩ (fun s'=>typeIs_int s' k t) noFill_list_mul F.fills_int_mul F.slot_int_rmul repeat_list F.slot_int_index.lookup
  (call_meets F.slot_int_rmul (typeIs_int s k t) F.entry_int_rmul (F.args_int_rmul_2 _ _) (int___rmul___int_list k t l its.toArray n)
   ⟨e,rfl,⟨_,e,rfl⟩,call_meets F.slot_list_mul ⟨_,e,rfl⟩ F.entry_list_mul (F.args_list_mul_2 _ _) (AutoListH.list___mul___list_int_3 l its.toArray n k t hfit hcap hlong) ⟨e,?_⟩⟩)
 rw [hnew]
 exact ⟨.ref _,_,I.lnew (t':=s.toks) (r.rep k.toNat) (by rw [Pq,Nat.mul_comm];exact hz),rfl,q _ I.fresh⟩
end
end L2
namespace Att
open PySem PySem.W PySem.Calls PyProof.Rows
theorem vb {P:Params} {h:Heap}:∀ (ns:List Int) (vs:List Value),WellAll P h vs (ns.map WData.int)→IntsAre vs ns:=by
 intro ns
 induction ns with
 | nil=>
   intro vs w
   rw [List.map_nil] at w
   cases w
   exact .nil
 | cons n ns ih=>
   intro vs w
   rw [List.map_cons] at w
   cases w with
   | cons a b=>
     cases a
     exact .cons _ _ (ih _ b)
theorem Jv {l:OpenLaw} {n:Nat} (hn:l.most=some n) {P:Params} {h:Heap} {args:List WData} {vals:List Value}
  (hpre:l.row.toRowW.claim.pre args=true) (hwl:WellAll P h vals args):
  ∃ a vs ns,vals=[Value.ref a]∧args=[WData.list (ns.map WData.int)]∧h.get? a=some {cls:= .type "list",data:= .seq vs.toArray}∧IntsAre vs ns∧ns.length≤n:=by
 have hsh:WShape.hasAll [] args [.list .int]=true:=(pre_splitW hpre).1
 have hc:l.pre.holds [] {args:=args}=true:=(pre_splitW hpre).2
 obtain ⟨d,r,rfl,h1,h2⟩:=hasAllW_cons hsh
 obtain rfl:=hasAllW_nil h2
 obtain ⟨xs,rfl,h3⟩:=hasW_list h1
 obtain ⟨ns,rfl⟩:=items_int h3
 have hlen:ns.length≤n:=by
  unfold OpenLaw.pre at hc
  have h4:(WTm.not (.lt (.lit (.int (n:Int))) (.len (.arg 0)))).holds [] {args:=[.list (ns.map .int)]}=true:=by
   have h4:=(holds_andW hc).1
   rw [hn] at h4
   exact h4
  have h5:=condW_of h4 (w_not (w_lt w_lit (w_len_list (w_arg rfl))))
  rw [List.length_map] at h5
  refine Nat.le_of_not_lt fun q=>?_
  have q':(n:Int) < ((ns.length:Nat):Int):=by omega
  first
   | (rw [decide_eq_true q'] at h5;exact absurd h5 (by decide))
   | (simp at h5;omega)
 cases hwl with
 | cons w1 w2=>
   cases w2
   cases w1 with
   | list ho hall=>exact ⟨_,_,ns,rfl,rfl,ho,vb ns _ hall,hlen⟩
theorem JI (l:OpenLaw) (args:List WData):l.row.toRowW.claim.post args (.bool true) args=true:=
 postW_of (r:=l.row.toRowW) (X:=(true == true))
  (show WShape.has [] (.bool true) .bool=true by first | rfl | decide | simp [WShape.has,WShape.arms,WShape.armsAll])
  (show (WTm.eq .res (.lit (.bool true))).value [] {args:=args,res:=some (.bool true),after:=args}=some (.bool (true == true)) from w_eq_bool (w_res rfl) w_lit) rfl
theorem attach_call {l:OpenLaw} {n:Nat} {q:Program} {loose:List Str} {XP:(Str→Option Value)→Heap→Prop} {YP:World→Heap→Prop} {d:DefRec}
  (hn:l.most=some n) (hdf:d.params.defaults=[])
  (call:∀ (w:World) (s₀ s₁:Shared) (mg mb:Str→Option Value) (fa:Addr) (o:Obj) (pm cd doc:Value) (a:Addr) (vs:List Value) (ns:List Int),
   Ground q loose [] XP w s₀ mg mb s₁.heap→YP w s₁.heap→
   s₁.heap.get? fa=some o→o.data= .func (docDef d.name d.params d.body d.scope pm cd doc)→s₁.heap.CodeRec cd d.name→mg d.name=some (.ref fa)→
   s₁.heap.get? a=some {cls:= .type "list",data:= .seq vs.toArray}→IntsAre vs ns→ns.length≤n→s₁.gens=#[]→
   codeAny (model l.prog w) callerA (.call (.ref fa) ⟨[.ref a],[]⟩) (fun r s'=>r= .ok (.ret (.bool true))∧OldK s₁.heap s'.heap∧s'.os=s₁.os∧AllBare s'.gens) s₁):
  WalkO q loose XP YP l.row.toRowW d [] (fun f vs=>PySem.call f vs):=by
 intro w s₀ s₁ mg mb G Y fa o pm cd doc dV kV ho hd hcd hD hmg hg args vals as hpre hlay hrd hwl hlo
 obtain rfl:dV= .none:=Dflts.none hD hdf
 obtain rfl:kV= .none:=Dflts.noKw hD
 obtain ⟨a,vs,ns,rfl,rfl,hobj,hints,hlen⟩:=Jv hn hpre hwl
 refine enter_call (codeAny_mono (call w s₀ s₁ mg mb fa o pm cd doc a vs ns G Y ho (fd_plain hd) hcd hmg hobj hints hlen hg) fun r s' hq=>?_)
 obtain ⟨rfl,h2,h3,h4⟩:=hq
 exact ⟨.inl ⟨.bool true,.bool true,[],rfl,fun _=>rfl,.bool true,JI l _,fun _=>⟨List.Pairwise.nil,fun _ hm=>(nomatch hm)⟩⟩,h2,h3,h4⟩
end Att
namespace L2
open PySem PySem.Spec PyProof.Rows
theorem tq:∀ {vs:List Value} {ns:List Int},IntsAre vs ns→Vals (ns.map V.int) vs
 | _,_,.nil=> .nil
 | _,_,.cons n t h=> .cons ⟨t,rfl⟩ (tq h)
noncomputable def Only (H:Hp):Prop:=∀ b,H b=none∨∃ o xs,H b=some (.frz o (.lst xs))
theorem MN {P:Program} {w:World} {K:PySem.W.Frag} {mg mb:Str→Option Value} {CX:CXT} {k:Nat} {fa a:Addr} {fd:FuncData} {x:Str} {sp:Sp} {s₁:Shared} {vs:List Value} {ns:List Int}
  (KX:K.In s₁.heap) (hns:s₁.heap.Ns mainGlobals mg) (hb:s₁.heap.Ns builtinsNs mb) (hbb:∀ x:Str,x≠"__name__"→mb x=bootBuiltins x) (hlim:s₁.heap.NoLimit) (hg:s₁.gens=#[])
  (ha:s₁.heap.get? a=some {cls:= .type "list",data:= .seq vs.toArray}) (hi:IntsAre vs ns) (hl:ns.length≤sizeLine) (hr:Room k callerA)
  (F:∀ base:Heap,K.In base→base.Ns mainGlobals mg→FnOk P w K mg base CX k fa fd [x] sp) (hbind:∀ (s:Shared) (u:Value),BindsTo s fd ⟨[u],[]⟩ [(x,u)])
  (hsp:∀ H:Hp,Only H→SqL K H a (ns.map V.int)→sp [.ref a] H (fun v _=>v= .bl true) fun _ _ _=>False)
  (hCX:∀ H e s',CX [] H s₁ (fun _ _ _=>False) e s'→False):
  codeAny (model P w) callerA (.call (.ref fa) ⟨[.ref a],[]⟩) (fun r s'=>r= .ok (.ret (.bool true))∧OldK s₁.heap s'.heap∧s'.os=s₁.os∧AllBare s'.gens) s₁:=by
 have rv:=tq hi
 have lenV:=hi.length
 have core:∀ H:Hp,Only H→SqL K H a (ns.map V.int)→HOk P w H s₁.heap→(∀ b,H b≠none→b=a)→(H a≠none→K.lookup a=none)→
   codeAny (model P w) callerA (.call (.ref fa) ⟨[.ref a],[]⟩) (fun r s'=>r= .ok (.ret (.bool true))∧OldK s₁.heap s'.heap∧s'.os=s₁.os∧AllBare s'.gens) s₁:=by
  intro H hO hS hok hA hK
  have base_of:∀ {b:Addr} {o:Obj},s₁.heap.get? b=some o→H b=none→(hidT s₁.heap H).get? b=some o:=fun e n=>MW e n
  have noA:∀ {b:Addr} {o:Obj} {es:Array DictEntry} {ep:Nat},s₁.heap.get? b=some o→o.data= .dict es ep→H b=none:=fun {b o es ep} e d=>by
   cases q:H b with
   | none=>rfl
   | some u=>
     have e':b=a:=hA b (by rw [q];simp)
     subst e'
     rw [ha] at e;cases e
     have d':Data.seq vs.toArray _=Data.dict es ep:=d
     cases d'
  have nsK:∀ {b:Addr} {m:Str→Option Value},s₁.heap.Ns b m→(hidT s₁.heap H).Ns b m:=fun {b m} ⟨o,es,ep,e,d,r⟩=>⟨o,es,ep,base_of e (noA e d),d,r⟩
  have hKb:K.In (hidT s₁.heap H):=fun b o e=>base_of (KX b o e) (by
   cases q:H b with
   | none=>rfl
   | some u=>
     have e':b=a:=hA b (by rw [q];simp)
     subst e'
     rw [hK (by rw [q];simp)] at e;cases e)
  have hM:Mod K mg (hidT s₁.heap H):=⟨hKb,nsK hns,⟨mb,nsK hb,hbb⟩,let ⟨mc,h1,h2⟩:=hlim;⟨mc,nsK h1,h2⟩⟩
  have e0:Env0 P w K mg (hidT s₁.heap H) callerA [] s₁ H:=⟨rfl,hM,fun b o e=>Pd e,Nat.le_of_eq (KA _ _),trivial,fun b hb=>absurd (show b∈([]:List Addr) from hb) (by simp),hok,.of_eq hg⟩
  refine codeAny_mono ((F _ hKb (nsK hns)).run callerA [] s₁ H ⟨[.ref a],[]⟩ [.ref a] [.ref a] _ _ hr e0 (hbind s₁ (.ref a)) (.cons rfl .nil) (hsp H hO hS)) fun r s' h=>?_
  cases r with
  | error e=>exact (hCX H e s' h).elim
  | ok fl=>
    cases fl with
    | next=>exact False.elim h
    | brk=>exact False.elim h
    | cont=>exact False.elim h
    | ret u=>
      obtain ⟨v,H',os,bare,un,hok',r',q⟩:=h
      have q':v= .bl true:=q
      subst q'
      obtain rfl:u=Value.bool true:=r'
      refine ⟨rfl,OldK.of_keep fun b o e=>?_,os,bare⟩
      cases q:H b with
      | none=>exact un.keep b o e q (by intro z;exact absurd (show b∈([]:List Addr) from z) (by simp)) (by simp)
      | some u=>
        rcases hO b with z | ⟨ob,xs,z⟩
        ·rw [q] at z;cases z
        ·have z2:=un.frzs b ob _ z
         obtain ⟨e1,_⟩:=hok b _ z
         obtain ⟨e2,_⟩:=hok' b _ z2
         rw [e] at e1;cases e1
         exact e2
 cases hk:K.lookup a with
 | some o=>
   have e:=KX a o hk
   rw [ha] at e
   cases e
   refine core (fun _=>none) (fun _=> .inl rfl) (.inr ⟨_,vs.toArray,_,hk,rfl,rfl,rfl,by rw [List.size_toArray,lenV];exact hl,by simpa using rv⟩) (fun b u z=>by have z':(none:Option HO)=some u:=z;cases z') (fun b z=>absurd rfl z) fun z=>absurd rfl z
 | none=>
   refine core (fun b=>if b=a then some (.frz {cls:= .type "list",data:= .seq vs.toArray} (.lst (ns.map V.int))) else none) (fun b=>?_) (.inl (.inr ⟨{cls:= .type "list",data:= .seq vs.toArray},if_pos rfl⟩)) (fun b u z=>?_) (fun b z=>?_) fun _=>hk
   ·by_cases hb:b=a
    ·exact .inr ⟨_,_,if_pos hb⟩
    ·exact .inl (if_neg hb)
   ·by_cases hb:b=a
    ·have z':=(if_pos hb).symm.trans z
     cases z'
     subst hb
     exact ⟨ha,by rw [List.length_map];exact hl,vs,_,rv,ha⟩
    ·have z':=(if_neg hb).symm.trans z
     cases z'
   ·by_cases hb:b=a
    ·exact hb
    ·exact absurd (if_neg hb) z
theorem walk_of {l:PySem.W.OpenLaw} {n k:Nat} {q:Program} {loose:List Str} {XP:(Str→Option Value)→Heap→Prop} {YP:World→Heap→Prop} {d:DefRec} {K:Params→PySem.W.Frag} {CX:World→CXT} {sp:World→Sp} {x:Str}
  (hn:l.most=some n) (hn2:n≤sizeLine) (hdf:d.params.defaults=[]) (hr:Room k callerA)
  (hY:∀ (w:World) (h:Heap),YP w h→(K w.params).In h)
  (F:∀ (w:World) (mg:Str→Option Value) (fa:Addr) (h:Heap),(K w.params).In h→h.Ns mainGlobals mg→mg d.name=some (.ref fa)→
   ∃ fd:FuncData,(∀ (s:Shared) (u:Value),BindsTo s fd ⟨[u],[]⟩ [(x,u)])∧
     ∀ base:Heap,(K w.params).In base→base.Ns mainGlobals mg→FnOk l.prog w (K w.params) mg base (CX w) k fa fd [x] (sp w))
  (hsp:∀ (w:World) (H:Hp) (a:Addr) (ns:List Int),ns.length≤n→Only H→SqL (K w.params) H a (ns.map V.int)→sp w [.ref a] H (fun v _=>v= .bl true) fun _ _ _=>False)
  (hCX:∀ (w:World) (H:Hp) (s:Shared) (e:Value) (s':Shared),CX w [] H s (fun _ _ _=>False) e s'→False):
  PySem.W.WalkO q loose XP YP l.row.toRowW d [] (fun f vs=>PySem.call f vs):=by
 refine Att.attach_call hn hdf fun w s₀ s₁ mg mb fa o pm cd doc a vs ns G Y ho hd hcd hmg hobj hints hlen hg=>?_
 have KX:=hY w _ Y
 obtain ⟨fd,hb,hF⟩:=F w mg fa _ KX G.T.g hmg
 exact MN KX G.T.g G.T.b G.T.builtins G.T.nolimit hg hobj hints (Nat.le_trans hlen hn2) hr hF hb (fun H hO hS=>hsp w H a ns hlen hO hS) fun H e s'=>hCX w H s₁ e s'
noncomputable def il (s:Stmt) (j:Nat):Stmt:=match s with
 | .ClassDef _ _ _ body _ _ _ _ _ _ _=>body.getD j (.Pass ⟨0,0,0,0⟩)
 | _=> .Pass ⟨0,0,0,0⟩
noncomputable def aA (s:Stmt):Arguments:=match s with
 | .FunctionDef _ a _ _ _ _ _ _ _ _=>a
 | _=>{posonlyargs:=[],args:=[],vararg:=none,kwonlyargs:=[],kw_defaults:=[],kwarg:=none,defaults:=[]}
noncomputable def ay (s:Stmt):List Stmt:=match s with
 | .FunctionDef _ _ b _ _ _ _ _ _ _=>b
 | _=>[]
noncomputable def ah (s:Stmt):Scope:=match s with
 | .FunctionDef _ _ _ _ _ _ sc _ _ _=>sc
 | _=>{kind:= .function,names:=[],isGenerator:=false,isCoroutine:=false}
noncomputable abbrev CX0:CXT:=fun _ _ _ _ _ _=>False
noncomputable abbrev E0:XK:=fun _ _ _=>False
theorem aF {X:Cx}:vV CX0 X E0:=fun _ _ _ _ _ _ _ h=>h.elim
structure Fun (K:PySem.W.Frag) (x qual:Str) (st:Stmt) (f:Addr) (fd:FuncData):Prop where
 ex:∃ (oc:Value) (od:Option Addr) (kV doc pm:Value) (an:Option Addr) (cdv ct:Value) (osl:Array (Option Value)),
  fd=PySem.W.fnOf x qual (aA st) (ay st) (ah st) .none kV doc pm an cdv ct∧K.lookup f=some ⟨oc,od,.func fd,osl⟩∧PySem.W.codeIn K cdv qual=true
 kp:PySem.W.keepIn K (.ref f)=true
section
variable {P:Program} {w:World} {K:PySem.W.Frag} {mg:Str→Option Value} {base:Heap}
theorem Fun.ok {x qual:Str} {st:Stmt} {f:Addr} {fd:FuncData} {N ps:List Str} {k:Nat} {sp:Sp} (F:Fun K x qual st f fd) (S:aC N ps (ah st)) (len:∀ vs H Q E,sp vs H Q E→vs.length=ps.length)
  (hbody:∀ (cdv:Value) (A:Around) (outer:List Env) (s:Shared) (H:Hp) (vs:List V) (Q:VK) (E:XK),Room k (A.deeper (envOfC qual (ah st) s.heap.objs.size f cdv))→sp vs H Q E→
   ∃ t,PSs (cxOf CX0 P w K mg base N qual (ah st) f cdv A outer s H E).nox (ay st) t∧t {nx:=fun _ H'=>Q .non H',rt:=Q} (rJ N vs) H):FnOk P w K mg base CX0 (k + 1) f fd ps sp:=by
 obtain ⟨oc,od,kV,doc,pm,an,cdv,ct,osl,rfl,lk,hcd⟩:=F.ex
 refine PM lk hcd S len fun A outer s H vs Q E hr hsp=>?_
 obtain ⟨t,h,q⟩:=hbody cdv A outer s H vs Q E hr hsp
 exact ⟨t,h.nox,q⟩
theorem Fun.binds {x qual:Str} {st:Stmt} {f:Addr} {fd:FuncData} {ps:List Str} (F:Fun K x qual st f fd)
  (h:∀ (kV doc pm:Value) (an:Option Addr) (cdv ct:Value) (us:List Value),us.length=ps.length→bindArgs (PySem.W.fnOf x qual (aA st) (ay st) (ah st) .none kV doc pm an cdv ct) ⟨us,[]⟩=pure (ps.zip us)):bj K fd ps []:=by
 obtain ⟨oc,od,kV,doc,pm,an,cdv,ct,osl,rfl,lk,hcd⟩:=F.ex
 exact .all (h kV doc pm an cdv ct)
theorem a8 {x qual:Str} {st:Stmt} {f:Addr} {oc:Value} {od an:Option Addr} {osl:Array (Option Value)} {kV doc pm cdv ct:Value} (l:K.lookup f=some ⟨oc,od,.func (PySem.W.fnOf x qual (aA st) (ay st) (ah st) .none kV doc pm an cdv ct),osl⟩)
  (c:PySem.W.codeIn K cdv qual=true) (k:PySem.W.keepIn K (.ref f)=true):Fun K x qual st f (PySem.W.fnOf x qual (aA st) (ay st) (ah st) .none kV doc pm an cdv ct):=⟨⟨oc,od,kV,doc,pm,an,cdv,ct,osl,rfl,l,c⟩,k⟩
end
theorem MV {A:Around} {k:Nat} (hr:Room k A):A.units + 1 < cLine:=Nat.lt_of_le_of_lt (Nat.add_le_add_left (by decide:1≤64) _) hr.units
theorem i7 {n:Nat} (h:n≤1000):n < sizeLine:=Nat.lt_of_le_of_lt h (by decide)
section
variable {X:Cx}
theorem pv (i:Nat) {x:Str} {pos:Pos} (hN:X.N[i]? =some x:=by rfl) (hv:Vis X.env.scope x:=by first | exact Or.inl rfl | exact Or.inr (Or.inl rfl) | exact Or.inr (Or.inr rfl)) (hd:(x == ("__debug__":Str))=false:=by decide)
  (hcd:(x == ("__classdict__":Str))=false:=by decide):PE X (.Name x pos) (tVar i):=Rg hN hv hd hcd
end
theorem ite2 {c A B:Prop} [Decidable c] (h1:c→A) (h2:¬ c→B):if c then A else B:=by
 by_cases h:c
 ·rw [if_pos h]
  exact h1 h
 ·rw [if_neg h]
  exact h2 h
noncomputable def Same (H H':Hp):Prop:=∀ b o,H b=some o→H' b=some o
theorem Same.refl (H:Hp):Same H H:=fun _ _ h=>h
theorem Same.trans {H H1 H2:Hp} (a:Same H H1) (b:Same H1 H2):Same H H2:=fun c o h=>b c o (a c o h)
theorem Same.free {H H':Hp} (e:Same H H') {l:Addr} (h:H' l=Option.none):H l=Option.none:=by
 cases q:H l with
 | none=>rfl
 | some o=>
   rw [e l o q] at h
   cases h
theorem Same.seq {K:PySem.W.Frag} {H H':Hp} {a:Addr} {xs:List V} (e:Same H H') (h:SqL K H a xs):SqL K H' a xs:=by
 rcases h with (h | ⟨o,h⟩) | h
 ·exact .inl (.inl (e _ _ h))
 ·exact .inl (.inr ⟨o,e _ _ h⟩)
 ·exact .inr h
section
variable {κ:Type} [DecidableEq κ]
noncomputable def valV (kvs:List (κ×V)) (k:κ):Option V:=(kvs.find? fun kv=>decide (kv.1=k)).map (·.2)
noncomputable def putK (kvs:List (κ×V)) (k:κ) (v:V):List (κ×V):=
 if (kvs.any fun kv=>decide (kv.1=k))=true then kvs.map (fun kv=>if kv.1=k then (kv.1,v) else kv) else kvs++[(k,v)]
theorem sT {p:κ×V} {r:List (κ×V)} {k:κ} (e:p.1=k):valV (p::r) k=some p.2:=by simp [valV,List.find?_cons,e]
theorem sU {p:κ×V} {r:List (κ×V)} {k:κ} (e:¬ p.1=k):valV (p::r) k=valV r k:=by simp [valV,List.find?_cons,e]
theorem yu (k:κ):∀ kvs:List (κ×V),(kvs.any fun kv=>decide (kv.1=k))=(valV kvs k).isSome
 | []=>rfl
 | p::r=>by
   rw [List.any_cons]
   by_cases e:p.1=k
   ·simp only [sT e,decide_eq_true e,Bool.true_or,Option.isSome_some]
   ·rw [sU e,decide_eq_false e,Bool.false_or];exact yu k r
theorem uM (kvs:List (κ×V)) (k:κ) (v:V):(putK kvs k v).length≤kvs.length + 1:=by
 unfold putK
 split
 ·rw [List.length_map];omega
 ·rw [List.length_append,List.length_cons,List.length_nil];omega
theorem RelO.isSome_eq {o:Option V} {u:Option Value} (r:RelO o u):o.isSome=u.isSome:=by
 cases o with
 | none=>cases u with
   | none=>rfl
   | some _=>exact (show False from r).elim
 | some _=>cases u with
   | none=>exact (show False from r).elim
   | some _=>rfl
theorem KV.val {kvs:List (κ×V)} {vs:List (κ×Value)} (r:KV kvs vs) (k:κ):RelO (valV kvs k) (valueAt vs k):=by
 unfold KV at r
 induction r with
 | nil=>exact True.intro
 | @cons p q ps qs h t ih=>
   obtain ⟨h1,h2⟩:=h
   by_cases e:p.1=k
   ·have e':q.1=k:=h1.symm.trans e
    have b:valueAt (q::qs) k=some q.2:=by simp [valueAt,List.find?_cons,e']
    rw [sT e,b];exact h2
   ·have e':¬ q.1=k:=fun z=>e (h1.trans z)
    have b:valueAt (q::qs) k=valueAt qs k:=by simp [valueAt,List.find?_cons,e']
    rw [sU e,b];exact ih
theorem KV.any {kvs:List (κ×V)} {vs:List (κ×Value)} (r:KV kvs vs) (k:κ):(kvs.any fun kv=>decide (kv.1=k))=vs.any fun kv=>decide (kv.1=k):=by
 unfold KV at r
 induction r with
 | nil=>rfl
 | cons h t ih=>rw [List.any_cons,List.any_cons,ih,h.1]
theorem KV.repl {kvs:List (κ×V)} {vs:List (κ×Value)} (r:KV kvs vs) (k:κ) {y:V} {u:Value} (ry:RelV y u):
  KV (kvs.map fun kv=>if kv.1=k then (kv.1,y) else kv) (vs.map fun kv=>if kv.1=k then (kv.1,u) else kv):=by
 unfold KV at r ⊢
 induction r with
 | nil=>exact .nil
 | @cons p q ps qs h t ih=>
   rw [List.map_cons,List.map_cons]
   refine .cons ?_ ih
   obtain ⟨h1,h2⟩:=h
   by_cases e:p.1=k
   ·rw [if_pos e,if_pos (h1.symm.trans e)];exact ⟨h1,ry⟩
   ·rw [if_neg e,if_neg (fun z=>e (h1.trans z))];exact ⟨h1,h2⟩
theorem KV.put {kvs:List (κ×V)} {vs:List (κ×Value)} (r:KV kvs vs) (k:κ) {y:V} {u:Value} (ry:RelV y u):KV (putK kvs k y) (stored vs k u):=by
 unfold putK stored
 rw [r.any k]
 by_cases e:(vs.any fun kv=>decide (kv.1=k))=true
 ·rw [if_pos e,if_pos e];exact r.repl k ry
 ·rw [if_neg e,if_neg e];exact Paired.snoc r ⟨rfl,ry⟩
theorem KV.keys {kvs:List (κ×V)} {vs:List (κ×Value)} (r:KV kvs vs):kvs.map (·.1)=vs.map (·.1):=by
 unfold KV at r
 induction r with
 | nil=>rfl
 | cons h t ih=>rw [List.map_cons,List.map_cons,ih,h.1]
theorem KV.length {kvs:List (κ×V)} {vs:List (κ×Value)} (r:KV kvs vs):kvs.length=vs.length:=Paired.length r
end
theorem MT {P:Program} {w:World} {k:Key} {u:Value} (r:RelV (kV k) u):(dA P w).is k u=true:=by
 cases k with
 | inl i=>obtain ⟨t,e⟩:=(show ∃ t,u=Value.int i t from r);subst e;exact Ef P w i t
 | inr x=>obtain ⟨t,e⟩:=(show ∃ t,u=Value.str x t from r);subst e;exact Ee P w x t
theorem BI {P:Program} {w:World}:∀ {ks:List Key} {us:List Value},Vals (ks.map kV) us→ItemsAre (dA P w) ks us
 | [],_,r=>by rw [List.map_nil] at r;cases r;exact .nil
 | k::ks,_,r=>by
   rw [List.map_cons] at r
   cases r with
   | cons h t=>exact .cons (MT h) (BI t)
noncomputable abbrev KT (H:Hp):List (List Key×V)→List (List Key×Addr×Value)→Prop:=Paired fun p q=>p.1=q.1∧H q.2.1=some (.tup (p.1.map kV))∧RelV p.2 q.2.2
theorem KT.val {H:Hp} {kvs:List (List Key×V)} {xs:List (List Key×Addr×Value)} (r:KT H kvs xs) (k:List Key):RelO (valV kvs k) ((atKey xs k).map (·.2)):=by
 induction r with
 | nil=>exact True.intro
 | @cons p q ps qs h t ih=>
   obtain ⟨h1,_,h2⟩:=h
   by_cases e:p.1=k
   ·have e':q.1=k:=h1.symm.trans e
    have b:atKey (q::qs) k=some q.2:=by simp [atKey,List.find?_cons,e']
    rw [sT e,b];exact h2
   ·have e':¬ q.1=k:=fun z=>e (h1.trans z)
    have b:atKey (q::qs) k=atKey qs k:=by simp [atKey,List.find?_cons,e']
    rw [sU e,b];exact ih
theorem KT.repl {H:Hp} {kvs:List (List Key×V)} {xs:List (List Key×Addr×Value)} (r:KT H kvs xs) (k:List Key) {y:V} {u:Value} (ry:RelV y u):
  KT H (kvs.map fun kv=>if kv.1=k then (kv.1,y) else kv) (xs.map (putAt k u)):=by
 induction r with
 | nil=>exact .nil
 | @cons p q ps qs h t ih=>
   rw [List.map_cons,List.map_cons]
   refine .cons ?_ ih
   obtain ⟨h1,h2,h3⟩:=h
   unfold putAt
   by_cases e:p.1=k
   ·rw [if_pos e,if_pos (h1.symm.trans e)];exact ⟨h1,h2,ry⟩
   ·rw [if_neg e,if_neg (fun z=>e (h1.trans z))];exact ⟨h1,h2,h3⟩
theorem KT.put {H:Hp} {kvs:List (List Key×V)} {xs:List (List Key×Addr×Value)} (r:KT H kvs xs) (k:List Key) {b:Addr} {y:V} {u:Value} (hb:H b=some (.tup (k.map kV))) (ry:RelV y u):
  KT H (putK kvs k y) (storedH xs k b u):=by
 have e:(kvs.any fun kv=>decide (kv.1=k))=(atKey xs k).isSome:=by
  rw [yu,(r.val k).isSome_eq,Option.isSome_map]
 unfold putK storedH
 rw [e]
 by_cases q:(atKey xs k).isSome=true
 ·rw [if_pos q,if_pos q];exact r.repl k ry
 ·rw [if_neg q,if_neg q];exact Paired.snoc r ⟨rfl,hb,ry⟩
theorem KT.keeps {H H':Hp} {kvs:List (List Key×V)} {xs:List (List Key×Addr×Value)} (r:KT H kvs xs) (ht:∀ b ys,H b=some (.tup ys)→H' b=some (.tup ys)):KT H' kvs xs:=
 Paired.mapP r fun _ _ z=>⟨z.1,ht _ _ z.2.1,z.2.2⟩
section
variable {P:Program} {w:World} {H:Hp} {h:Heap} {a:Addr}
theorem Q2 {u:HO} (ok:HOk P w H h) (e:Rd H a u):fm P w H h a u:=e.ok ok
theorem Na {kvs:List (Key×V)} (ok:HOk P w H h) (e:Rd H a (.dK kvs)):kvs.length≤sizeLine∧(a == sysModules)=false∧∃ vs,KV kvs vs∧h.DictOf (dA P w) a vs:=
 show fm P w H h a (.dK kvs) from Q2 ok e
theorem RT {kvs:List (Key×V)} (ok:HOk P w H h) (e:H a=some (.dK kvs)):kvs.length≤sizeLine∧(a == sysModules)=false∧∃ vs,KV kvs vs∧h.DictOf (dA P w) a vs:=Na ok (.inl e)
theorem FU {ks:List Key} (ok:HOk P w H h) (e:H a=some (.tup (ks.map kV))):(tupleKind (dA P w)).is h ks a:=by
 obtain ⟨_,its,r,o,h1,h2,n,h3⟩:=(show fm P w H h a (.tup (ks.map kV)) from ok a _ e)
 exact ⟨o,its.toArray,n,h1,h2,h3,by simpa using BI r⟩
theorem M9 {kvs:List (List Key×V)} (ok:HOk P w H h) (e:Rd H a (.dT kvs)):kvs.length≤sizeLine∧(a == sysModules)=false∧
  ∃ xs,KT H kvs xs∧h.DictOfH (tupleKind (dA P w)) a xs:=by
 obtain ⟨z,y,xs,r,o,es,ep,h1,h2,h3,h4,h5⟩:=(show fm P w H h a (.dT kvs) from Q2 ok e)
 refine ⟨z,y,xs,r,o,es,ep,h1,h2,h3,h4,fun x hx=>?_,h5⟩
 have all:∀ {l:List (List Key×V)} {m:List (List Key×Addr×Value)},KT H l m→∀ x∈m,(tupleKind (dA P w)).is h x.1 x.2.1:=by
  intro l m q
  induction q with
  | nil=>intro x hx;exact nomatch hx
  | @cons p q ps qs hq t ih=>
    intro x hx
    rcases List.mem_cons.mp hx with e | hx
    ·subst e
     exact FU ok (by rw [← hq.1];exact hq.2.1)
    ·exact ih x hx
 exact all r x hx
theorem S6 {kvs:List (List Key×V)} (ok:HOk P w H h) (e:H a=some (.dT kvs)):kvs.length≤sizeLine∧(a == sysModules)=false∧
  ∃ xs,KT H kvs xs∧h.DictOfH (tupleKind (dA P w)) a xs:=M9 ok (.inl e)
end
noncomputable def DGet (H:Hp) (a:Addr) (y:V) (r:Option V):Prop:=
 (∃ kvs k,Rd H a (.dK kvs)∧y=kV k∧r=valV kvs k)∨∃ kvs k b,Rd H a (.dT kvs)∧y= .ref b∧H b=some (.tup (k.map kV))∧r=valV kvs k
noncomputable def DPut (H:Hp) (a:Addr) (y v:V) (H':Hp):Prop:=
 (∃ kvs k,H a=some (.dK kvs)∧y=kV k∧kvs.length < sizeLine∧H'=upd H a (.dK (putK kvs k v)))∨
 ∃ kvs k b,H a=some (.dT kvs)∧y= .ref b∧H b=some (.tup (k.map kV))∧kvs.length < sizeLine∧H'=upd H a (.dT (putK kvs k v))
theorem DGet.k {H:Hp} {a:Addr} {kvs:List (Key×V)} {k:Key} (e:H a=some (.dK kvs)):DGet H a (kV k) (valV kvs k):= .inl ⟨kvs,k,.inl e,rfl,rfl⟩
theorem DPut.k {H:Hp} {a:Addr} {kvs:List (Key×V)} {k:Key} {v:V} (e:H a=some (.dK kvs)) (hl:kvs.length < sizeLine):DPut H a (kV k) v (upd H a (.dK (putK kvs k v))):= .inl ⟨kvs,k,e,rfl,hl,rfl⟩
section
variable {X:Cx} {pins:List (Addr×Obj)} {σ:St} {H:Hp} {s:Shared} {a:Addr} {y v:V} {u r:Value} {o:Option V} {A:Around} {E:Value→Shared→Prop}
theorem Inv.big (I:Inv X pins σ H s):sysModules < s.heap.objs.size:=by
 have h:mainGlobals < s.heap.objs.size:=(I.mod.glob.keeps I.bk).lt
 exact Nat.lt_trans (by decide) h
theorem K6 {Q:Value→Shared→Prop} (hu:A.units + 1 < cLine) (I:Inv X pins σ H s) (g:DGet H a y (some v)) (ry:RelV y u) (h:∀ w' s',Inv X pins σ H s'→RelV v w'→Q w' s'):
  wpAny (model X.prog X.w) A (getItem (.ref a) u) Q E s:=by
 rcases g with ⟨kvs,k,e,ey,l⟩ | ⟨kvs,k,b,e,ey,eb,l⟩
 ·subst ey
  obtain ⟨z,hd,vs,rel,dd⟩:=Na I.hok e
  obtain ⟨w',hw,rw'⟩:=RelO.some_of (v:=v) (o:=valueAt vs k) (by rw [l];exact rel.val k)
  exact wpAny_getItem_of (MT ry) dd.mapOf hw (h w' _ (I.tok _) rw')
 ·subst ey
  cases (show u=Value.ref b from ry)
  obtain ⟨z,hd,xs,rel,dd⟩:=M9 I.hok e
  obtain ⟨w',hw,rw'⟩:=RelO.some_of (v:=v) (o:=(atKey xs k).map (·.2)) (by rw [l];exact rel.val k)
  obtain ⟨p,hp,hp2⟩:=Option.map_eq_some_iff.mp hw
  refine wpAny_getItem_heap (tupleKind_room_in1 hu) (FU I.hok eb) dd hp ?_
  rw [hp2]
  exact h w' _ (I.tok _) rw'
theorem d_in {Q:Value→Shared→Prop} (hu:A.units + 1 < cLine) (I:Inv X pins σ H s) (g:DGet H a y o) (ry:RelV y u) (h:∀ s',Inv X pins σ H s'→Q (.bool o.isSome) s'):
  wpAny (model X.prog X.w) A (compareOp .In u (.ref a)) Q E s:=by
 rcases g with ⟨kvs,k,e,ey,l⟩ | ⟨kvs,k,b,e,ey,eb,l⟩
 ·subst ey
  obtain ⟨z,hd,vs,rel,dd⟩:=Na I.hok e
  refine wpAny_in_of (MT ry) hd dd.mapOf ?_
  rw [← (rel.val k).isSome_eq,← l]
  exact h _ (I.tok _)
 ·subst ey
  cases (show u=Value.ref b from ry)
  obtain ⟨z,hd,xs,rel,dd⟩:=M9 I.hok e
  refine wpAny_in_heap (tupleKind_room_in1 hu) (FU I.hok eb) hd dd ?_
  have q:=(rel.val k).isSome_eq
  rw [Option.isSome_map] at q
  rw [← q,← l]
  exact h _ (I.tok _)
theorem K4 {h':Heap} {t':Nat} {ob:HO} (I:Inv X pins σ H s) (mu:Mut (H a)) (hs:Heap.SameBut a s.heap h') (he:∃ q,h'.get? a=some q) (new:fm X.prog X.w (upd H a ob) h' a ob):
  Inv X pins σ (upd H a ob) {s with heap:=h',toks:=t'}:=
 I.write (x:=a) (e:=a) mu (.inl rfl) (fun b q hb z=>(hs.2 b hb).trans z) he new
theorem RU {P:Program} {w:World} {H':Hp} {h':Heap} {kvs:List (Key×V)} {vs:List (Key×Value)} (z:kvs.length≤sizeLine) (hd:(a == sysModules)=false) (rel:KV kvs vs) (dd:h'.DictOf (dA P w) a vs):
  fm P w H' h' a (.dK kvs):=⟨z,hd,vs,rel,dd⟩
theorem K5 {H':Hp} {Q:Unit→Shared→Prop} (hu:A.units + 1 < cLine) (I:Inv X pins σ H s) (g:DPut H a y v H') (ry:RelV y u) (rv:RelV v r) (h:∀ s',Inv X pins σ H' s'→Q () s'):
  wpAny (model X.prog X.w) A (setItem (.ref a) u r) Q E s:=by
 rcases g with ⟨kvs,k,e,ey,l,eH⟩ | ⟨kvs,k,b,e,ey,eb,l,eH⟩
 ·subst ey eH
  obtain ⟨z,hd,vs,rel,dd⟩:=RT I.hok e
  have hz:vs.length≤sizeLine:=by rw [← rel.length];exact z
  have hl:(putK kvs k v).length≤sizeLine:=by have:=uM kvs k v;omega
  refine wpAny_setItem_pairs (hsz:=hz) (MT ry) dd fun h' dd' hs=>h _ ?_
  have he:∃ q,h'.get? a=some q:=let ⟨q,_,_,hq,_⟩:=dd';⟨q,hq⟩
  exact K4 I (by rw [e];exact True.intro) hs he (RU hl hd (rel.put k rv) dd')
 ·subst ey eH
  cases (show u=Value.ref b from ry)
  obtain ⟨z,hd,xs,rel,dd⟩:=S6 I.hok e
  have hz:xs.length≤sizeLine:=by rw [← Paired.length rel];exact z
  have hl:(putK kvs k v).length≤sizeLine:=by have:=uM kvs k v;omega
  refine wpAny_setItem_heap (hsz:=hz) (tupleKind_room_in1 hu) (FU I.hok eb) dd fun h' dd' hs=>h _ ?_
  obtain ⟨q,es,ep,hq,h2,h3,h4,_,h5⟩:=dd'
  refine K4 I (by rw [e];exact True.intro) hs ⟨q,hq⟩ ⟨hl,hd,_,(rel.put k eb rv).keeps fun c ys ec=>?_,q,es,ep,hq,h2,h3,h4,h5⟩
  rw [aV (ig ec e (fun z=>nomatch z))]
  exact ec
end
noncomputable def NoSl (i:Expr):Prop:=∀ ov iv,subscripted i false ov iv=operate [ov,iv] (getItem ov iv)
theorem Os {prog:Program} {w:World} {A:Around} {E:Value→Shared→Prop} {s:Shared} {env:Env} {value slice:Expr} {pos:Pos} {T id:String} {Q:Value→Shared→Prop}
  (hl:typeLookup (.type T) "__getitem__"=pure (some (.builtin id))) (hs:NoSl slice)
  (h:wpAny (model prog w) A (eval value env) (fun o s₁=>wpAny (model prog w) A (eval slice env) (fun i s₂=>s₂.TypeIs o T∧wpAny (model prog w) A (getItem o i) Q E s₂) E s₁) E s):
  wpAny (model prog w) A (eval (.Subscript value slice pos) env) Q E s:=by
 refine Subscript_ (wpAny_mono h (fun o s₁ h₁=>wpAny_mono h₁ (fun i s₂ h₂=>?_) fun _ _ x=>x) fun _ _ x=>x)
 obtain ⟨hT,h₂⟩:=h₂
 unfold subscriptTail
 refine wpAny_bind ?_
 rw [getitemInPython_of_ne hT.not_modules]
 refine wpAny_bind (wpAny_specialOf hT hl ?_)
 have fin:wpAny (model prog w) A (subscripted slice false o i) (fun r s₃=>wpAny (model prog w) A (letTemporaryGo value o r >>=fun _=>pure r) Q E s₃) E s₂:=by
  rw [hs o i]
  exact wpAny_operating (wpAny_mono h₂ (fun r s₃ h₃=>wpAny_bind (wpAny_letTemporaryGo (wpAny_pure h₃))) fun _ _ x=>x)
 first
  | exact wpAny_pure (wpAny_bind fin)
  | exact wpAny_bind (wpAny_pure (wpAny_bind fin))
  | exact wpAny_bind fin
theorem EG {X:Cx} {pins:List (Addr×Obj)} {σ:St} {H:Hp} {s:Shared} {a:Addr} {y:V} {o:Option V} (I:Inv X pins σ H s) (g:DGet H a y o):s.TypeIs (.ref a) "dict":=by
 rcases g with ⟨kvs,k,e,_,_⟩ | ⟨kvs,k,b,e,_,_,_⟩
 ·obtain ⟨_,_,vs,_,dd⟩:=Na I.hok e
  exact dd.typeIs
 ·obtain ⟨_,_,xs,_,dd⟩:=M9 I.hok e
  exact dd.typeIs
noncomputable def Qp (td ty:TE):TE:=fun σ H Q=>td σ H fun x H1=>ty σ H1 fun y H2=>∃ a v,x= .ref a∧DGet H2 a y (some v)∧Q v H2
noncomputable def tDIn (ty td:TE):TE:=fun σ H Q=>ty σ H fun y H1=>td σ H1 fun x H2=>∃ a o,x= .ref a∧DGet H2 a y o∧Q (.bl o.isSome) H2
noncomputable def Q0 (td ty tv:TE):TS:=fun D σ H=>tv σ H fun v H1=>td σ H1 fun x H2=>ty σ H2 fun y H3=>∃ a H4,x= .ref a∧DPut H3 a y v H4∧D.nx σ H4
section
variable {X:Cx} {o i e value:Expr} {pos pos' tpos:Pos} {td ty tv:TE}
theorem JN (hu:X.A.units + 1 < cLine) (ho:PE X o td) (hi:PE X i ty) (hs:NoSl i):PE X (.Subscript o i pos) (Qp td ty):=by
 intro pins s σ H Q I h
 refine Os PySem.F.slot_dict_getitem.lookup hs (thn (ho pins s σ H _ I h) fun u s1 ⟨x,H1,I1,rx,q1⟩=>thn (hi pins s1 σ H1 _ I1 q1) fun iv s2 ⟨y,H2,I2,ry,a,v,ex,g,q2⟩=>?_)
 subst ex
 obtain rfl:u=Value.ref a:=rx
 exact ⟨EG I2 g,K6 hu I2 g ry fun w' s3 I3 rw'=>⟨v,H2,I3,rw',q2⟩⟩
theorem Rk (hu:X.A.units + 1 < cLine) (hi:PE X i ty) (ho:PE X o td):PC X .In i o (tDIn ty td):=by
 intro pins s σ H Q I h
 refine thn (hi pins s σ H _ I h) fun iv s1 ⟨y,H1,I1,ry,q1⟩=>thn (ho pins s1 σ H1 _ I1 q1) fun u s2 ⟨x,H2,I2,rx,a,ov,ex,g,q2⟩=>?_
 subst ex
 obtain rfl:u=Value.ref a:=rx
 exact d_in hu I2 g ry fun s3 I3=>⟨.bl ov.isSome,H2,I3,rfl,q2⟩
theorem OZ (hu:X.A.units + 1 < cLine) (ho:PE X o td) (hi:PE X i ty) (hv:PE X value tv) (hs:swapsWith value (some (.Subscript o i pos')) pos.line X.env=pure false):
  PS X (.Assign [.Subscript o i pos'] value pos) (Q0 td ty tv):=by
 intro pins s σ H D I h
 refine wpAny_Assign_Subscript (thn (hv pins s σ H _ I h) fun r s1 ⟨v,H1,I1,rv,q1⟩=>thn (ho pins s1 σ H1 _ I1 q1) fun u s2 ⟨x,H2,I2,rx,q2⟩=>thn (hi pins s2 σ H2 _ I2 q2) fun iv s3 ⟨y,H3,I3,ry,a,H4,ex,g,q3⟩=>?_) hs
 subst ex
 obtain rfl:u=Value.ref a:=rx
 exact K5 hu I3 g ry rv fun s4 I4=>⟨σ,H4,I4,q3⟩
end
theorem Nb {P:Program} {w:World} {H:Hp} (h:Heap) (hb:sysModules < h.objs.size):fm P w H (h.push {cls:= .type "dict",data:= .dict #[]}) h.objs.size (.dK []):=
 ⟨Nat.zero_le _,beq_eq_false_iff_ne.mpr (Ne.symm (Nat.ne_of_lt hb)),[],.nil,Heap.DictOf.new h⟩
noncomputable def Nz:TE:=fun _ H Q=>∀ p,H p=none→Q (.ref p) (upd H p (.dK []))
section
variable {X:Cx} {pos:Pos}
theorem Mz:PE X (.Dict [] [] pos) Nz:=fun pins s σ H Q I h=>
 wpAny_Dict_empty ⟨.ref s.heap.objs.size,_,I.laid (a:=s.heap.objs.size) (o:= .dK []) (t':=s.toks) (fun _ _ q=>Heap.get?_push_of_some _ q) (Nat.le_refl _) (Nb s.heap I.big),rfl,h _ (I.hok.fresh (Nat.le_refl _))⟩
end
structure M1 (X:Cx) (o:Expr) (m:Str) (apos:Pos) (e:Expr) (cpos:Pos):Prop where
 base:attributeBase o m X.env (eval o X.env)=eval o X.env
 few:((backTo cpos (starEach [e] X.env)).all (fun x=> !x.1)&&(backToKw cpos (keywordEach [] X.env)).all (fun x=>x.1.isSome)
  &&decide (([e]:List Expr).length + ([]:List Keyword).length + (if ([]:List Keyword).isEmpty then 0 else 1) < 30))=true
 line:(apos.endLine == cpos.line)=true
 trees:backTo cpos (starEach [e] X.env)=[(false,eval e X.env)]
structure M2 (X:Cx) (o:Expr) (m:Str) (apos:Pos) (e f:Expr) (cpos:Pos):Prop where
 base:attributeBase o m X.env (eval o X.env)=eval o X.env
 few:((backTo cpos (starEach [e,f] X.env)).all (fun x=> !x.1)&&(backToKw cpos (keywordEach [] X.env)).all (fun x=>x.1.isSome)
  &&decide (([e,f]:List Expr).length + ([]:List Keyword).length + (if ([]:List Keyword).isEmpty then 0 else 1) < 30))=true
 line:(apos.endLine == cpos.line)=true
 trees:backTo cpos (starEach [e,f] X.env)=[(false,eval e X.env),(false,eval f X.env)]
end L2
set_option maxHeartbeats 4000000
namespace L2
open PySem PySem.Spec PyProof.Rows
section
variable {P0:Program} {w0:World} {A0:Around} {R0:Result→Shared→Prop} {t0:Shared}
theorem HQ {elt tg iter:Expr} {ifs:List Expr} {sc:Scope} {pos:Pos} {it acc:Value} {ce:Env} (J:Nat→Shared→Prop)
  (turn:∀ n s,J n s→wpAny (model P0 w0) A0 (pyNext it) (fun r s₁=>match r with
   | none=>R0 (.ok .next) s₁
   | some v=>wpAny (model P0 w0) A0 (letOwnedTupleGo tg it v) (fun _ s₂=>wpAny (model P0 w0) A0 (assign tg ce v) (fun _ s₃=>
     wpAny (model P0 w0) A0 (forIn ifs true fun c r=>if r=true then do let ok ← isTrue c ce (eval c ce);pure (ForInStep.yield ok) else pure (ForInStep.yield r)) (fun ok s₄=>
      if ok=true then wpAny (model P0 w0) A0 (eval elt ce) (fun x s₅=>
       wpAny (model P0 w0) A0 (call (.builtin "list.append") [acc,x]) (fun _ s₆=>∃ m,m < n∧J m s₆) (fun _ _=>False) s₅) (fun _ _=>False) s₄
      else ∃ m,m < n∧J m s₄) (fun _ _=>False) s₃) (fun _ _=>False) s₂) (fun _ _=>False) s₁) (fun _ _=>False) s)
  (n:Nat) (h:J n t0):
  codeAny (model P0 w0) A0 (.compLoop (.ListComp elt [⟨tg,iter,ifs,0⟩] sc pos) 0 it acc ce) R0 t0:=by
 have no:∀ {α:Type} {t:Sem α} {Q:α→Shared→Prop} {E:Value→Shared→Prop} {s:Shared},wpAny (model P0 w0) A0 t Q (fun _ _=>False) s→wpAny (model P0 w0) A0 t Q E s:=
  fun h=>wpAny_mono h (fun _ _ q=>q) fun _ _ z=>z.elim
 refine codeAny_loop rfl J (fun n s hJ=>?_) n h
 show wpAny _ A0 ((compTurn (.ListComp elt [⟨tg,iter,ifs,0⟩] sc pos) 0 it acc ce).onRaise (fun x=>do noteFrame x ce;theTreesLotGoes x)) _ _ s
 refine wpAny_noted ?_
 rw [compTurn_list]
 refine wpAny_bind (wpAny_standAt (wpAny_bind (thn (no (turn n s hJ)) fun r s₁ h₁=>?_)))
 cases r with
 | none=>exact wpAny_pure h₁
 | some v=>
   refine wpAny_bind (thn (no h₁) fun _ s₂ h₂=>?_)
   refine wpAny_bind (thn (no h₂) fun _ s₃ h₃=>wpAny_bind (thn (no h₃) fun ok s₄ h₄=>?_))
   cases ok with
   | false=>exact wpAny_pure ⟨rfl,h₄⟩
   | true=>
     rw [if_pos rfl] at h₄
     refine wpAny_bind (wpAny_bind (thn (no h₄) fun x s₅ h₅=>?_))
     refine wpAny_bind (thn (no h₅) fun _ s₆ h₆=>?_)
     exact wpAny_pure (wpAny_pure ⟨rfl,h₆⟩)
end
theorem qC (env:Env):∀ (l:List (Str×NameKind)) (cs:List (Str×Addr)),(∀ y∈l,y.2= .free→∃ c,env.cells.lookup y.1=some c)→
  ∃ r:List (Str×Addr),(forIn l cs (fun (x:Str×NameKind) (r:List (Str×Addr))=>if x.2 == NameKind.free then (do let c ← cellOf env x.1;pure (ForInStep.yield ((x.1,c)::r))) else pure (ForInStep.yield r)):Sem (List (Str×Addr)))=pure r∧
   (∀ p∈r,p∈cs∨env.cells.lookup p.1=some p.2)∧(∀ p∈cs,p∈r)∧(∀ y∈l,y.2= .free→∃ c,(y.1,c)∈r)
 | [],cs,_=>⟨cs,rfl,fun p hp=> .inl hp,fun p hp=>hp,fun y hy=>nomatch hy⟩
 | (x,k)::l,cs,h=>by
   by_cases hk:k= .free
   ·subst hk
    obtain ⟨c,hc⟩:=h (x,.free) List.mem_cons_self rfl
    obtain ⟨r,e,h1,h2,h3⟩:=qC env l ((x,c)::cs) fun y hy=>h y (List.mem_cons_of_mem _ hy)
    refine ⟨r,?_,fun p hp=>?_,fun p hp=>h2 p (List.mem_cons_of_mem _ hp),fun y hy hf=>?_⟩
    ·rw [List.forIn_cons]
     have e2:cellOf env x=pure c:=by unfold cellOf;rw [hc]
     simp only [beq_self_eq_true,if_true,e2,pure_bind]
     exact e
    ·rcases h1 p hp with q | q
     ·rcases List.mem_cons.mp q with z | z
      ·subst z;exact .inr hc
      ·exact .inl z
     ·exact .inr q
    ·rcases List.mem_cons.mp hy with z | z
     ·subst z;exact ⟨c,h2 _ List.mem_cons_self⟩
     ·exact h3 y z hf
   ·obtain ⟨r,e,h1,h2,h3⟩:=qC env l cs fun y hy=>h y (List.mem_cons_of_mem _ hy)
    refine ⟨r,?_,h1,h2,fun y hy hf=>?_⟩
    ·rw [List.forIn_cons]
     have hb:(k == NameKind.free)=false:=by cases k<;>first | rfl | exact absurd rfl hk
     simp only [hb,Bool.false_eq_true,if_false,pure_bind]
     exact e
    ·rcases List.mem_cons.mp hy with z | z
     ·subst z;exact absurd hf hk
     ·exact h3 y z hf
theorem yk (sc:Scope) (env:Env) (h:∀ y∈sc.names,y.2= .free→∃ c,env.cells.lookup y.1=some c):
  ∃ cl,closureFor sc env=pure cl∧(∀ p∈cl,env.cells.lookup p.1=some p.2)∧∀ y∈sc.names,y.2= .free→∃ c,(y.1,c)∈cl:=by
 obtain ⟨r,e,h1,h2,h3⟩:=qC env sc.names [] h
 refine ⟨r,?_,fun p hp=>(h1 p hp).resolve_left (fun z=>nomatch z),h3⟩
 unfold closureFor
 have:=e
 simp only [bind_pure] at *
 exact e
theorem zf {κ β:Type} [BEq κ] [LawfulBEq κ]:∀ {l:List (κ×β)} {x:κ} {c:β},(x,c)∈l→∃ c',l.lookup x=some c'
 | [],_,_,h=>nomatch h
 | (y,d)::l,x,c,h=>by
   by_cases e:x=y
   ·subst e;exact ⟨d,by simp [List.lookup_cons]⟩
   ·have hb:(x == y)=false:=beq_eq_false_iff_ne.mpr e
    rcases List.mem_cons.mp h with z | z
    ·exact absurd (congrArg Prod.fst z) e
    ·obtain ⟨c',q⟩:=zf z
     exact ⟨c',by rw [List.lookup_cons,hb];exact q⟩
theorem nL {env:Env}:∀ {names:List (Str×NameKind)} {x:Str} {k':NameKind},
  (names.map fun (n,k)=>if (k == NameKind.free&&env.scope.kind == .function&&env.kindOf n == some .cell) then (n,NameKind.cell) else (n,k)).lookup x=some k'→∃ k,(x,k)∈names∧(k'=k∨k= .free)
 | [],_,_,h=>by cases h
 | (y,k)::l,x,k',h=>by
   rw [List.map_cons,List.lookup_cons] at h
   by_cases e:x=y
   ·subst e
    by_cases hc:(k == NameKind.free&&env.scope.kind == .function&&env.kindOf x == some .cell)=true
    ·refine ⟨k,List.mem_cons_self,.inr ?_⟩
     rw [Bool.and_eq_true,Bool.and_eq_true] at hc
     exact eq_of_beq hc.1.1
    ·refine ⟨k,List.mem_cons_self,.inl ?_⟩
     simp only [if_neg hc,beq_self_eq_true] at h
     exact (Option.some.inj h).symm
   ·have hb:(x == y)=false:=beq_eq_false_iff_ne.mpr e
    have h':(l.map fun (n,k)=>if (k == NameKind.free&&env.scope.kind == .function&&env.kindOf n == some .cell) then (n,NameKind.cell) else (n,k)).lookup x=some k':=by
     by_cases hc:(k == NameKind.free&&env.scope.kind == .function&&env.kindOf y == some .cell)=true
     ·simp only [if_pos hc,hb] at h;exact h
     ·simp only [if_neg hc,hb] at h;exact h
    obtain ⟨q,hm,z⟩:=nL h'
    exact ⟨q,List.mem_cons_of_mem _ hm,z⟩
theorem qT {env:Env}:∀ {names:List (Str×NameKind)} {x:Str},names.lookup x=some .free→
  (names.map fun (n,k)=>if (k == NameKind.free&&env.scope.kind == .function&&env.kindOf n == some .cell) then (n,NameKind.cell) else (n,k)).lookup x=some .cell∨
  (names.map fun (n,k)=>if (k == NameKind.free&&env.scope.kind == .function&&env.kindOf n == some .cell) then (n,NameKind.cell) else (n,k)).lookup x=some .free
 | [],_,h=>by cases h
 | (y,k)::l,x,h=>by
   rw [List.lookup_cons] at h
   rw [List.map_cons,List.lookup_cons]
   by_cases e:x=y
   ·subst e
    simp only [beq_self_eq_true] at h
    cases h
    by_cases hc:(NameKind.free == NameKind.free&&env.scope.kind == .function&&env.kindOf x == some .cell)=true
    ·refine .inl ?_
     rw [if_pos hc]
     simp only [beq_self_eq_true]
    ·refine .inr ?_
     rw [if_neg hc]
     simp only [beq_self_eq_true]
   ·have hb:(x == y)=false:=beq_eq_false_iff_ne.mpr e
    simp only [hb] at h
    have q:=qT (env:=env) h
    by_cases hc:(k == NameKind.free&&env.scope.kind == .function&&env.kindOf y == some .cell)=true
    ·simp only [if_pos hc,hb];exact q
    ·simp only [if_neg hc,hb];exact q
structure jB (osc:Scope) (ON N:List Str) (n:Nat) (fx:List Nat) (sc:Scope):Prop where
 kind:sc.kind= .function
 noc:∀ y∈sc.names,y.2≠.cell
 own:∀ y∈sc.names,y.2= .local→sc.names.lookup y.1=some .local
 fre:∀ y∈sc.names,y.2= .free→osc.names.lookup y.1=some .cell∨osc.names.lookup y.1=some .free
 len:N.length=n + fx.length
 frn:∀ k,k < fx.length→∃ x j,N[n + k]? =some x∧fx[k]? =some j∧ON[j]? =some x∧sc.names.lookup x=some .free
noncomputable def M0 (ON:List Str) (sc:Scope):List Str→List Nat→Bool
 | [],[]=>true
 | x::xs,j::js=>decide (ON[j]? =some x)&&decide (sc.names.lookup x=some .free)&&M0 ON sc xs js
 | _,_=>false
theorem BO {ON:List Str} {sc:Scope}:∀ {xs:List Str} {js:List Nat},M0 ON sc xs js=true→xs.length=js.length∧∀ k,k < js.length→∃ x j,xs[k]? =some x∧js[k]? =some j∧ON[j]? =some x∧sc.names.lookup x=some .free
 | [],[],_=>⟨rfl,fun k h=>absurd h (Nat.not_lt_zero k)⟩
 | [],_::_,h=>by cases h
 | _::_,[],h=>by cases h
 | x::xs,j::js,h=>by
   simp only [M0,Bool.and_eq_true,decide_eq_true_eq] at h
   obtain ⟨l,q⟩:=BO h.2
   refine ⟨congrArg Nat.succ l,fun k hk=>?_⟩
   cases k with
   | zero=>exact ⟨x,j,rfl,rfl,h.1.1,h.1.2⟩
   | succ k=>
     obtain ⟨x',j',a,b,c⟩:=q k (Nat.lt_of_succ_lt_succ hk)
     exact ⟨x',j',by simpa using a,by simpa using b,c⟩
noncomputable def F3 (osc:Scope) (ON N:List Str) (n:Nat) (fx:List Nat) (sc:Scope):Bool:=
 decide (sc.kind= .function)&&decide (∀ y∈sc.names,y.2≠.cell)&&decide (∀ y∈sc.names,y.2= .local→sc.names.lookup y.1=some .local)&&
 decide (∀ y∈sc.names,y.2= .free→osc.names.lookup y.1=some .cell∨osc.names.lookup y.1=some .free)&&decide (n≤N.length)&&M0 ON sc (N.drop n) fx
theorem jB.of {osc:Scope} {ON N:List Str} {n:Nat} {fx:List Nat} {sc:Scope} (h:F3 osc ON N n fx sc=true):jB osc ON N n fx sc:=by
 simp only [F3,Bool.and_eq_true,decide_eq_true_eq] at h
 obtain ⟨⟨⟨⟨⟨h1,h2⟩,h3⟩,h4⟩,h5⟩,h6⟩:=h
 obtain ⟨l,q⟩:=BO h6
 refine ⟨h1,h2,h3,h4,?_,fun k hk=>?_⟩
 ·rw [List.length_drop] at l;omega
 ·obtain ⟨x,j,a,b⟩:=q k hk
  exact ⟨x,j,by rw [List.getElem?_drop] at a;exact a,b⟩
noncomputable def kc (X:Cx) (N:List Str) (sc:Scope) (cl:List (Str×Addr)) (C:Addr) (fp:List Addr) (s:Shared) (H:Hp):Cx where
 prog:=X.prog
 w:=X.w
 K:=X.K
 mg:=X.mg
 base:=X.base
 A:=X.A
 N:=N
 s₀:=s
 H₀:=H
 env:=compEnvC sc cl C X.env
 outer:=X.stack
 stack:=X.stack
 ex:=fp
 fn:=fun _=>false
 calm:=X.calm
 pn:=[]
 xe:=fun _ _=>False
noncomputable def eG (n:Nat) (fx:List Nat) (σ:St):St:=List.replicate n none++fx.map fun j=>(σ[j]?).join
noncomputable def Iy (n:Nat) (g:TG):Prop:=∀ v σ H (Q Q':St→Hp→Prop),(∀ σ' H',Q σ' H'→σ'.drop n=σ.drop n→σ'.length=σ.length→Q' σ' H')→g v σ H Q→g v σ H Q'
noncomputable def F7 (n:Nat) (g:TGs):Prop:=∀ vs σ H (Q Q':St→Hp→Prop),(∀ σ' H',Q σ' H'→σ'.drop n=σ.drop n→σ'.length=σ.length→Q' σ' H')→g vs σ H Q→g vs σ H Q'
theorem cL {n i:Nat} (h:i < n):Iy n (KM i):=fun v σ H Q Q' k q=>k _ _ q (by rw [List.drop_set_of_lt h]) (by rw [List.length_set])
theorem EA {n:Nat}:F7 n gNil:=fun vs σ H Q Q' k ⟨e,q⟩=>⟨e,k _ _ q rfl rfl⟩
theorem lR {n:Nat} {t:TG} {u:TGs} (ht:Iy n t) (hu:F7 n u):F7 n (PF t u):=fun vs σ H Q Q' k ⟨v,r,e,q⟩=>
 ⟨v,r,e,ht v σ H _ _ (fun σ1 H1 q1 e1 l1=>hu r σ1 H1 Q Q' (fun σ2 H2 q2 e2 l2=>k σ2 H2 q2 (e2.trans e1) (l2.trans l1)) q1) q⟩
theorem KF {K:PySem.W.Frag} {n m:Nat} {t:TGs} (h:F7 n t):Iy n (gTup K m t):=fun v σ H Q Q' k ⟨a,xs,e,hs,hl,q⟩=>⟨a,xs,e,hs,hl,h xs σ H Q Q' k q⟩
noncomputable def PTs (X:Cx) (ifs:List Expr) (t:TT):Prop:=
 ∀ (pins:List (Addr×Obj)) (s:Shared) (σ:St) (H:Hp) (Q:Bool→Hp→Prop),Inv X pins σ H s→t σ H Q→
  wpAny (model X.prog X.w) X.A (forIn ifs true fun c r=>if r=true then do let ok ← isTrue c X.env (eval c X.env);pure (ForInStep.yield ok) else pure (ForInStep.yield r)) (TP X pins σ Q) X.xe s
noncomputable def tYes:TT:=fun _ H Q=>Q true H
theorem fK {X:Cx}:PTs X [] tYes:=fun _ _ _ H _ I h=>wpAny_tests_nil ⟨H,I,h⟩
theorem yJ {X:Cx} {c:Expr} {t:TT} (h:PT X c t):PTs X [c] t:=fun pins s σ H Q I q=>wpAny_tests_one (h pins s σ H Q I q)
noncomputable def LQ (n:Nat) (fx:List Nat) (wi:TI) (g:TG) (tc:TT) (te:TE):TE:=fun σ H Q=>wi σ H fun J H1=>∀ D,H1 D=none→
 ∃ W:Nat→Nat→List V→Hp→Prop,(∃ m,W 0 m [] (upd H1 D (.lst [])))∧∀ i m ys H2,W i m ys H2→(J.stop i H2∧Q (.ref D) H2)∨
   (J.go i H2∧∃ N:List V→Hp→Prop,(∀ ys' H',N ys' H'→∃ m',m' < m∧W (i + 1) m' ys' H')∧∀ x H3,J.yld i H2 x H3→g x (eG n fx σ) H3 fun σ4 H4=>tc σ4 H4 fun b H5=>
    if b=true then te σ4 H5 fun v H6=>H6 D=some (.lst ys)∧ys.length < sizeLine∧N (ys++[v]) (upd H6 D (.lst (ys++[v]))) else N ys H5)
section
variable {X:Cx} {pins:List (Addr×Obj)} {σ:St} {H:Hp} {s:Shared}
theorem HS {n:Nat} {fx:List Nat}:(eG n fx σ).length=n + fx.length:=by unfold eG;simp
theorem yj {n:Nat} {fx:List Nat} {i:Nat} {v:V} (e:(eG n fx σ)[i]? =some (some v)):∃ k j,i=n + k∧fx[k]? =some j∧σ[j]? =some (some v):=by
 unfold eG at e
 by_cases h:i < n
 ·rw [List.getElem?_append_left (by simpa using h),List.getElem?_replicate,if_pos h] at e
  cases e
 ·rw [List.getElem?_append_right (by simpa using h),List.length_replicate,List.getElem?_map] at e
  cases q:fx[i - n]? with
  | none=>rw [q] at e;cases e
  | some j=>
    rw [q] at e
    have e':(σ[j]?).join=some v:=Option.some.inj e
    refine ⟨i - n,j,by omega,q,?_⟩
    cases z:σ[j]? with
    | none=>rw [z] at e';cases e'
    | some o=>rw [z] at e';have:o=some v:=e';rw [this]
theorem Nc {osc:Scope} {ON N:List Str} {n:Nat} {fx:List Nat} {sc:Scope} {cl:List (Str×Addr)} {fp:List Addr} {h4:Heap} {tk:Nat}
  (ho:X.env.scope=osc) (hN:X.N=ON) (S:jB osc ON N n fx sc)
  (hcl1:∀ p∈cl,X.env.cells.lookup p.1=some p.2) (hcl2:∀ y∈sc.names,y.2= .free→∃ c,(y.1,c)∈cl)
  (I:Inv X pins σ H s) (hf:∀ b∈fp,FpOk X pins H b) (hfo:∀ b∈fp,b < s.heap.objs.size)
  (hns:∃ m,h4.Ns s.heap.objs.size m) (old:∀ b o,s.heap.get? b=some o→h4.get? b=some o):
  Inv (kc X N sc cl s.heap.objs.size fp s H) [] (eG n fx σ) H {s with heap:=h4,toks:=tk}:=by
 have look:∀ {x:Str} {c:Addr},cl.lookup x=some c→X.env.cells.lookup x=some c:=fun {x c} e=>hcl1 (x,c) (PySem.mem_of_lookup e)
 have ok:(kc X N sc cl s.heap.objs.size fp s H).Ok:=by
  refine ⟨I.ok.mod,S.kind,I.ok.glob,I.ok.blt,Nat.le_refl _,fun x y c h1 h2=>I.ok.inj x y c (look h1) (look h2),fun x hx=>?_,fun x c z=>(by cases z),I.ok.hd,I.ok.frames,.inl rfl,fun b hb=>⟨Nat.ne_of_lt (hfo b hb),fun x c e=>(hf b hb).2.2.2.2.1 x c (look e)⟩,
   I.bs,Nat.le_trans I.ok.bsz I.sz,fun b o e hb=>?_,fun b hb z=>?_,I.stack,I.stkFree⟩
  ·have hx':∃ k',(k'=NameKind.cell∨k'=NameKind.free)∧(sc.names.map fun (n,k)=>if (k == NameKind.free&&X.env.scope.kind == .function&&X.env.kindOf n == some .cell) then (n,NameKind.cell) else (n,k)).lookup x=some k':=by
    rcases hx with hx | hx
    ·exact ⟨_,.inl rfl,hx⟩
    ·exact ⟨_,.inr rfl,hx⟩
   obtain ⟨k',hk,e⟩:=hx'
   obtain ⟨k,hm,z⟩:=nL e
   have kf:k= .free:=by
    rcases z with z | z
    ·subst z
     rcases hk with q | q
     ·exact absurd q (S.noc _ hm)
     ·exact q
    ·exact z
   subst kf
   obtain ⟨c,hc⟩:=hcl2 _ hm rfl
   exact zf hc
  ·rcases (hf b hb).2.2.2.1 with z | z
   ·exact I.ok.noex b o e z
   ·exact absurd (Nat.lt_of_lt_of_le (Heap.lt_size (I.ok.bs b o e).1) z) (Nat.lt_irrefl _)
  ·rcases List.mem_cons.mp (I.stkSub b z) with q | q
   ·exact (hf b hb).2.1 q
   ·exact (hf b hb).2.2.1 q
 obtain ⟨m,hns⟩:=hns
 refine ⟨ok,rfl,I.bare,Un.kept old,⟨m,hns,fun i x v e1 e2 e3=>?_⟩,fun x c e=>?_,I.hok.fresh (Nat.le_refl _),fun x c e=>I.freeC x c (look e),fun p hp=>absurd (show p∈([]:List (Addr×Obj)) from hp) (by simp),I.hok.kept old,?_⟩
 ·obtain ⟨k,j,rfl,hj,hv⟩:=yj e2
  obtain ⟨x',j',a1,a2,a3,a4⟩:=S.frn k (List.getElem?_eq_some_iff.mp hj).1
  have ex:x'=x:=Option.some.inj (a1.symm.trans e1)
  have ej:j'=j:=Option.some.inj (a2.symm.trans hj)
  subst ex;subst ej
  obtain ⟨m',_,hl⟩:=I.loc
  have hk:X.env.scope.names.lookup x'=some .cell∨X.env.scope.names.lookup x'=some .free:=by rw [ho];exact S.fre _ (PySem.mem_of_lookup a4) rfl
  have vis:Vis X.env.scope x':=by rcases hk with z | z;exact .inr (.inl z);exact .inr (.inr z)
  obtain ⟨u,r,q⟩:=hl j' x' v (by rw [hN];exact a3) hv vis
  rcases q with ⟨z,_⟩ | ⟨_,c,ec,ic⟩
  ·have z':X.env.scope.names.lookup x'=some .local:=z
   rcases hk with q | q<;>(rw [q] at z';cases z')
  ·refine ⟨u,r,.inr ⟨qT a4,c,?_,ic.keeps old⟩⟩
   obtain ⟨c0,hc0⟩:=hcl2 _ (PySem.mem_of_lookup a4) rfl
   obtain ⟨c1,hc1⟩:=zf hc0
   have:=look hc1
   rw [ec] at this
   cases this
   exact hc1
 ·obtain ⟨v,q⟩:=I.cell x c (look e)
  exact ⟨v,q.keeps old⟩
 ·show _=N.length
  rw [HS,S.len]
theorem Cj {osc:Scope} {ON N:List Str} {n:Nat} {fx:List Nat} {sc:Scope} {cl:List (Str×Addr)} {elt tg iter:Expr} {ifs:List Expr} {pos:Pos} {wi:TI} {g:TG} {tc:TT} {te:TE} {Q:VK} {RR:Value→Addr→Result→Shared→Prop}
  (hcalm:X.calm=true) (ho:X.env.scope=osc) (hN:X.N=ON) (S:jB osc ON N n fx sc)
  (hcl1:∀ p∈cl,X.env.cells.lookup p.1=some p.2) (hcl2:∀ y∈sc.names,y.2= .free→∃ c,(y.1,c)∈cl)
  (hi:PI X tg iter wi) (gk:Iy n g) (hb:∀ cl C fp s H,PG (kc X N sc cl C fp s H) tg g∧PTs (kc X N sc cl C fp s H) ifs tc∧PE (kc X N sc cl C fp s H) elt te)
  (I:Inv X pins σ H s) (h:LQ n fx wi g tc te σ H Q)
  (hRR:∀ D C H' s',Inv X pins σ H' s'→(∃ m,s'.heap.Ns C m)→FpOk X pins H' C→Q (.ref D) H'→RR (.ref D) C (.ok .next) s'):
  wpAny (model X.prog X.w) X.A (eval iter X.env) (fun x s₁=>wpAny (model X.prog X.w) X.A (pyIter x) (fun it s₂=>wpAny (model X.prog X.w) X.A (newList []) (fun acc s₃=>
   wpAny (model X.prog X.w) X.A (newFunctionEnv sc X.env.globals cl [] X.env.qual none .none (some X.env)) (fun cenv s₄=>
    codeAny (model X.prog X.w) X.A (.compStart (.ListComp elt [⟨tg,iter,ifs,0⟩] sc pos) 0 it acc {cenv with scope:=relabel sc X.env}) (RR acc cenv.locals) s₄) X.xe s₃) X.xe s₂) X.xe s₁) X.xe s:=by
 refine thn (hi pins s σ H _ I h) fun v s1 h1=>thn h1 fun itv s2 h2=>?_
 obtain ⟨it,fp,tn,J,H2,e2,I2,T,st2,f2,hW⟩:=h2
 subst e2
 obtain ⟨W,⟨m0,w0⟩,hturn⟩:=hW s2.heap.objs.size I2.fresh
 refine wpAny_newObj_type ?_
 have I3:Inv X pins σ (upd H2 s2.heap.objs.size (.lst [])) {s2 with heap:=s2.heap.push {cls:= .type "list",data:= .seq ([]:List Value).toArray}}:=I2.lnew (t':=s2.toks) (its:=[]) .nil (Nat.zero_le _)
 have f3:∀ b∈fp,FpOk X pins (upd H2 s2.heap.objs.size (.lst [])) b∧b < s2.heap.objs.size:=fun b hb=>by
  obtain ⟨o,e,_⟩:=T.obj _ _ st2 b hb
  have l:=Heap.lt_size e
  obtain ⟨a1,a2⟩:=f2 b hb
  exact ⟨⟨by rw [aV (Nat.ne_of_lt l)];exact a1,a2⟩,l⟩
 have sz:({s2 with heap:=s2.heap.push {cls:= .type "list",data:= .seq ([]:List Value).toArray}}:Shared).heap.objs.size=s2.heap.objs.size + 1:=Heap.size_push ..
 generalize hs3:({s2 with heap:=s2.heap.push {cls:= .type "list",data:= .seq ([]:List Value).toArray}}:Shared)=s3 at I3 sz ⊢
 generalize hH3:upd H2 s2.heap.objs.size (.lst [])=H3 at I3 f3 w0
 have old3:∀ b o,s2.heap.get? b=some o→s3.heap.get? b=some o:=fun b o e=>by rw [← hs3];exact Heap.get?_push_of_some _ e
 refine wpAny_newFunctionEnv (fun y hy=>S.noc y hy) (fun y hy=>nomatch hy) (fun h4 hns hsb=>?_) S.kind
 have old4:∀ b o,s3.heap.get? b=some o→h4.get? b=some o:=fun b o e=>hsb.extBut b o (Nat.ne_of_lt (Heap.lt_size e)) (Heap.get?_push_of_some _ e)
 have I4:=Nc (tk:=s3.toks + ([]:List (Str×Value)).length) ho hN S hcl1 hcl2 I3 (fun b hb=>(f3 b hb).1) (fun b hb=>by rw [sz];exact Nat.lt_succ_of_lt (f3 b hb).2) ⟨_,hns⟩ old4
 have hb':=hb cl s3.heap.objs.size fp s3 H3
 generalize hY:kc X N sc cl s3.heap.objs.size fp s3 H3=Y at I4 hb'
 have stat:∀ {H':Hp},(∀ b∈fp,H' b=none)→∀ b∈fp,FpOk Y [] H' b:=fun {H'} hn b hb=>by
  subst hY
  obtain ⟨⟨a1,a2,a3,a4,a5,a6⟩,l⟩:=f3 b hb
  refine ⟨hn b hb,Nat.ne_of_lt (show b < s3.heap.objs.size by rw [sz];exact Nat.lt_succ_of_lt l),fun z=>?_,.inl hb,fun x c e=>a5 x c (hcl1 (x,c) (PySem.mem_of_lookup e)),fun p hp=>absurd (show p∈([]:List (Addr×Obj)) from hp) (by simp)⟩
  rcases List.mem_cons.mp (I3.stkSub b z) with q | q
  ·exact a2 q
  ·exact a3 q
 have fin:∀ {σ6:St} {H6:Hp} {s6:Shared},Inv Y [] σ6 H6 s6→Q (.ref s2.heap.objs.size) H6→RR (.ref s2.heap.objs.size) s3.heap.objs.size (.ok .next) s6:=fun {σ6 H6 s6} I6 q=>by
  subst hY
  refine hRR _ _ H6 s6 ?_ (let ⟨m,hm,_⟩:=I6.loc;⟨m,hm⟩) (I3.fpOk (Nat.le_refl _) I6.free) q
  obtain ⟨hh,gg,dd,tt,os'⟩:=s6
  obtain rfl:os'=s3.os:=I6.os
  exact I3.call (h':=hh) (g':=gg) (d':=dd) (t':=tt) (ch:=fp) I6.base I6.hok I6.bare fun b hb=>by
   obtain ⟨⟨a1,a2,a3,a4,a5,a6⟩,l⟩:=f3 b hb
   exact ⟨a4,a2,a5,a6⟩
 have pY:Y.prog=X.prog:=by subst hY;rfl
 have wY:Y.w=X.w:=by subst hY;rfl
 have kY:Y.K=X.K:=by subst hY;rfl
 have aY:Y.A=X.A:=by subst hY;rfl
 have cY:Y.calm=true:=by subst hY;exact hcalm
 have eY:Y.env=compEnvC sc cl s3.heap.objs.size X.env:=by subst hY;rfl
 have xY:Y.xe=fun _ _=>False:=by subst hY;rfl
 have T':Turn Y.prog Y.w Y.K tg J fp it tn:=by rw [pY,wY,kY];exact T
 have tn4:tn 0 h4:=T.keep _ _ _ st2 fun b hb o e=>old4 b o (old3 b o e)
 have loop:codeAny (model X.prog X.w) X.A (.compLoop (.ListComp elt [⟨tg,iter,ifs,0⟩] sc pos) 0 (.ref it) (.ref s2.heap.objs.size) (compEnvC sc cl s3.heap.objs.size X.env)) (RR (.ref s2.heap.objs.size) s3.heap.objs.size)
   {s3 with heap:=h4,toks:=s3.toks + ([]:List (Str×Value)).length}:=by
  rw [← pY,← wY,← aY,← eY]
  refine HQ (fun k s'=>∃ i ys σ' H',Inv Y [] σ' H' s'∧σ'.drop n=(eG n fx σ).drop n∧σ'.length=(eG n fx σ).length∧tn i s'.heap∧(∀ b∈fp,H' b=none)∧W i k ys H') ?_ m0 ⟨0,[],_,H3,I4,rfl,rfl,tn4,fun b hb=>(f3 b hb).1.1,w0⟩
  rintro k s5 ⟨i,ys,σ5,H5,I5,ed,el,st5,fr5,w5⟩
  have I5:Inv Y [] (eG n fx σ) H5 s5:=I5.weak el.symm fun j v e=>by
   obtain ⟨k',j',rfl,_,_⟩:=yj e
   have q:=congrArg (fun l=>l[k']?) ed
   simp only [List.getElem?_drop] at q
   rw [q];exact e
  rcases hturn i k ys H5 w5 with ⟨stop,q⟩ | ⟨go,N',hN',step⟩
  ·refine wpAny_mono (T'.done Y rfl rfl rfl cY i [] s5 _ H5 (fun _ _=>False) I5 (stat fr5) st5 stop) (fun r s6 ⟨hr,I6⟩=>?_) fun _ _ z=>z
   subst hr
   exact fin I6 q
  ·rw [← xY]
   refine thn (T'.item Y rfl rfl rfl cY i [] s5 _ H5 Y.xe I5 (stat fr5) st5 go) fun r s6 ⟨u,hr,h6⟩=>?_
   subst hr
   show wpAny _ _ _ _ _ _
   refine thn h6 fun _ s7 ⟨x,H7,I7,r7,y7,st7,fr7⟩=>?_
   have I7':=I7.pinned (stat fr7) (T.obj _ _ st7)
   refine thn (hb'.1 _ s7 _ H7 x u _ I7' r7 (gk _ _ _ _ _ (fun σ' H' q e l=>(⟨q,e,l⟩:_∧_∧_)) (step x H7 y7))) fun _ s8 ⟨σ8,H8,I8,q8,ed8,el8⟩=>?_
   refine thn (hb'.2.1 _ s8 σ8 H8 _ I8 q8) fun ok s9 ⟨H9,I9,q9⟩=>?_
   have again:∀ {H10:Hp} {s10:Shared} {zs:List V},Inv Y ([]++AU fp s7.heap) σ8 H10 s10→N' zs H10→
     ∃ m,m < k∧∃ i ys σ' H',Inv Y [] σ' H' s10∧σ'.drop n=(eG n fx σ).drop n∧σ'.length=(eG n fx σ).length∧tn i s10.heap∧(∀ b∈fp,H' b=none)∧W i m ys H':=fun {H10 s10 zs} I10 n10=>by
    obtain ⟨m',hm,w10⟩:=hN' _ _ n10
    refine ⟨m',hm,i + 1,zs,σ8,H10,I10.unpinned,ed8,el8,T.keep _ _ _ st7 fun b hb o e=>(I10.pin (b,o) (List.mem_append_right _ (List.mem_append_right _ (lQ hb e)))).1,fun b hb=>?_,w10⟩
    obtain ⟨o,e,d⟩:=T.obj _ _ st7 b hb
    exact (I10.pin (b,o) (List.mem_append_right _ (List.mem_append_right _ (lQ hb e)))).2.1
   cases ok with
   | false=>exact again I9 q9
   | true=>
     rw [if_pos rfl]
     refine thn (hb'.2.2 _ s9 σ8 H9 _ I9 q9) fun y s10 ⟨v',H10,I10,r10,hD10,hl10,n10⟩=>?_
     refine thn (eV (X:=Y) _ s10 σ8 H10 (.ref s2.heap.objs.size) [v'] (.ref s2.heap.objs.size) [y] (fun _ H'=>H'=upd H10 s2.heap.objs.size (.lst (ys++[v']))) I10 rfl (.cons r10 .nil) ⟨_,ys,v',rfl,rfl,hD10,hl10,rfl⟩) fun _ s11 ⟨_,H11,I11,_,e11⟩=>?_
     subst e11
     exact again I11 n10
 exact codeAny_compStart_list loop (T.self X.A 0 _ _ _ tn4 loop)
theorem hG {osc:Scope} {ON N:List Str} {n:Nat} {fx:List Nat} {sc:Scope} {elt tg iter:Expr} {ifs:List Expr} {pos:Pos} {wi:TI} {g:TG} {tc:TT} {te:TE}
  (hcalm:X.calm=true) (ho:X.env.scope=osc) (hN:X.N=ON) (S:F3 osc ON N n fx sc=true) (hi:PI X tg iter wi) (gk:Iy n g)
  (hb:∀ cl C fp s H,PG (kc X N sc cl C fp s H) tg g∧PTs (kc X N sc cl C fp s H) ifs tc∧PE (kc X N sc cl C fp s H) elt te)
  (hs:∀ x,foldedSetIterable iter X.env x=pure x:=by intro _;rfl):PE X (.ListComp elt [⟨tg,iter,ifs,0⟩] sc pos) (LQ n fx wi g tc te):=by
 intro pins s σ H Q I h
 have S:=jB.of S
 obtain ⟨cl,hcl,hcl1,hcl2⟩:=yk sc X.env fun y hy hf=>I.ok.has y.1 (by show X.env.scope.names.lookup y.1=some .cell∨X.env.scope.names.lookup y.1=some .free;rw [ho];exact S.fre y hy hf)
 rw [eval_ListComp]
 refine wpAny_comprehension_free (use:=none) rfl hs hcl S.kind S.own (Cj (RR:=fun acc C=>compPost (model X.prog X.w) X.A X.xe none (EP X pins σ Q) acc C) hcalm ho hN S hcl1 hcl2 hi gk hb I h ?_)
 intro D C H' s' I' hm hf q
 obtain ⟨m,hm⟩:=hm
 obtain ⟨f0,f1,f2,f3,f4,f5⟩:=hf
 exact ⟨m,hm,fun h' hsb=>⟨.ref D,H',I'.turned (t':=s'.toks) (fun b o hb e=>(hsb.2 b hb).trans e) f0 f1 f3 f4 f5,rfl,q⟩⟩
theorem pq {i:Nat} {x:Str} {px:Pos} {spos:Pos} {osc:Scope} {ON N:List Str} {n:Nat} {fx:List Nat} {sc:Scope} {elt tg iter:Expr} {ifs:List Expr} {pos:Pos} {wi:TI} {g:TG} {tc:TT} {te:TE}
  (hnd:X.N.Nodup) (hx:X.N[i]? =some x) (hl:X.env.scope.names.lookup x=some .local) (hsw:swapsWith (.ListComp elt [⟨tg,iter,ifs,0⟩] sc pos) (some (.Name x px)) spos.line X.env=pure true)
  (hcalm:X.calm=true) (ho:X.env.scope=osc) (hN:X.N=ON) (S:F3 osc ON N n fx sc=true) (hi:PI X tg iter wi) (gk:Iy n g)
  (hb:∀ cl C fp s H,PG (kc X N sc cl C fp s H) tg g∧PTs (kc X N sc cl C fp s H) ifs tc∧PE (kc X N sc cl C fp s H) elt te)
  (hs:∀ x,foldedSetIterable iter X.env x=pure x:=by intro _;rfl):PS X (.Assign [.Name x px] (.ListComp elt [⟨tg,iter,ifs,0⟩] sc pos) spos) (tAsg (LQ n fx wi g tc te) (KM i)):=by
 intro pins s σ H D I h
 have S:=jB.of S
 obtain ⟨cl,hcl,hcl1,hcl2⟩:=yk sc X.env fun y hy hf=>I.ok.has y.1 (by show X.env.scope.names.lookup y.1=some .cell∨X.env.scope.names.lookup y.1=some .free;rw [ho];exact S.fre y hy hf)
 rw [exec_Assign_Name_used _ _ _ _ hsw]
 refine wpAny_bind (wpAny_standAt (wpAny_bind ?_))
 show wpAny _ X.A (do let _ ← comprehension (.ListComp elt [⟨tg,iter,ifs,0⟩] sc pos) sc X.env _ (newList []) false (eval iter X.env) (some (assign (.Name x px) X.env))) _ _ s
 refine wpAny_bind (thn (wpAny_comprehension_free (use:=some (assign (.Name x px) X.env)) (Q:=fun _ s'=>SP X pins D .next s') rfl hs hcl S.kind S.own
  (Cj (RR:=fun acc C=>compPost (model X.prog X.w) X.A X.xe (some (assign (.Name x px) X.env)) (fun _ s'=>SP X pins D .next s') acc C) hcalm ho hN S hcl1 hcl2 hi gk hb I h ?_)) fun _ s' q=>wpAny_pure (wpAny_pure q))
 intro D' C H' s' I' hm hf q
 obtain ⟨m,hm⟩:=hm
 obtain ⟨f0,f1,f2,f3,f4,f5⟩:=hf
 show wpAny _ X.A (assign (.Name x px) X.env (.ref D')) _ _ _
 refine wpAny_assign_Name (Ay I' hnd hx (.inl hl) (v:= .ref D') rfl (fun s2 I2 hch=>?_) (.inr hl))
 obtain ⟨a,hsb,ha⟩:=hch
 have hCa:C≠a:=by
  rcases ha with z | z
  ·rw [z];exact f1
  ·exact fun e=>f4 _ _ z e.symm
 exact ⟨m,hm.sameBut hsb hCa,fun h' hsb'=>⟨_,H',I2.turned (t':=s2.toks) (fun b o hb e=>(hsb'.2 b hb).trans e) f0 f1 f3 f4 f5,q⟩⟩
end
section
variable {K:PySem.W.Frag} {n:Nat} {fx:List Nat} {g:TG} {tc:TT} {te:TE} {σ:St} {H1:Hp} {D:Addr} {Q:Hp→Prop}
theorem yh {lo:Int} {k:Nat} (Pv:Nat→List V→Hp→Prop) (h0:Pv 0 [] (upd H1 D (.lst [])))
  (hs:∀ i ys H,i < k→Pv i ys H→g (.int (lo + i)) (eG n fx σ) H fun σ4 H4=>tc σ4 H4 fun b H5=>if b=true then te σ4 H5 fun v H6=>H6 D=some (.lst ys)∧ys.length < sizeLine∧Pv (i + 1) (ys++[v]) (upd H6 D (.lst (ys++[v]))) else Pv (i + 1) ys H5)
  (hd:∀ ys H,Pv k ys H→Q H):
  ∃ W:Nat→Nat→List V→Hp→Prop,(∃ m,W 0 m [] (upd H1 D (.lst [])))∧∀ i m ys H2,W i m ys H2→((Itr lo k).stop i H2∧Q H2)∨
    ((Itr lo k).go i H2∧∃ N:List V→Hp→Prop,(∀ ys' H',N ys' H'→∃ m',m' < m∧W (i + 1) m' ys' H')∧∀ x H3,(Itr lo k).yld i H2 x H3→g x (eG n fx σ) H3 fun σ4 H4=>tc σ4 H4 fun b H5=>
      if b=true then te σ4 H5 fun v H6=>H6 D=some (.lst ys)∧ys.length < sizeLine∧N (ys++[v]) (upd H6 D (.lst (ys++[v]))) else N ys H5):=by
 refine ⟨fun i m ys H=>m=k - i∧i≤k∧Pv i ys H,⟨k,by simp,Nat.zero_le _,h0⟩,?_⟩
 rintro i m ys H ⟨rfl,hi,p⟩
 by_cases hlt:i < k
 ·refine .inr ⟨hlt,Pv (i + 1),fun ys' H' p'=>⟨k - (i + 1),by omega,rfl,hlt,p'⟩,fun x H' y=>?_⟩
  obtain ⟨e,y⟩:=y
  subst e;subst y
  exact hs i ys _ hlt p
 ·have e:i=k:=by omega
  subst e
  exact .inl ⟨Nat.le_refl _,hd ys H p⟩
theorem cZ {a:Addr} {xs:List V} (Pv:Nat→List V→Hp→Prop) (h0:Pv 0 [] (upd H1 D (.lst []))) (hl:∀ i ys H,i≤xs.length→Pv i ys H→SqL K H a xs)
  (hs:∀ i x ys H,xs[i]? =some x→Pv i ys H→g x (eG n fx σ) H fun σ4 H4=>tc σ4 H4 fun b H5=>if b=true then te σ4 H5 fun v H6=>H6 D=some (.lst ys)∧ys.length < sizeLine∧Pv (i + 1) (ys++[v]) (upd H6 D (.lst (ys++[v]))) else Pv (i + 1) ys H5)
  (hd:∀ ys H,Pv xs.length ys H→Q H):
  ∃ W:Nat→Nat→List V→Hp→Prop,(∃ m,W 0 m [] (upd H1 D (.lst [])))∧∀ i m ys H2,W i m ys H2→((Itl K a).stop i H2∧Q H2)∨
    ((Itl K a).go i H2∧∃ N:List V→Hp→Prop,(∀ ys' H',N ys' H'→∃ m',m' < m∧W (i + 1) m' ys' H')∧∀ x H3,(Itl K a).yld i H2 x H3→g x (eG n fx σ) H3 fun σ4 H4=>tc σ4 H4 fun b H5=>
      if b=true then te σ4 H5 fun v H6=>H6 D=some (.lst ys)∧ys.length < sizeLine∧N (ys++[v]) (upd H6 D (.lst (ys++[v]))) else N ys H5):=by
 refine ⟨fun i m ys H=>m=xs.length - i∧i≤xs.length∧Pv i ys H,⟨xs.length,by simp,Nat.zero_le _,h0⟩,?_⟩
 rintro i m ys H ⟨rfl,hi,p⟩
 have q:=hl i ys H hi p
 by_cases hlt:i < xs.length
 ·refine .inr ⟨⟨xs,xs[i],q,by simp [hlt]⟩,Pv (i + 1),fun ys' H' p'=>⟨xs.length - (i + 1),by omega,rfl,hlt,p'⟩,fun x H' y=>?_⟩
  obtain ⟨e,y⟩:=y
  subst e
  exact hs i x ys _ (y xs q) p
 ·have e:i=xs.length:=by omega
  subst e
  exact .inl ⟨⟨xs,q,Nat.le_refl _⟩,hd ys H p⟩
end
noncomputable def jl (K:PySem.W.Frag) (H:Hp) (x:V) (k:String):Prop:=match x with
 | .non=>k="NoneType"
 | .bl _=>k="bool"
 | .int _=>k="int"
 | .str _=>k="str"
 | .ref p=>(k="list"∧∃ xs,SqL K H p xs)∨(k="tuple"∧∃ xs,SqT K H p xs)∨(k="dict"∧∃ kvs,Rd H p (.dK kvs))
 | _=>False
noncomputable def subB (k T:String):Bool:=k == T||(k == "bool"&&T == "int")
noncomputable def rIsi (K:PySem.W.Frag):List V→Hp→VK→Prop:=fun xs H Q=>∃ x k T,xs=[x,.ty T]∧jl K H x k∧T∈["int","bool","str","list","tuple","dict"]∧Q (.bl (subB k T)) H
section
variable {X:Cx}
theorem Ng:mi X (.builtin "isinstance") (rIsi X.K):=by
 intro pins s σ H xs us Q I r h
 obtain ⟨x,k,T,rfl,hk,hT,q⟩:=h
 obtain ⟨u,v,rfl,rx,rt⟩:=LL r
 cases rt
 have f0:∀ b,b=subB k T→EP X pins σ Q (.bool b) s:=fun b e=>⟨.bl b,H,I,rfl,by rw [e];exact q⟩
 have f1:∀ b,b=subB k T→EP X pins σ Q (.bool b) {s with toks:=s.toks + 1}:=fun b e=>⟨.bl b,H,I.tok _,rfl,by rw [e];exact q⟩
 simp only [List.mem_cons,List.not_mem_nil,or_false] at hT
 cases x with
 | non=>
   cases rx;cases hk
   rcases hT with rfl | rfl | rfl | rfl | rfl | rfl
   ·exact IsiPair.NoneType_int (f1 _ (by decide))
   ·exact IsiPair.NoneType_bool (f1 _ (by decide))
   ·exact IsiPair.NoneType_str (f1 _ (by decide))
   ·exact IsiPair.NoneType_list (f1 _ (by decide))
   ·exact IsiPair.NoneType_tuple (f1 _ (by decide))
   ·exact IsiPair.NoneType_dict (f1 _ (by decide))
 | bl b=>
   cases rx;cases hk
   rcases hT with rfl | rfl | rfl | rfl | rfl | rfl
   ·exact IsiPair.bool_int (f0 _ (by decide))
   ·exact IsiPair.bool_bool (f0 _ (by decide))
   ·exact IsiPair.bool_str (f1 _ (by decide))
   ·exact IsiPair.bool_list (f1 _ (by decide))
   ·exact IsiPair.bool_tuple (f1 _ (by decide))
   ·exact IsiPair.bool_dict (f1 _ (by decide))
 | int i=>
   obtain ⟨t,rfl⟩:=rx;cases hk
   rcases hT with rfl | rfl | rfl | rfl | rfl | rfl
   ·exact IsiPair.int_int (f0 _ (by decide))
   ·exact IsiPair.int_bool (f1 _ (by decide))
   ·exact IsiPair.int_str (f1 _ (by decide))
   ·exact IsiPair.int_list (f1 _ (by decide))
   ·exact IsiPair.int_tuple (f1 _ (by decide))
   ·exact IsiPair.int_dict (f1 _ (by decide))
 | str z=>
   obtain ⟨t,rfl⟩:=rx;cases hk
   rcases hT with rfl | rfl | rfl | rfl | rfl | rfl
   ·exact IsiPair.str_int (f1 _ (by decide))
   ·exact IsiPair.str_bool (f1 _ (by decide))
   ·exact IsiPair.str_str (f0 _ (by decide))
   ·exact IsiPair.str_list (f1 _ (by decide))
   ·exact IsiPair.str_tuple (f1 _ (by decide))
   ·exact IsiPair.str_dict (f1 _ (by decide))
 | ref p=>
   cases rx
   rcases hk with ⟨rfl,xs,hq⟩ | ⟨rfl,xs,hq⟩ | ⟨rfl,kvs,hq⟩
   ·obtain ⟨its,_,pl,_⟩:=I.list hq
    obtain ⟨o,ho,hc,_⟩:=pl.isList
    rcases hT with rfl | rfl | rfl | rfl | rfl | rfl
    ·exact IsiPair.list_int ho hc (f1 _ (by decide))
    ·exact IsiPair.list_bool ho hc (f1 _ (by decide))
    ·exact IsiPair.list_str ho hc (f1 _ (by decide))
    ·exact IsiPair.list_list ho hc (f0 _ (by decide))
    ·exact IsiPair.list_tuple ho hc (f1 _ (by decide))
    ·exact IsiPair.list_dict ho hc (f1 _ (by decide))
   ·obtain ⟨its,_,pl,_⟩:=I.tuple hq
    obtain ⟨o,ho,hc,_⟩:=pl
    rcases hT with rfl | rfl | rfl | rfl | rfl | rfl
    ·exact IsiPair.tuple_int ho hc (f1 _ (by decide))
    ·exact IsiPair.tuple_bool ho hc (f1 _ (by decide))
    ·exact IsiPair.tuple_str ho hc (f1 _ (by decide))
    ·exact IsiPair.tuple_list ho hc (f1 _ (by decide))
    ·exact IsiPair.tuple_tuple ho hc (f0 _ (by decide))
    ·exact IsiPair.tuple_dict ho hc (f1 _ (by decide))
   ·obtain ⟨_,_,_,_,o,_,_,ho,ex,_⟩:=hq.ok I.hok
    have hc:o.cls= .type "dict":=ex.1
    rcases hT with rfl | rfl | rfl | rfl | rfl | rfl
    ·exact IsiPair.dict_int ho hc (f1 _ (by decide))
    ·exact IsiPair.dict_bool ho hc (f1 _ (by decide))
    ·exact IsiPair.dict_str ho hc (f1 _ (by decide))
    ·exact IsiPair.dict_list ho hc (f1 _ (by decide))
    ·exact IsiPair.dict_tuple ho hc (f1 _ (by decide))
    ·exact IsiPair.dict_dict ho hc (f0 _ (by decide))
 | _=>exact False.elim hk
noncomputable def Q7:V→List V→Hp→VK→Prop:=fun x xs H Q=>∃ i,x= .int i∧xs=[]∧Q (.int (Builtin.Int.intBits i:Nat)) H
theorem mU:MtR X "int.bit_length" Q7:=by
 intro pins s σ H x xs v us Q I rx rs h
 obtain ⟨i,rfl,rfl,q⟩:=h
 obtain ⟨t,rfl⟩:=rx
 cases rs
 exact call_int_bit_length ⟨.int _,H,I.tok _,⟨_,rfl⟩,q⟩
noncomputable def eqVs (xs ys:List V):Bool:=xs.length == ys.length&&(List.range xs.length).all fun j=>eqV (xs.getD j .non) (ys.getD j .non)
noncomputable def rEqL (K:PySem.W.Frag) (neg:Bool):R2:=fun x y H Q=>∃ a b xs ys,x= .ref a∧y= .ref b∧SqL K H a xs∧SqL K H b ys∧xs.all jK=true∧ys.all jK=true∧Q (.bl (if neg then !eqVs xs ys else eqVs xs ys)) H
theorem oR {xs:List V} {us:List Value} (r:Vals xs us) {j:Nat} (h:j < us.toArray.size):RelV (xs.getD j .non) (us.toArray[j]):=by
 have hl:=r.length
 have h':j < us.length:=by simpa using h
 obtain ⟨u,e,ru⟩:=r.get (i:=j) (x:=xs.getD j .non) (by rw [List.getD_eq_getElem?_getD,List.getElem?_eq_getElem (by omega)];rfl)
 have e2:us.toArray[j]=u:=by
  rw [List.getElem?_eq_getElem h'] at e
  have:=Option.some.inj e
  simpa using this
 rw [e2];exact ru
theorem EF {xs:List V} (f:xs.all jK=true) (j:Nat):jK (xs.getD j .non)=true:=by
 rw [List.getD_eq_getElem?_getD]
 cases e:xs[j]? with
 | none=>rfl
 | some x=>exact List.all_eq_true.mp f x (List.mem_of_getElem? e)
theorem Ml {pins:List (Addr×Obj)} {σ:St} {H:Hp} {s:Shared} {a b:Addr} {xs ys:List V} {A:Around} (hu:A.units < cLine) (I:Inv X pins σ H s) (ha:SqL X.K H a xs) (hb:SqL X.K H b ys) (fx:xs.all jK=true) (fy:ys.all jK=true):
  SeqAt.RcAt A s (.ref a) (.ref b) (eqVs xs ys)∧SeqAt.RcNeAt A s (.ref a) (.ref b) (!eqVs xs ys):=by
 obtain ⟨its,r,pl,_⟩:=I.list ha
 obtain ⟨jts,r',pl',_⟩:=I.list hb
 have l1:=r.length
 have l2:=r'.length
 by_cases hl:xs.length=ys.length
 ·have e:eqVs xs ys=(List.range its.toArray.size).all fun j=>eqV (xs.getD j .non) (ys.getD j .non):=by
   unfold eqVs
   rw [hl,beq_self_eq_true,Bool.true_and,List.size_toArray,← l1,hl]
  rw [e]
  have hz:its.toArray.size=jts.toArray.size:=by simp;omega
  have he:∀ j (h1:j < its.toArray.size) (h2:j < jts.toArray.size),SeqAt.EqAt A.in1 s its.toArray[j] jts.toArray[j] (eqV (xs.getD j .non) (ys.getD j .non)):=fun j h1 h2=>
   N4 (oR r h1) (oR r' h2) (EF fx j) (EF fy j)
  exact ⟨SeqAt.RcAt.lists pl.isList pl'.isList hz hu he,SeqAt.RcNeAt.lists pl.isList pl'.isList hz hu he⟩
 ·have e:eqVs xs ys=false:=by
   unfold eqVs
   rw [beq_eq_false_iff_ne.mpr hl,Bool.false_and]
  rw [e]
  have hz:(its.toArray.size != jts.toArray.size)=true:=by simp;omega
  exact ⟨SeqAt.RcAt.lists_lengths pl.isList pl'.isList hz hu,SeqAt.RcNeAt.lists_lengths pl.isList pl'.isList hz hu⟩
theorem Rp (hu:X.A.units < cLine):OpR X (compareOp .Eq) (rEqL X.K false):=by
 intro pins s σ H x y v u Q I rx ry h
 obtain ⟨a,b,xs,ys,rfl,rfl,ha,hb,fx,fy,q⟩:=h
 cases rx;cases ry
 exact (Ml hu I ha hb fx fy).1 X.prog X.w X.xe _ ⟨.bl _,H,I,rfl,q⟩
end
theorem KS {xs:List V} (f:xs.all jK=true):eqVs xs xs=true:=by
 unfold eqVs
 rw [beq_self_eq_true,Bool.true_and,List.all_eq_true]
 intro j _
 have:=EF f j
 generalize xs.getD j .non=x at this
 cases x<;>first | rfl | exact beq_self_eq_true _ | cases this
theorem bR (a b:Nat):Builtin.bitAnd (a:Int) (b:Int)=((a&&&b:Nat):Int):=by
 unfold Builtin.bitAnd
 rw [decide_eq_true (Int.natCast_nonneg a),decide_eq_true (Int.natCast_nonneg b)]
 simp
section
variable {X:Cx} {K:PySem.W.Frag}
theorem gT (h:X.K=K):IxR X (rIxL K):=by subst h;exact Px
theorem aw (h:X.K=K):IxR X (rIxT K):=by subst h;exact RJ
theorem Pc (h:X.K=K) (hu:X.A.units < cLine):OpR X (compareOp .Eq) (rEqL K false):=by subst h;exact Rp hu
theorem c4 (h:X.K=K):mi X (.builtin "isinstance") (rIsi K):=by subst h;exact Ng
noncomputable def rLen (K:PySem.W.Frag):List V→Hp→VK→Prop:=fun xs H Q=>∃ x n,xs=[x]∧LenV K x H n∧Q (.int n) H
theorem aK (h:X.K=K):mi X (.builtin "len") (rLen K):=by subst h;exact Nf
noncomputable def JG (K:PySem.W.Frag):List V→Hp→VK→Prop:=fun xs H Q=>∃ p ys,xs=[.ref p]∧(SqL K H p ys∨SqT K H p ys)∧∀ l,H l=none→Q (.ref l) (upd H l (.lst ys))
theorem jA (h:X.K=K):mi X (.type "list") (JG K):=by subst h;exact Cq
noncomputable def NH (K:PySem.W.Frag):List V→Hp→VK→Prop:=fun xs H Q=>∃ p ys,xs=[.ref p]∧((SqL K H p ys∧∀ l,H l=none→Q (.ref l) (upd H l (.tup ys)))∨(SqT K H p ys∧Q (.ref p) H))
theorem nk (h:X.K=K):mi X (.type "tuple") (NH K):=by subst h;exact zY
theorem bJ {tg l:Expr} {tl:TE} (h:X.K=K) (hl:PE X l tl):PI X tg l (RL K tl):=by subst h;exact O8 hl
theorem kI {o:Expr} {to:TE} {name:Str} {apos cpos:Pos} {T id:String} {r:V→List V→Hp→VK→Prop} (h:X.K=K) (pa:PlainAttrs T) (slot:Slot T name id) (hty:typeOf (.builtin id)=pure (.type "method_descriptor")) (hm:MtR X id r) (ho:PE X o to)
  (hbase:attributeBase o name X.env (eval o X.env)=eval o X.env:=by rfl) (hline:(apos.endLine == cpos.line)=true:=by rfl):PE X (.Call (.Attribute o name apos) [] [] cpos) (tBM0 K T r to):=by subst h;exact Rj pa slot hty hm ho hbase hline
theorem qU {o e:Expr} {es:List Expr} {to:TE} {t:TA} {name:Str} {apos cpos:Pos} {T id:String} {r:V→List V→Hp→VK→Prop} (h:X.K=K) (pa:PlainAttrs T) (slot:Slot T name id) (hty:typeOf (.builtin id)=pure (.type "method_descriptor")) (hm:MtR X id r) (ho:PE X o to) (ha:PA X (e::es) t)
  (hbase:attributeBase o name X.env (eval o X.env)=eval o X.env:=by rfl)
  (hfew:((backTo cpos (starEach (e::es) X.env)).all (fun x=> !x.1)&&(backToKw cpos (keywordEach [] X.env)).all (fun x=>x.1.isSome)
   &&decide ((e::es).length + ([]:List Keyword).length + (if ([]:List Keyword).isEmpty then 0 else 1) < 30))=true:=by rfl)
  (hline:(apos.endLine == cpos.line)=true:=by rfl) (hs:starEach (e::es) X.env=(false,eval e X.env)::starEach es X.env:=by rfl) (hplain:(backTo cpos (starEach es X.env)).any (·.1)=false:=by rfl):
  PE X (.Call (.Attribute o name apos) (e::es) [] cpos) (tBM K T r to t):=by subst h;exact SY pa slot hty hm ho ha hbase hfew hline hs hplain
end
noncomputable def Q8 (K:PySem.W.Frag):List V→Hp→VK→Prop:=fun xs H Q=>∃ (a:Addr) (bs:List Bool),xs=[.ref a]∧SqL K H a (bs.map V.bl)∧Q (.bl (bs.all id)) H
section
variable {X:Cx} {K:PySem.W.Frag}
theorem P3 {bs:List Bool} {its:List Value} (rv:Vals (bs.map V.bl) its) {i:Nat} {v:Value} (h:its.toArray[i]? =some v):v= .bool (bs.getD i false):=by
 have h':its[i]? =some v:=by simpa using h
 have hi:i < its.length:=(List.getElem?_eq_some_iff.mp h').1
 have hl:=rv.length
 rw [List.length_map] at hl
 obtain ⟨u,e,r⟩:=rv.get (i:=i) (x:= .bl (bs.getD i false)) (by rw [List.getElem?_map,List.getElem?_eq_getElem (by omega),List.getD_eq_getElem?_getD,List.getElem?_eq_getElem (by omega)];rfl)
 rw [h'] at e
 cases e
 exact r
theorem R8 (bs:List Bool):(List.range bs.length).all (fun i=>bs.getD i false)=bs.all id:=by
 rw [Bool.eq_iff_iff,List.all_eq_true,List.all_eq_true]
 constructor
 ·intro h x hx
  obtain ⟨i,hi,e⟩:=List.mem_iff_getElem.mp hx
  have:=h i (List.mem_range.mpr hi)
  rw [List.getD_eq_getElem?_getD,List.getElem?_eq_getElem hi,e] at this
  exact this
 ·intro h i hi
  have hi:=List.mem_range.mp hi
  rw [List.getD_eq_getElem?_getD,List.getElem?_eq_getElem hi]
  exact h _ (List.getElem_mem hi)
theorem Ct (h:X.K=K) (hc:X.calm=true):mi X (.builtin "all") (Q8 K):=by
 subst h
 intro pins s σ H xs us Q I r h
 obtain ⟨a,bs,rfl,hq,q⟩:=h
 obtain ⟨u,rfl,ru⟩:=IW r
 cases ru
 obtain ⟨its,rv,pl,hz⟩:=I.list hq
 have lt:a < s.heap.objs.size:=let ⟨o,e,_⟩:=pl.isList;Heap.lt_size e
 have hl:its.toArray.size=bs.length:=by have:=rv.length;rw [List.length_map] at this;simp [this]
 refine call_all_walk (wpAny_pyIter_list pl.isList ⟨s.heap.objs.size,_,_,its.toArray.size,_,_,fun i=>bs.getD i false,rfl,Walks.list (A:=X.A.in1) (I.ok.hd hc) s.heap.objs.size a (Nat.ne_of_lt lt) its.toArray,⟨⟨_,Heap.get?_push_size _ rfl,rfl,rfl⟩,let ⟨o,e,c⟩:=pl.isList;⟨o,Heap.get?_push_of_some _ e,c⟩⟩,fun i v s Q E hv hQ=>by rw [P3 rv hv];exact wpAny_truthy_bool hQ,fun h' tk kk=>?_⟩)
 rw [hl,R8]
 exact ⟨.bl _,H,I.kept (fun b o e=>kk b o (fun hm=>by have:=Heap.lt_size e;rw [List.mem_singleton.mp hm] at this;exact absurd this (Nat.lt_irrefl _)) (Heap.get?_push_of_some _ e)),rfl,q⟩
end
inductive Dt where
 | non | bl (b:Bool) | int (i:Int) | str (x:Str) | lst (xs:List Dt) | tup (xs:List Dt)
inductive Rep (K:PySem.W.Frag) (H:Hp):V→Dt→Prop where
 | non:Rep K H .non .non
 | bl (b:Bool):Rep K H (.bl b) (.bl b)
 | int (i:Int):Rep K H (.int i) (.int i)
 | str (x:Str):Rep K H (.str x) (.str x)
 | lst {p:Addr} {xs:List V} {ds:List Dt} (h:SqL K H p xs) (l:xs.length=ds.length) (r:∀ (i:Nat) x d,xs[i]? =some x→ds[i]? =some d→Rep K H x d):Rep K H (.ref p) (.lst ds)
 | tup {p:Addr} {xs:List V} {ds:List Dt} (h:SqT K H p xs) (l:xs.length=ds.length) (r:∀ (i:Nat) x d,xs[i]? =some x→ds[i]? =some d→Rep K H x d):Rep K H (.ref p) (.tup ds)
theorem Same.tup {K:PySem.W.Frag} {H H':Hp} {a:Addr} {xs:List V} (e:Same H H') (h:SqT K H a xs):SqT K H' a xs:=by
 rcases h with (h | ⟨o,h⟩) | h
 ·exact .inl (.inl (e _ _ h))
 ·exact .inl (.inr ⟨o,e _ _ h⟩)
 ·exact .inr h
theorem Rep.same {K:PySem.W.Frag} {H H':Hp} (e:Same H H') {x:V} {d:Dt} (r:Rep K H x d):Rep K H' x d:=by
 induction r with
 | non=>exact .non
 | bl b=>exact .bl b
 | int i=>exact .int i
 | str x=>exact .str x
 | lst h l r ih=>exact .lst (e.seq h) l ih
 | tup h l r ih=>exact .tup (e.tup h) l ih
mutual
noncomputable def eqD:Dt→Dt→Bool
 | .non,.non=>true
 | .bl a,.bl b=>a == b
 | .bl a,.int b=>(if a then 1 else 0) == b
 | .int a,.bl b=>a == (if b then 1 else 0)
 | .int a,.int b=>a == b
 | .str a,.str b=>a == b
 | .lst xs,.lst ys=>eqDs xs ys
 | .tup xs,.tup ys=>eqDs xs ys
 | _,_=>false
noncomputable def eqDs:List Dt→List Dt→Bool
 | [],[]=>true
 | x::xs,y::ys=>eqD x y&&eqDs xs ys
 | _,_=>false
end
mutual
noncomputable def depD:Dt→Nat
 | .lst xs=>jM xs + 1
 | .tup xs=>jM xs + 1
 | _=>0
noncomputable def jM:List Dt→Nat
 | []=>0
 | x::xs=>max (depD x) (jM xs)
end
theorem KW {ds:List Dt} {d:Dt} (h:d∈ds):depD d≤jM ds:=by
 induction ds with
 | nil=>cases h
 | cons x xs ih=>
   rw [jM]
   rcases List.mem_cons.mp h with rfl | h
   ·omega
   ·have:=ih h;omega
theorem zK:∀ {xs ys:List Dt},xs.length≠ys.length→eqDs xs ys=false
 | [],[],h=>absurd rfl h
 | [],_::_,_=>rfl
 | _::_,[],_=>rfl
 | x::xs,y::ys,h=>by rw [eqDs,zK (fun z=>h (by simp [z])),Bool.and_false]
theorem zL:∀ {xs ys:List Dt},xs.length=ys.length→eqDs xs ys=(List.range xs.length).all fun i=>eqD (xs.getD i .non) (ys.getD i .non)
 | [],[],_=>rfl
 | [],_::_,h=>by cases h
 | _::_,[],h=>by cases h
 | x::xs,y::ys,h=>by
   rw [eqDs,zL (by simpa using h),List.length_cons,List.range_succ_eq_map,List.all_cons,List.all_map]
   rfl
theorem iE:∀ d:Dt,eqD d d=true:=by
 intro d
 refine Dt.rec (motive_1:=fun d=>eqD d d=true) (motive_2:=fun ds=>eqDs ds ds=true) ?_ ?_ ?_ ?_ ?_ ?_ ?_ ?_ d
 ·rfl
 ·intro b;simp [eqD]
 ·intro b;simp [eqD]
 ·intro b;simp [eqD]
 ·intro xs h;rw [eqD];exact h
 ·intro xs h;rw [eqD];exact h
 ·rfl
 ·intro x xs h1 h2;rw [eqDs,h1,h2];rfl
theorem N3:∀ {d e:Dt},d=e→eqD d e=true:=fun h=>by subst h;exact iE _
section
variable {X:Cx} {pins:List (Addr×Obj)} {σ:St} {H:Hp} {s:Shared}
theorem Inv.notBoth (I:Inv X pins σ H s) {p:Addr} {xs ys:List V} (h1:SqL X.K H p xs) (h2:SqT X.K H p ys):False:=by
 obtain ⟨_,_,pl,_⟩:=I.list h1
 obtain ⟨_,_,⟨o,ho,hc,_⟩,_⟩:=I.tuple h2
 obtain ⟨o',n,ho',hc',_⟩:=pl
 rw [ho] at ho';cases ho'
 rw [hc] at hc'
 exact absurd hc' (by decide)
theorem Rep.fun (I:Inv X pins σ H s) {x:V} {d:Dt} (r:Rep X.K H x d):∀ {e:Dt},Rep X.K H x e→d=e:=by
 induction r with
 | non=>intro e q;cases q;rfl
 | bl b=>intro e q;cases q;rfl
 | int i=>intro e q;cases q;rfl
 | str z=>intro e q;cases q;rfl
 | lst h l r ih=>
   intro e q
   cases q with
   | lst h' l' r'=>
     have ex:=I.list_inj h h'
     subst ex
     congr 1
     refine List.ext_getElem? fun i=>?_
     rename_i xs ds ds'
     by_cases hi:i < ds.length
     ·rw [List.getElem?_eq_getElem hi,List.getElem?_eq_getElem (by omega)]
      have hx:i < xs.length:=by omega
      rw [ih i _ _ (List.getElem?_eq_getElem hx) (List.getElem?_eq_getElem hi) (r' i _ _ (List.getElem?_eq_getElem hx) (List.getElem?_eq_getElem (by omega)))]
     ·rw [List.getElem?_eq_none (by omega),List.getElem?_eq_none (by omega)]
   | tup h' l' r'=>exact (I.notBoth h h').elim
 | tup h l r ih=>
   intro e q
   cases q with
   | tup h' l' r'=>
     have ex:=I.tuple_inj h h'
     subst ex
     congr 1
     refine List.ext_getElem? fun i=>?_
     rename_i xs ds ds'
     by_cases hi:i < ds.length
     ·rw [List.getElem?_eq_getElem hi,List.getElem?_eq_getElem (by omega)]
      have hx:i < xs.length:=by omega
      rw [ih i _ _ (List.getElem?_eq_getElem hx) (List.getElem?_eq_getElem hi) (r' i _ _ (List.getElem?_eq_getElem hx) (List.getElem?_eq_getElem (by omega)))]
     ·rw [List.getElem?_eq_none (by omega),List.getElem?_eq_none (by omega)]
   | lst h' l' r'=>exact (I.notBoth h' h).elim
open SeqAt in
theorem rc_D (I:Inv X pins σ H s) {x:V} {d:Dt} (r:Rep X.K H x d):∀ {A:Around} {e:Dt} {y:V} {u v:Value} (n:Nat),Rep X.K H y e→RelV x u→RelV y v→depD d≤n→A.units + n < cLine→
  EqAt A s u v (eqD d e)∧RcAt A s u v (eqD d e)∧RcNeAt A s u v (!eqD d e):=by
 induction r with
 | non=>
   intro A e y u v n q ru rv hd hu
   cases ru
   cases q with
   | non=>cases rv;exact ⟨EqAt.same _,RcAt.none_none,RcNeAt.none_none⟩
   | bl b=>cases rv;exact ⟨EqAt.none_bool b,RcAt.none_bool b,RcNeAt.none_bool b⟩
   | int b=>obtain ⟨t,rfl⟩:=rv;exact ⟨EqAt.none_int b t,RcAt.none_int b t,RcNeAt.none_int b t⟩
   | str b=>obtain ⟨t,rfl⟩:=rv;exact ⟨EqAt.none_str b t,RcAt.none_str b t,RcNeAt.none_str b t⟩
   | lst h l r=>cases rv;obtain ⟨_,_,pl,_⟩:=I.list h;exact ⟨EqAt.none_list pl.isList (by omega),RcAt.none_list pl.isList (by omega),RcNeAt.none_list pl.isList (by omega)⟩
   | tup h l r=>cases rv;obtain ⟨_,_,pl,_⟩:=I.tuple h;exact ⟨EqAt.none_tuple pl (by omega),RcAt.none_tuple pl (by omega),RcNeAt.none_tuple pl (by omega)⟩
 | bl a=>
   intro A e y u v n q ru rv hd hu
   cases ru
   cases q with
   | non=>cases rv;exact ⟨EqAt.bool_none a,RcAt.bool_none a,RcNeAt.bool_none a⟩
   | bl b=>cases rv;exact ⟨EqAt.bool_bool a b,RcAt.bool_bool a b,RcNeAt.bool_bool a b⟩
   | int b=>obtain ⟨t,rfl⟩:=rv;exact ⟨EqAt.bool_int a b t,RcAt.bool_int a b t,RcNeAt.bool_int a b t⟩
   | str b=>obtain ⟨t,rfl⟩:=rv;exact ⟨EqAt.bool_str a b t,RcAt.bool_str a b t,RcNeAt.bool_str a b t⟩
   | lst h l r=>cases rv;obtain ⟨_,_,pl,_⟩:=I.list h;exact ⟨EqAt.bool_list a pl.isList (by omega),RcAt.bool_list a pl.isList (by omega),RcNeAt.bool_list a pl.isList (by omega)⟩
   | tup h l r=>cases rv;obtain ⟨_,_,pl,_⟩:=I.tuple h;exact ⟨EqAt.bool_tuple a pl (by omega),RcAt.bool_tuple a pl (by omega),RcNeAt.bool_tuple a pl (by omega)⟩
 | int a=>
   intro A e y u v n q ru rv hd hu
   obtain ⟨t',rfl⟩:=ru
   cases q with
   | non=>cases rv;exact ⟨EqAt.int_none a t',RcAt.int_none a t',RcNeAt.int_none a t'⟩
   | bl b=>cases rv;exact ⟨EqAt.int_bool a t' b,RcAt.int_bool a t' b,RcNeAt.int_bool a t' b⟩
   | int b=>obtain ⟨t,rfl⟩:=rv;exact ⟨EqAt.int_int a t' b t,RcAt.int_int a t' b t,RcNeAt.int_int a t' b t⟩
   | str b=>obtain ⟨t,rfl⟩:=rv;exact ⟨EqAt.int_str a t' b t,RcAt.int_str a t' b t,RcNeAt.int_str a t' b t⟩
   | lst h l r=>cases rv;obtain ⟨_,_,pl,_⟩:=I.list h;exact ⟨EqAt.int_list a t' pl.isList (by omega),RcAt.int_list a t' pl.isList (by omega),RcNeAt.int_list a t' pl.isList (by omega)⟩
   | tup h l r=>cases rv;obtain ⟨_,_,pl,_⟩:=I.tuple h;exact ⟨EqAt.int_tuple a t' pl (by omega),RcAt.int_tuple a t' pl (by omega),RcNeAt.int_tuple a t' pl (by omega)⟩
 | str a=>
   intro A e y u v n q ru rv hd hu
   obtain ⟨t',rfl⟩:=ru
   cases q with
   | non=>cases rv;exact ⟨EqAt.str_none a t',RcAt.str_none a t',RcNeAt.str_none a t'⟩
   | bl b=>cases rv;exact ⟨EqAt.str_bool a t' b,RcAt.str_bool a t' b,RcNeAt.str_bool a t' b⟩
   | int b=>obtain ⟨t,rfl⟩:=rv;exact ⟨EqAt.str_int a t' b t,RcAt.str_int a t' b t,RcNeAt.str_int a t' b t⟩
   | str b=>obtain ⟨t,rfl⟩:=rv;exact ⟨EqAt.str_str a t' b t,RcAt.str_str a t' b t,RcNeAt.str_str a t' b t⟩
   | lst h l r=>cases rv;obtain ⟨_,_,pl,_⟩:=I.list h;exact ⟨EqAt.str_list a t' pl.isList (by omega),RcAt.str_list a t' pl.isList (by omega),RcNeAt.str_list a t' pl.isList (by omega)⟩
   | tup h l r=>cases rv;obtain ⟨_,_,pl,_⟩:=I.tuple h;exact ⟨EqAt.str_tuple a t' pl (by omega),RcAt.str_tuple a t' pl (by omega),RcNeAt.str_tuple a t' pl (by omega)⟩
 | @lst p xs ds h l r ih=>
   intro A e y u v n q ru rv hd hu
   cases ru
   obtain ⟨its,rw1,pl,_⟩:=I.list h
   rw [depD] at hd
   cases q with
   | non=>cases rv;exact ⟨EqAt.list_none pl.isList (by omega),RcAt.list_none pl.isList (by omega),RcNeAt.list_none pl.isList (by omega)⟩
   | bl b=>cases rv;exact ⟨EqAt.list_bool b pl.isList (by omega),RcAt.list_bool b pl.isList (by omega),RcNeAt.list_bool b pl.isList (by omega)⟩
   | int b=>obtain ⟨t,rfl⟩:=rv;exact ⟨EqAt.list_int b t pl.isList (by omega),RcAt.list_int b t pl.isList (by omega),RcNeAt.list_int b t pl.isList (by omega)⟩
   | str b=>obtain ⟨t,rfl⟩:=rv;exact ⟨EqAt.list_str b t pl.isList (by omega),RcAt.list_str b t pl.isList (by omega),RcNeAt.list_str b t pl.isList (by omega)⟩
   | tup h' l' r'=>
     cases rv;obtain ⟨_,_,pl',_⟩:=I.tuple h'
     exact ⟨EqAt.list_tuple pl.isList pl' (by omega),RcAt.list_tuple pl.isList pl' (by omega),RcNeAt.list_tuple pl.isList pl' (by omega)⟩
   | @lst p' xs' ds' h' l' r'=>
     cases rv
     obtain ⟨its',rw2,pl',_⟩:=I.list h'
     have n1:=rw1.length
     have n2:=rw2.length
     have core:RcAt A s (.ref p) (.ref p') (eqDs ds ds')∧RcNeAt A s (.ref p) (.ref p') (!eqDs ds ds'):=by
      by_cases hl:ds.length=ds'.length
      ·have e:eqDs ds ds'=(List.range its.toArray.size).all fun i=>eqD (ds.getD i .non) (ds'.getD i .non):=by
        rw [zL hl,List.size_toArray,← n1,l]
       rw [e]
       have hz:its.toArray.size=its'.toArray.size:=by simp;omega
       have he:∀ j (h1:j < its.toArray.size) (h2:j < its'.toArray.size),EqAt A.in1 s its.toArray[j] its'.toArray[j] (eqD (ds.getD j .non) (ds'.getD j .non)):=fun j h1 h2=>by
        have h1':j < its.length:=by simpa using h1
        have h2':j < its'.length:=by simpa using h2
        have hx:j < xs.length:=by omega
        have hx':j < xs'.length:=by omega
        have hds:j < ds.length:=by omega
        have hds':j < ds'.length:=by omega
        have g1:xs[j]? =some (xs.getD j .non):=by rw [List.getD_eq_getElem?_getD,List.getElem?_eq_getElem hx];rfl
        have g2:ds[j]? =some (ds.getD j .non):=by rw [List.getD_eq_getElem?_getD,List.getElem?_eq_getElem hds];rfl
        have g3:xs'[j]? =some (xs'.getD j .non):=by rw [List.getD_eq_getElem?_getD,List.getElem?_eq_getElem hx'];rfl
        have g4:ds'[j]? =some (ds'.getD j .non):=by rw [List.getD_eq_getElem?_getD,List.getElem?_eq_getElem hds'];rfl
        have hn:n≠0:=by omega
        exact (ih j _ _ g1 g2 (n - 1) (r' j _ _ g3 g4) (oR rw1 h1) (oR rw2 h2) (by have:=KW (List.mem_of_getElem? g2);omega) (by show A.units + 1 + (n - 1) < cLine;omega)).1
       exact ⟨RcAt.lists pl.isList pl'.isList hz (by omega) he,RcNeAt.lists pl.isList pl'.isList hz (by omega) he⟩
      ·rw [zK hl]
       have hz:(its.toArray.size != its'.toArray.size)=true:=by simp;omega
       exact ⟨RcAt.lists_lengths pl.isList pl'.isList hz (by omega),RcNeAt.lists_lengths pl.isList pl'.isList hz (by omega)⟩
     rw [eqD]
     refine ⟨?_,core⟩
     by_cases hp:p=p'
     ·subst hp
      have e:Dt.lst ds=Dt.lst ds':=(Rep.lst h l r).fun I (.lst h' l' r')
      have e2:eqDs ds ds'=true:=by have:=N3 e;rw [eqD] at this;exact this
      rw [e2]
      exact EqAt.same _
     ·exact EqAt.of_refs hp core.1
 | @tup p xs ds h l r ih=>
   intro A e y u v n q ru rv hd hu
   cases ru
   obtain ⟨its,rw1,pl,_⟩:=I.tuple h
   rw [depD] at hd
   cases q with
   | non=>cases rv;exact ⟨EqAt.tuple_none pl (by omega),RcAt.tuple_none pl (by omega),RcNeAt.tuple_none pl (by omega)⟩
   | bl b=>cases rv;exact ⟨EqAt.tuple_bool b pl (by omega),RcAt.tuple_bool b pl (by omega),RcNeAt.tuple_bool b pl (by omega)⟩
   | int b=>obtain ⟨t,rfl⟩:=rv;exact ⟨EqAt.tuple_int b t pl (by omega),RcAt.tuple_int b t pl (by omega),RcNeAt.tuple_int b t pl (by omega)⟩
   | str b=>obtain ⟨t,rfl⟩:=rv;exact ⟨EqAt.tuple_str b t pl (by omega),RcAt.tuple_str b t pl (by omega),RcNeAt.tuple_str b t pl (by omega)⟩
   | lst h' l' r'=>
     cases rv;obtain ⟨_,_,pl',_⟩:=I.list h'
     exact ⟨EqAt.tuple_list pl pl'.isList (by omega),RcAt.tuple_list pl pl'.isList (by omega),RcNeAt.tuple_list pl pl'.isList (by omega)⟩
   | @tup p' xs' ds' h' l' r'=>
     cases rv
     obtain ⟨its',rw2,pl',_⟩:=I.tuple h'
     have n1:=rw1.length
     have n2:=rw2.length
     have core:RcAt A s (.ref p) (.ref p') (eqDs ds ds')∧RcNeAt A s (.ref p) (.ref p') (!eqDs ds ds'):=by
      have e:eqDs ds ds'=((List.range (min its.toArray.size its'.toArray.size)).all (fun i=>eqD (ds.getD i .non) (ds'.getD i .non))&&its.toArray.size == its'.toArray.size):=by
       by_cases hl:ds.length=ds'.length
       ·have z1:its.toArray.size=ds.length:=by simp;omega
        have z2:its'.toArray.size=ds.length:=by simp;omega
        rw [zL hl,z1,z2,Nat.min_self,beq_self_eq_true,Bool.and_true]
       ·have z:(its.toArray.size == its'.toArray.size)=false:=by rw [beq_eq_false_iff_ne];simp;omega
        rw [zK hl,z,Bool.and_false]
      rw [e]
      have he:∀ j (h1:j < its.toArray.size) (h2:j < its'.toArray.size),EqAt A.in1 s its.toArray[j] its'.toArray[j] (eqD (ds.getD j .non) (ds'.getD j .non)):=fun j h1 h2=>by
       have h1':j < its.length:=by simpa using h1
       have h2':j < its'.length:=by simpa using h2
       have hx:j < xs.length:=by omega
       have hx':j < xs'.length:=by omega
       have hds:j < ds.length:=by omega
       have hds':j < ds'.length:=by omega
       have g1:xs[j]? =some (xs.getD j .non):=by rw [List.getD_eq_getElem?_getD,List.getElem?_eq_getElem hx];rfl
       have g2:ds[j]? =some (ds.getD j .non):=by rw [List.getD_eq_getElem?_getD,List.getElem?_eq_getElem hds];rfl
       have g3:xs'[j]? =some (xs'.getD j .non):=by rw [List.getD_eq_getElem?_getD,List.getElem?_eq_getElem hx'];rfl
       have g4:ds'[j]? =some (ds'.getD j .non):=by rw [List.getD_eq_getElem?_getD,List.getElem?_eq_getElem hds'];rfl
       have hn:n≠0:=by omega
       exact (ih j _ _ g1 g2 (n - 1) (r' j _ _ g3 g4) (oR rw1 h1) (oR rw2 h2) (by have:=KW (List.mem_of_getElem? g2);omega) (by show A.units + 1 + (n - 1) < cLine;omega)).1
      exact ⟨RcAt.tuples pl pl' (by omega) he,RcNeAt.tuples pl pl' (by omega) he⟩
     rw [eqD]
     refine ⟨?_,core⟩
     by_cases hp:p=p'
     ·subst hp
      have e:Dt.tup ds=Dt.tup ds':=(Rep.tup h l r).fun I (.tup h' l' r')
      have e2:eqDs ds ds'=true:=by have:=N3 e;rw [eqD] at this;exact this
      rw [e2]
      exact EqAt.same _
     ·exact EqAt.of_refs hp core.1
end
noncomputable def rEqD (K:PySem.W.Frag) (neg:Bool):R2:=fun x y H Q=>∃ d e,Rep K H x d∧Rep K H y e∧depD d≤100∧Q (.bl (if neg then !eqD d e else eqD d e)) H
section
variable {X:Cx} {K:PySem.W.Frag}
theorem DQ (h:X.K=K) (hu:X.A.units + 100 < cLine):OpR X (compareOp .Eq) (rEqD K false):=by
 subst h
 intro pins s σ H x y v u Q I rx ry h
 obtain ⟨d,e,r1,r2,hd,q⟩:=h
 exact (rc_D I r1 100 r2 rx ry hd hu).2.1 X.prog X.w X.xe _ ⟨.bl _,H,I,rfl,q⟩
theorem mP (h:X.K=K) (hu:X.A.units + 100 < cLine):OpR X (compareOp .NotEq) (rEqD K true):=by
 subst h
 intro pins s σ H x y v u Q I rx ry h
 obtain ⟨d,e,r1,r2,hd,q⟩:=h
 exact (rc_D I r1 100 r2 rx ry hd hu).2.2 X.prog X.w X.xe _ ⟨.bl _,H,I,rfl,q⟩
end
inductive Ir:St→Nat→Option V→St→Prop where
 | z {a v:Option V} {l:St}:Ir (a::l) 0 v (v::l)
 | s {a v:Option V} {l l':St} {i:Nat}:Ir l i v l'→Ir (a::l) (i + 1) v (a::l')
theorem Ir.eq {l l':St} {i:Nat} {v:Option V} (h:Ir l i v l'):l.set i v=l':=by
 induction h with
 | z=>rfl
 | s _ ih=>rw [List.set_cons_succ,ih]
inductive Iu:St→Nat→V→Prop where
 | z {v:V} {l:St}:Iu (some v::l) 0 v
 | s {a:Option V} {v:V} {l:St} {i:Nat}:Iu l i v→Iu (a::l) (i + 1) v
theorem Iu.eq {l:St} {i:Nat} {v:V} (h:Iu l i v):l[i]? =some (some v):=by
 induction h with
 | z=>rfl
 | s _ ih=>rw [List.getElem?_cons_succ];exact ih
section
variable {σ σ':St} {H:Hp} {Q:VK} {D:Ends} {ta tb tc te:TE} {t u:TS} {tt tt':TT} {r r':R2} {x y v:V}
theorem aE {N:List Str} {vs:List V} {t:TS} (e:rJ N vs=σ') (h:t D σ' H):t D (rJ N vs) H:=by rw [e];exact h
theorem SG {i:Nat} (e:Iu σ i v) (h:Q v H):tVar i σ H Q:=⟨v,e.eq,h⟩
theorem s_op (h:ta σ H fun x H1=>tb σ H1 fun y H2=>r x y H2 Q):tOp r ta tb σ H Q:=h
theorem s_rI {C:Int→Int→Prop} {g:Int→Int→V} {i j:Int} (c:C i j) (h:Q (g i j) H):rI C g (.int i) (.int j) H Q:=⟨i,j,rfl,rfl,c,h⟩
theorem SN {g:Int→Int→V} {i j:Int} (h:Q (g i j) H):rI0 g (.int i) (.int j) H Q:=⟨i,j,rfl,rfl,h⟩
theorem s_rU {g:Int→V} {i:Int} (h:Q (g i) H):rU g (.int i) H Q:=⟨i,rfl,h⟩
theorem SO (e:scal x y=true) (h:Q (.bl (decide (x=y))) H):rEq x y H Q:=⟨e,h⟩
theorem SM (e:scal x y=true) (h:Q (.bl (!decide (x=y))) H):rNe x y H Q:=⟨e,h⟩
theorem QD {Q:Bool→Hp→Prop} (h:te σ H fun x H'=>∃ k,x= .bl k∧Q k H'):Qm te σ H Q:=h
theorem QG (h:D.nx σ H):Qn D σ H:=h
theorem SL (h:t {D with nx:=u D} σ H):tSeq t u D σ H:=h
theorem OO {i:Nat} {Q:St→Hp→Prop} (e:Ir σ i (some v) σ') (h:Q σ' H):KM i v σ H Q:=by show Q (σ.set i (some v)) H;rw [e.eq];exact h
theorem QQ {Q:St→Hp→Prop} (h:Q σ H):gNil [] σ H Q:=⟨rfl,h⟩
theorem OP {g:TG} {gs:TGs} {vs:List V} {Q:St→Hp→Prop} (h:g v σ H fun σ' H'=>gs vs σ' H' Q):PF g gs (v::vs) σ H Q:=⟨v,vs,rfl,h⟩
theorem QO {K:PySem.W.Frag} {n:Nat} {gs:TGs} {p:Addr} {xs:List V} {Q:St→Hp→Prop} (e:SqT K H p xs) (l:xs.length=n) (h:gs xs σ H Q):gTup K n gs (.ref p) σ H Q:=⟨p,xs,rfl,e,l,h⟩
noncomputable def NewT (Q:VK) (xs:List V) (H:Hp):Prop:=xs.length≤sizeLine∧∀ p,H p=none→Q (.ref p) (upd H p (.tup xs))
noncomputable def NewL (Q:VK) (xs:List V) (H:Hp):Prop:=xs.length≤sizeLine∧∀ p,H p=none→Q (.ref p) (upd H p (.lst xs))
theorem SH {tr:TA} (h:tr σ H (NewT Q)):tTup tr σ H Q:=h
theorem SR {tr:TA} (h:tr σ H (NewL Q)):tLst tr σ H Q:=h
theorem fQ {H:Hp} {D:Addr} {o:HO} (h:H D=none):Same H (upd H D o):=fun b u e=>by rw [aV (av e h)];exact e
theorem mJ {o:HO} (h:∀ p H2,H p=none→Same H H2→H2 p=some o→Q (.ref p) H2):∀ p,H p=none→Q (.ref p) (upd H p o):=fun p hp=>h p _ hp (fQ hp) bo
theorem Same.get {H H':Hp} (e:Same H H') {b:Addr} {o:HO} (h:H b=some o):H' b=some o:=e b o h
theorem QH {xs:List V} (l:xs.length≤sizeLine) (h:∀ p H2,H p=none→Same H H2→H2 p=some (.tup xs)→Q (.ref p) H2):NewT Q xs H:=⟨l,mJ h⟩
theorem QI {xs:List V} (l:xs.length≤sizeLine) (h:∀ p H2,H p=none→Same H H2→H2 p=some (.lst xs)→Q (.ref p) H2):NewL Q xs H:=⟨l,mJ h⟩
theorem OU {sp:Sp} {E:XK} {tr:TA} (h:tr σ H fun vs H1=>sp vs H1 Q E):Oq sp [] E tr σ H Q:=by unfold Oq;simp only [List.append_nil];exact h
theorem Mf {K:PySem.W.Frag} {p:Addr} {xs:List V} {i:Int} (e:SqL K H p xs) (a:atI xs i=some v) (h:Q v H):rIxL K (.ref p) (.int i) H Q:=⟨p,xs,i,v,rfl,rfl,e,a,h⟩
theorem SS {K:PySem.W.Frag} {p:Addr} {xs:List V} {i:Int} (e:SqT K H p xs) (a:atI xs i=some v) (h:Q v H):rIxT K (.ref p) (.int i) H Q:=⟨p,xs,i,v,rfl,rfl,e,a,h⟩
theorem Kh {n:Nat} (h:n≤1000):n≤sizeLine:=Nat.le_of_lt (i7 h)
theorem tR {K:PySem.W.Frag} {neg:Bool} {d e:Dt} (r1:Rep K H x d) (r2:Rep K H y e) (hd:depD d≤100) (h:Q (.bl (if neg then !eqD d e else eqD d e)) H):rEqD K neg x y H Q:=⟨d,e,r1,r2,hd,h⟩
theorem s_ty {K:PySem.W.Frag} {T:String} {A:Prop} (e:tyV K T x H) (h:A):tyV K T x H∧A:=⟨e,h⟩
theorem QY {i:Int} (h:Q (.int (Builtin.Int.intBits i:Nat)) H):Q7 (.int i) [] H Q:=⟨i,rfl,rfl,h⟩
theorem QN {K:PySem.W.Frag} {p:Addr} {xs:List V} (e:SqL K H p xs) (h:Q (.int xs.length) H):rLen K [.ref p] H Q:=⟨_,_,rfl,.inl ⟨xs,e,rfl⟩,h⟩
theorem QM {K:PySem.W.Frag} {p:Addr} {xs:List V} (e:SqT K H p xs) (h:Q (.int xs.length) H):rLen K [.ref p] H Q:=⟨_,_,rfl,.inr ⟨xs,e,rfl⟩,h⟩
theorem SU {K:PySem.W.Frag} {T k:String} (e:jl K H x k) (m:T∈["int","bool","str","list","tuple","dict"]) (h:Q (.bl (subB k T)) H):rIsi K [x,.ty T] H Q:=⟨x,k,T,rfl,e,m,h⟩
theorem QT (h:∀ p H2,H p=none→Same H H2→H2 p=some (.dK [])→Q (.ref p) H2):Nz σ H Q:=mJ h
theorem SV {wi:TI} {g:TG} {tb:TS} (h:wi σ H fun J H1=>∃ W:Nat→Nat→St→Hp→Prop,(∃ m,W 0 m σ H1)∧∀ i m σ H,W i m σ H→(J.stop i H∧D.nx σ H)∨(J.go i H∧∃ N:St→Hp→Prop,(∀ σ' H',N σ' H'→∃ m',m' < m∧W (i + 1) m' σ' H')∧∀ x H',J.yld i H x H'→g x σ H' fun σ2 H2=>tb {D with nx:=N,ct:=N,bk:=D.nx} σ2 H2)):tFor wi g tb D σ H:=h
theorem SF {Q:Bool→Hp→Prop} (h:Q true H):tYes σ H Q:=h
theorem QC {A B:Prop} (h:A):if true=true then A else B:=by rw [if_pos rfl];exact h
theorem OQ {A B:Prop} (h:B):if false=true then A else B:=by rw [if_neg Bool.false_ne_true];exact h
theorem Dz {c:Bool} {A B:Prop} (e:c=true) (h:A):if c=true then A else B:=by rw [if_pos e];exact h
theorem tQ {c:Bool} {A B:Prop} (e:c=false) (h:B):if c=true then A else B:=by rw [e,if_neg Bool.false_ne_true];exact h
theorem QX {n:Nat} {fx:List Nat} {wi:TI} {g:TG} (h:wi σ H fun J H1=>∀ D,H1 D=none→
 ∃ W:Nat→Nat→List V→Hp→Prop,(∃ m,W 0 m [] (upd H1 D (.lst [])))∧∀ i m ys H2,W i m ys H2→(J.stop i H2∧Q (.ref D) H2)∨
   (J.go i H2∧∃ N:List V→Hp→Prop,(∀ ys' H',N ys' H'→∃ m',m' < m∧W (i + 1) m' ys' H')∧∀ x H3,J.yld i H2 x H3→g x (eG n fx σ) H3 fun σ4 H4=>tt σ4 H4 fun b H5=>
    if b=true then te σ4 H5 fun v H6=>H6 D=some (.lst ys)∧ys.length < sizeLine∧N (ys++[v]) (upd H6 D (.lst (ys++[v]))) else N ys H5)):LQ n fx wi g tt te σ H Q:=h
theorem NG {K:PySem.W.Frag} {p:Addr} {bs:List Bool} (e:SqL K H p (bs.map V.bl)) (h:Q (.bl (bs.all id)) H):Q8 K [.ref p] H Q:=⟨p,bs,rfl,e,h⟩
theorem Mh {j:Int} {A:Prop} (h1: -(2 ^ 62)≤j) (h2:j < 2 ^ 62) (h:A): -(2 ^ 62)≤j∧j < 2 ^ 62∧A:=⟨h1,h2,h⟩
end
noncomputable def tCut (t u:TS):TS:=fun D σ H=>∃ P:St→Hp→Prop,t {D with nx:=P} σ H∧∀ σ' H',P σ' H'→u D σ' H'
theorem fL {X:Cx} {st:Stmt} {rest:List Stmt} {t u:TS} (h1:PS X st t) (h2:PSs X rest u):PSs X (st::rest) (tCut t u):=by
 intro pins s σ H D I ⟨P,a,b⟩
 refine wpAny_execs_cons (thn (h1 pins s σ H {D with nx:=P} I a) fun f s1 q=>?_)
 cases f with
 | next=>obtain ⟨σ1,H1,I1,q1⟩:=q;exact h2 pins s1 σ1 H1 D I1 (b σ1 H1 q1)
 | brk=>exact q
 | cont=>exact q
 | ret v=>exact q
theorem pf {t u:TS} {D:Ends} {σ:St} {H:Hp} (P:St→Hp→Prop) (h:t {D with nx:=P} σ H) (k:∀ σ' H',P σ' H'→u D σ' H'):tCut t u D σ H:=⟨P,h,k⟩
section
variable {K:PySem.W.Frag} {n:Nat} {fx:List Nat} {g:TG} {tc:TT} {te:TE} {σ:St} {H1:Hp} {D:Addr} {Q:Hp→Prop}
structure Cs (Pv:Nat→List V→Prop) (H1:Hp) (D:Addr) (i:Nat) (ys:List V) (H:Hp):Prop where
 pv:Pv i ys
 same:Same H1 H
 at':H D=some (.lst ys)
 len:ys.length≤i
theorem Cs.put {Pv:Nat→List V→Prop} {i:Nat} {ys:List V} {v:V} {H6:Hp} (f:H1 D=none) (s:Same H1 H6) (e:H6 D=some (.lst ys)) (l:ys.length≤i) (hi:i < 16777216) (p:Pv (i + 1) (ys++[v])):
  H6 D=some (.lst ys)∧ys.length < sizeLine∧Cs Pv H1 D (i + 1) (ys++[v]) (upd H6 D (.lst (ys++[v]))):=
 ⟨e,by rw [sizeLine_eq];omega,p,fun b o h=>by rw [aV (av h f)];exact s b o h,bo,by rw [List.length_append];simpa using l⟩
theorem Cs.skip {Pv:Nat→List V→Prop} {i:Nat} {ys:List V} {H6:Hp} (s:Same H1 H6) (e:H6 D=some (.lst ys)) (l:ys.length≤i) (p:Pv (i + 1) ys):Cs Pv H1 D (i + 1) ys H6:=⟨p,s,e,by omega⟩
theorem Cs.zero {Pv:Nat→List V→Prop} (f:H1 D=none) (p:Pv 0 []):Cs Pv H1 D 0 [] (upd H1 D (.lst [])):=⟨p,fQ f,bo,Nat.le_refl _⟩
end
structure Tg (K:PySem.W.Frag) (C:Addr) (m:Str) (f:Addr):Prop where
 ga:PySem.W.specialIn K (.ref C) "__getattribute__"=some (some (.builtin "type.__getattribute__"))
 rd:PySem.W.readsIn K C (.type "type")=true
 fd:PySem.W.findCls K (.ref C) (.type "type") m=some (.val (.ref f))
 hd:PySem.W.handedIn (.ref f)=true
 kp:PySem.W.keepIn K (.ref f)=true
structure Sh (K:PySem.W.Frag) (D:Addr):Prop where
 cls:Cls K D
 ha:PySem.W.findIn K (.ref D) "__class__"=some (some (.builtin "object.__class__"))
 hn:PySem.W.specialIn K (.builtin "object.__class__") "__get__"=some (some (.builtin "getset_descriptor.__get__"))
 tk:PySem.W.takesIn K (.builtin "object.__class__")=some true
 hm:PySem.W.mroIn K D (.type "object")=some true
theorem yc {K:PySem.W.Frag} {C D:Addr} {b:Bool} (h1:PySem.W.isClsIn K D=true) (h2:PySem.W.typeIn K (.ref D)=some (.type "type")) (h3:PySem.W.mroIn K C (.ref D)=some b) (h4:PySem.W.mroIn K D (.ref D)=some true):PySem.W.kitOne K (.ref C) (.ref D)=some b:=by
 unfold PySem.W.kitOne
 by_cases e:C=D
 ·subst e
  rw [h4] at h3
  cases h3
  rw [if_pos (beq_self_eq_true _)]
 ·rw [if_neg (fun z=>e (by have:=eq_of_beq z;injection this))]
  unfold PySem.W.kitCls
  dsimp only
  rw [if_pos (by unfold PySem.W.isClsIn at h1;rw [h1,h2];rfl)]
  exact h3
section
variable {X:Cx} {K:PySem.W.Frag}
theorem eg {e:Expr} {ta:TE} {f:Str} {pos:Pos} (h:X.K=K) (he:PE X e ta) (hb:attributeBase e f X.env (eval e X.env)=eval e X.env):PE X (.Attribute e f pos) (tFld K ta f):=by subst h;exact Ri he hb
theorem pj {o value:Expr} {ta tv:TE} {f:Str} {pos pos':Pos} (h:X.K=K) (ha:PE X o ta) (hv:PE X value tv) (hs:swapsWith value (some (.Attribute o f pos')) pos.line X.env=pure false):PS X (.Assign [.Attribute o f pos'] value pos) (sFld K ta tv f):=by subst h;exact Rb ha hv hs
end
section
variable {σ:St} {H:Hp} {Q:VK} {D:Ends} {te tv ta:TE} {x y v:V}
noncomputable def Sk (K:PySem.W.Frag) (f:Str) (Q:VK) (x:V) (H:Hp):Prop:=∃ a C dx fs v,x= .ref a∧H a=some (.ins C dx fs)∧Cls K C∧dS K C f∧fs.lookup f=some v∧Q v H
theorem SW {K:PySem.W.Frag} {f:Str} (h:te σ H (Sk K f Q)):tFld K te f σ H Q:=h
theorem d9 {K:PySem.W.Frag} {f:Str} {p C dx:Addr} {fs:List (Str×V)} (e:H p=some (.ins C dx fs)) (c:Cls K C) (n:dS K C f) (l:fs.lookup f=some v) (h:Q v H):Sk K f Q (.ref p) H:=⟨p,C,dx,fs,v,rfl,e,c,n,l,h⟩
structure Upd (H H':Hp) (p:Addr) (o:HO):Prop where
 at':H' p=some o
 oth:∀ b u,b≠p→H b=some u→H' b=some u
 non:∀ b,b≠p→H b=none→H' b=none
theorem Upd.of {H:Hp} {p:Addr} {o:HO}:Upd H (upd H p o) p o:=⟨bo,fun b u n h=>by rw [aV n];exact h,fun b n h=>by rw [aV n];exact h⟩
noncomputable def Sf (K:PySem.W.Frag) (f:Str) (y:V) (D:Ends) (σ:St) (x:V) (H:Hp):Prop:=∃ a C dx fs,x= .ref a∧H a=some (.ins C dx fs)∧Cls K C∧dS K C f∧fs.length < 1000∧D.nx σ (upd H a (.ins C dx (putF f y fs)))
theorem Md {K:PySem.W.Frag} {f:Str} (h:tv σ H fun y H1=>te σ H1 (Sf K f y D σ)):sFld K te tv f D σ H:=h
theorem pd {K:PySem.W.Frag} {f:Str} {p C dx:Addr} {fs fs':List (Str×V)} (e:H p=some (.ins C dx fs)) (c:Cls K C) (n:dS K C f) (l:fs.length < 1000) (ef:putF f y fs=fs') (h:∀ H2,Upd H H2 p (.ins C dx fs')→D.nx σ H2):
  Sf K f y D σ (.ref p) H:=⟨p,C,dx,fs,rfl,e,c,n,l,by rw [ef];exact h _ Upd.of⟩
noncomputable def N9 (C:Addr) (sp:Sp) (E:XK) (Q:VK) (vs:List V) (H:Hp):Prop:=∀ x dx,H x=none→H dx=none→dx≠x→sp (.ref x::(vs++[])) (upd (upd H dx (.own x)) x (.ins C dx [])) (fun v H2=>v= .non∧Q (.ref x) H2) E
theorem QK {C:Addr} {sp:Sp} {E:XK} {tr:TA} (h:tr σ H (N9 C sp E Q)):Qo C sp [] E tr σ H Q:=h
theorem Me {C:Addr} {sp:Sp} {E:XK} {vs:List V} (h:∀ x dx H2,H x=none→Same H H2→H2 x=some (.ins C dx [])→sp (.ref x::vs) H2 (fun v H2=>v= .non∧Q (.ref x) H2) E):N9 C sp E Q vs H:=by
 intro x dx f1 f2 n
 rw [List.append_nil]
 exact h x dx _ f1 (fun b o e=>by rw [aV (av e f1),aV (av e f2)];exact e) bo
end
theorem Inv.laidCh {X:Cx} {pins:List (Addr×Obj)} {σ:St} {H:Hp} {s:Shared} {h':Heap} {a:Addr} {o:HO} {t':Nat} {ch:List Addr} (I:Inv X pins σ H s) (k:∀ b u,b∉ch→s.heap.get? b=some u→h'.get? b=some u) (hp:s.heap.objs.size≤a)
  (new:fm X.prog X.w (upd H a o) h' a o) (fp:∀ b∈ch,FpOk X pins H b):Inv X pins σ (upd H a o) {s with heap:=h',toks:=t'}:=by
 have fr:H a=none:=I.hok.fresh hp
 have nit:∀ b u,H b=some u→b∉ch:=fun b u e z=>by rw [(fp b z).1] at e;cases e
 refine I.step (g':=s.gens) (d':=s.drawn) (ch:=ch) (fun b hb=>?_) (fun b ob _ _ hc e _=>k b ob hc e) (fun b ob _ _ hc e _=>⟨ob.slots,k b ob hc e⟩) (fun b ob _ e n=>?_) (fun b ob hc e=>⟨ob,k b ob hc e⟩)
  (fun b xs e=>by rw [aV (av e fr)];exact e) (fun b ob u e=>by rw [aV (av e fr)];exact e) (fun b ps e=>⟨#[],by rw [aV (av e fr),e];simp⟩) (fun m hm=>?_) (fun b u e=>?_) I.bare
 ·obtain ⟨f0,f1,f2,f3,f4,f5⟩:=fp b hb
  exact ⟨f3,f1,f4,f5⟩
 ·rw [aV (Nat.ne_of_lt (Nat.lt_of_lt_of_le (Heap.lt_size e) hp))];exact n
 ·obtain ⟨ob,es,ep,ho,r⟩:=hm
  exact ⟨ob,es,ep,k _ ob (fun z=>(fp _ z).2.1 rfl) ho,r⟩
 ·by_cases hb:b=a
  ·subst hb;rw [bo] at e;cases e;exact new
  ·rw [aV hb] at e
   refine (I.hok b u e).stay (fun c v hc q=>k c v ?_ q) (fun c q=>by rw [aV (av q fr)];exact q) fun c xs q=>by rw [aV (av q fr)];exact q
   rcases hc with z | z
   ·rw [z];exact nit b u e
   ·exact nit c _ z
theorem Inv.turnedCh {X:Cx} {pins:List (Addr×Obj)} {σ:St} {H:Hp} {s:Shared} {h':Heap} {t':Nat} {ch:List Addr} (I:Inv X pins σ H s) (k:∀ b u,b∉ch→s.heap.get? b=some u→h'.get? b=some u)
  (fp:∀ b∈ch,FpOk X pins H b):Inv X pins σ H {s with heap:=h',toks:=t'}:=by
 have nit:∀ b u,H b=some u→b∉ch:=fun b u e z=>by rw [(fp b z).1] at e;cases e
 refine I.step (g':=s.gens) (d':=s.drawn) (ch:=ch) (fun b hb=>?_) (fun b ob _ _ hc e _=>k b ob hc e) (fun b ob _ _ hc e _=>⟨ob.slots,k b ob hc e⟩) (fun b ob _ e n=>n) (fun b ob hc e=>⟨ob,k b ob hc e⟩)
  (fun b xs e=>e) (fun b ob u e=>e) (fun b ps e=>⟨#[],by rw [e];simp⟩) (fun m hm=>?_) (fun b u e=>?_) I.bare
 ·obtain ⟨f0,f1,f2,f3,f4,f5⟩:=fp b hb
  exact ⟨f3,f1,f4,f5⟩
 ·obtain ⟨ob,es,ep,ho,r⟩:=hm
  exact ⟨ob,es,ep,k _ ob (fun z=>(fp _ z).2.1 rfl) ho,r⟩
 ·refine (I.hok b u e).stay (fun c v hc q=>k c v ?_ q) (fun c q=>q) fun c xs q=>q
  rcases hc with z | z
  ·rw [z];exact nit b u e
  ·exact nit c _ z
noncomputable def Ite (K:PySem.W.Frag) (a:Addr):It:=
 ⟨fun i H=>∃ xs x,SqL K H a xs∧xs[i]? =some x,fun i H x H'=>∃ p v,H p=none∧x= .ref p∧H'=upd H p (.tup [.int i,v])∧∀ xs,SqL K H a xs→xs[i]? =some v,fun i H=>∃ xs,SqL K H a xs∧xs.length=i⟩
noncomputable def Itz (x:Str):It:=⟨fun i _=>i < x.cps.size,fun i H v H'=>∃ p c,H p=none∧v= .ref p∧H'=upd H p (.tup [.int i,.str ⟨#[c]⟩])∧x.cps[i]? =some c,fun i _=>i=x.cps.size⟩
theorem Fx:(2:Nat)≤sizeLine:=by rw [sizeLine_eq];decide
theorem xP {P:Program} {w:World} {K:PySem.W.Frag} {elts:List Expr} {k:Nat} {pos:Pos} (a e it:Addr) (hei:e≠it):
  Turn P w K (.Tuple elts k pos) (Ite K a) [e,it] e (fun i h=>(∃ old,IsEnum h e it i old)∧h.IsListIter it a i) where
 mem:=by simp
 obj:=fun i h st b hb=>by
  obtain ⟨⟨old,he⟩,⟨o,ho,hc,hd⟩⟩:=st
  rcases List.mem_cons.mp hb with z | z
  ·subst z;exact ⟨_,he,fun v z=>by cases z⟩
  ·rw [List.mem_singleton.mp z];exact ⟨o,ho,fun v z=>by rw [hd] at z;cases z⟩
 keep:=fun i h h' st k=>⟨let ⟨old,he⟩:=st.1;⟨old,k e (by simp) _ he⟩,st.2.at fun o z=>k it (by simp) o z⟩
 item:=by
  intro X hP hw hK hc i pins s σ H E I hf st hg
  subst hP hw hK
  obtain ⟨xs,x,hq,hx⟩:=hg
  obtain ⟨its,rv,p,hz⟩:=I.list hq
  obtain ⟨⟨old,he⟩,hl⟩:=st
  have hai:a≠it:=fun z=>by
   obtain ⟨o,ho,hcl,_⟩:=hl
   obtain ⟨o',n,ho',hcl',_⟩:=p
   rw [z,ho] at ho';cases ho';rw [hcl] at hcl';exact absurd hcl' (by decide)
  have hae:a≠e:=fun z=>by
   obtain ⟨o',n,ho',hcl',_⟩:=p
   rw [z,he] at ho';cases ho';exact absurd (show Value.type "enumerate"= .type "list" from hcl') (by decide)
  have W:=WalksT.enumerateD (prog:=X.prog) (w:=X.w) (A:=X.A) (Draws.list (A:=X.A.in1) (I.ok.hd hc) it a hai its.toArray) e hei (by simp [hei,Ne.symm hae]) (by simp)
  have hi:i < its.toArray.size:=by have:=rv.length;have:=(List.getElem?_eq_some_iff.mp hx).1;simp;omega
  refine W.item i s _ _ hi ⟨⟨old,he⟩,hl,p.isList⟩ fun T vals h' tk hPt hT htup hmid hk=>⟨_,rfl,W.go elts k pos i T _ _ _ hmid fun h'' hst hk2=>?_⟩
  obtain ⟨t,x',hx',rfl⟩:=hPt
  have hap:=W.apart i T h' hmid
  have ru:RelV x x':=by
   obtain ⟨u,hu,r⟩:=rv.get hx
   have hx'':its[i]? =some x':=by simpa using hx'
   rw [hu] at hx'';cases hx'';exact r
  have kk:∀ b u,b∉[e,it]→s.heap.get? b=some u→h''.get? b=some u:=fun b u hb q=>hk2 b u hb (hk b u hb q)
  have fr:H T=none:=I.hok.fresh hT
  refine ⟨.ref T,upd H T (.tup [.int i,x]),I.laidCh (t':=tk) kk hT ⟨Fx,[.int i t,x'],.cons ⟨t,rfl⟩ (.cons ru .nil),?_⟩ hf,rfl,⟨T,x,fr,rfl,rfl,fun ys hy=>by rw [I.list_inj hy hq];exact hx⟩,⟨hst.1,hst.2.1⟩,fun b hb=>?_⟩
  ·obtain ⟨o,ho,r⟩:=htup
   exact ⟨o,hk2 T o hap ho,r⟩
  ·have fb:=(hf b hb)
   rw [aV (fun z=>?_)]
   ·exact fb.1
   ·have lt:b < s.heap.objs.size:=by
     rcases List.mem_cons.mp hb with z | z
     ·subst z;exact Heap.lt_size he
     ·rw [List.mem_singleton.mp z];obtain ⟨o,ho,_⟩:=hl;exact Heap.lt_size ho
    rw [z] at lt
    exact absurd (Nat.lt_of_lt_of_le lt hT) (Nat.lt_irrefl _)
 done:=by
  intro X hP hw hK hc i pins s σ H E I hf st hg
  subst hP hw hK
  obtain ⟨xs,hq,hx⟩:=hg
  obtain ⟨its,rv,p,hz⟩:=I.list hq
  obtain ⟨⟨old,he⟩,hl⟩:=st
  have hai:a≠it:=fun z=>by
   obtain ⟨o,ho,hcl,_⟩:=hl
   obtain ⟨o',n,ho',hcl',_⟩:=p
   rw [z,ho] at ho';cases ho';rw [hcl] at hcl';exact absurd hcl' (by decide)
  have hae:a≠e:=fun z=>by
   obtain ⟨o',n,ho',hcl',_⟩:=p
   rw [z,he] at ho';cases ho';exact absurd (show Value.type "enumerate"= .type "list" from hcl') (by decide)
  have W:=WalksT.enumerateD (prog:=X.prog) (w:=X.w) (A:=X.A) (Draws.list (A:=X.A.in1) (I.ok.hd hc) it a hai its.toArray) e hei (by simp [hei,Ne.symm hae]) (by simp)
  have hn:its.toArray.size=i:=by have:=rv.length;simp;omega
  subst hn
  exact W.done s _ _ ⟨⟨old,he⟩,hl,p.isList⟩ fun h' tk hk=>⟨rfl,I.turnedCh hk hf⟩
 self:=fun _ _ _ _ _ st h=>let ⟨_,he⟩:=st.1;wpAny_pyIter_enum he h
theorem Gp {P:Program} {w:World} {K:PySem.W.Frag} {elts:List Expr} {k:Nat} {pos:Pos} {x:Str} {t:Tok} {n:String} (e it:Addr) (hei:e≠it)
  (D:∀ A:Around,A.handled=none→Draws P w A it [it] x.cps.size (fun i v=>∃ c u,x.cps[i]? =some c∧v= .str ⟨#[c]⟩ u) (fun i h=>h.IsStrIter it n x t i)):
  Turn P w K (.Tuple elts k pos) (Itz x) [e,it] e (fun i h=>(∃ old,IsEnum h e it i old)∧h.IsStrIter it n x t i) where
 mem:=by simp
 obj:=fun i h st b hb=>by
  obtain ⟨⟨old,he⟩,⟨o,ho,hc,hd⟩⟩:=st
  rcases List.mem_cons.mp hb with z | z
  ·subst z;exact ⟨_,he,fun v z=>by cases z⟩
  ·rw [List.mem_singleton.mp z];exact ⟨o,ho,fun v z=>by rw [hd] at z;cases z⟩
 keep:=fun i h h' st k=>⟨let ⟨old,he⟩:=st.1;⟨old,k e (by simp) _ he⟩,let ⟨o,ho,r⟩:=st.2;⟨o,k it (by simp) o ho,r⟩⟩
 item:=by
  intro X hP hw hK hc i pins s σ H E I hf st hg
  subst hP hw hK
  obtain ⟨⟨old,he⟩,hl⟩:=st
  have W:=WalksT.enumerateD (prog:=X.prog) (w:=X.w) (A:=X.A) (D X.A.in1 (I.ok.hd hc)) e hei (by simp [hei]) (by simp)
  refine W.item i s _ _ hg ⟨⟨old,he⟩,hl⟩ fun T vals h' tk hPt hT htup hmid hk=>⟨_,rfl,W.go elts k pos i T _ _ _ hmid fun h'' hst hk2=>?_⟩
  obtain ⟨t1,x',⟨c,u,hx',rfl⟩,rfl⟩:=hPt
  have hap:=W.apart i T h' hmid
  have kk:∀ b u,b∉[e,it]→s.heap.get? b=some u→h''.get? b=some u:=fun b u hb q=>hk2 b u hb (hk b u hb q)
  have fr:H T=none:=I.hok.fresh hT
  refine ⟨.ref T,upd H T (.tup [.int i,.str ⟨#[c]⟩]),I.laidCh (t':=tk) kk hT ⟨Fx,[.int i t1,.str ⟨#[c]⟩ u],.cons ⟨t1,rfl⟩ (.cons ⟨u,rfl⟩ .nil),?_⟩ hf,rfl,⟨T,c,fr,rfl,rfl,hx'⟩,⟨hst.1,hst.2⟩,fun b hb=>?_⟩
  ·obtain ⟨o,ho,r⟩:=htup
   exact ⟨o,hk2 T o hap ho,r⟩
  ·have fb:=(hf b hb)
   rw [aV (fun z=>?_)]
   ·exact fb.1
   ·have lt:b < s.heap.objs.size:=by
     rcases List.mem_cons.mp hb with z | z
     ·subst z;exact Heap.lt_size he
     ·rw [List.mem_singleton.mp z];obtain ⟨o,ho,_⟩:=hl;exact Heap.lt_size ho
    rw [z] at lt
    exact absurd (Nat.lt_of_lt_of_le lt hT) (Nat.lt_irrefl _)
 done:=by
  intro X hP hw hK hc i pins s σ H E I hf st hg
  subst hP hw hK
  obtain ⟨⟨old,he⟩,hl⟩:=st
  have W:=WalksT.enumerateD (prog:=X.prog) (w:=X.w) (A:=X.A) (D X.A.in1 (I.ok.hd hc)) e hei (by simp [hei]) (by simp)
  have hg:i=x.cps.size:=hg
  subst hg
  exact W.done s _ _ ⟨⟨old,he⟩,hl⟩ fun h' tk hk=>⟨rfl,I.turnedCh hk hf⟩
 self:=fun _ _ _ _ _ st h=>let ⟨_,he⟩:=st.1;wpAny_pyIter_enum he h
noncomputable def RM (K:PySem.W.Frag) (tl:TE):TI:=fun σ H R=>tl σ H fun x H1=>(∃ a,x= .ref a∧(∃ xs,SqL K H1 a xs)∧R (Ite K a) H1)∨∃ z,x= .str z∧R (Itz z) H1
section
variable {X:Cx} {K:PySem.W.Frag}
theorem mM {l:Expr} {tl:TE} {elts:List Expr} {k:Nat} {tpos p pos:Pos} (h:X.K=K) (hg:Gl X "enumerate") (hm:X.mg "enumerate"=none) (hl:PE X l tl) (hs:starEach [l] X.env=[(false,eval l X.env)]:=by rfl):
  PI X (.Tuple elts k tpos) (.Call (.Name "enumerate" p) [l] [] pos) (RM K tl):=by
 subst h
 intro pins s σ H R I h
 refine Call_ (my I hg hm boot_enumerate (PyProof.Rows.callWith_type1 (thn (aa hl ae hs pos pins s σ H (fun vs H1=>match vs with | [x]=>(∃ a,x= .ref a∧(∃ xs,SqL X.K H1 a xs)∧R (Ite X.K a) H1)∨∃ z,x= .str z∧R (Itz z) H1 | _=>False) I h) fun us s1 ⟨vs,H1,I1,r1,q1⟩=>?_) hs rfl))
 match vs,r1,q1 with
 | [x],r1,q1=>
 obtain ⟨u,rfl,ru⟩:=r1.one
 rcases q1 with ⟨a,rfl,⟨xs,hq⟩,q⟩ | ⟨z,rfl,q⟩
 ·cases ru
  obtain ⟨its,rv,pl,hz⟩:=I1.list hq
  refine call_enumerate_list pl.isList fun h' he hit hsz hk=>wpAny_pyIter_enum he ?_
  refine ⟨s1.heap.objs.size + 1,[s1.heap.objs.size + 1,s1.heap.objs.size],_,_,H1,rfl,I1.kept (t':=s1.toks) hk,xP a _ _ (Nat.ne_of_gt (Nat.lt_succ_self _)),⟨⟨_,he⟩,hit⟩,fun b hb=>?_,q⟩
  have hb':s1.heap.objs.size≤b:=(List.mem_cons.mp hb).elim (fun z=>by rw [z];exact Nat.le_succ _) (fun z=>by rw [List.mem_singleton.mp z];exact Nat.le_refl _)
  exact I1.fpOk hb' (I1.hok.fresh hb')
 ·obtain ⟨t,rfl⟩:=ru
  refine call_enumerate_str fun h' he hit hsz hk=>wpAny_pyIter_enum he ?_
  have fin:∀ n,(h'.IsStrIter s1.heap.objs.size n z t 0)→(∀ A:Around,A.handled=none→Draws X.prog X.w A s1.heap.objs.size [s1.heap.objs.size] z.cps.size (fun i v=>∃ c u,z.cps[i]? =some c∧v= .str ⟨#[c]⟩ u) (fun i h=>h.IsStrIter s1.heap.objs.size n z t i))→
    PIE X pins σ (.Tuple elts k tpos) R (.ref (s1.heap.objs.size + 1)) {s1 with heap:=h'}:=fun n hn D=>by
   refine ⟨s1.heap.objs.size + 1,[s1.heap.objs.size + 1,s1.heap.objs.size],_,_,H1,rfl,I1.kept (t':=s1.toks) hk,Gp _ _ (Nat.ne_of_gt (Nat.lt_succ_self _)) D,⟨⟨_,he⟩,hn⟩,fun b hb=>?_,q⟩
   have hb':s1.heap.objs.size≤b:=(List.mem_cons.mp hb).elim (fun z=>by rw [z];exact Nat.le_succ _) (fun z=>by rw [List.mem_singleton.mp z];exact Nat.le_refl _)
   exact I1.fpOk hb' (I1.hok.fresh hb')
  unfold strIterType at hit
  split at hit
  ·exact fin _ hit fun A hA=>Draws.strAscii hA _ z t
  ·exact fin _ hit fun A hA=>Draws.strWide hA _ z t
end
theorem og {K:PySem.W.Frag} {a:Addr} {xs:List V} {g:TG} {tb:TS} {D:Ends} {σ:St} {H:Hp} (Pv:Nat→St→Hp→Prop) (h0:Pv 0 σ H) (hl:∀ i σ H,i≤xs.length→Pv i σ H→SqL K H a xs)
  (hs:∀ i x σ H p H',xs[i]? =some x→Pv i σ H→H p=none→Same H H'→H' p=some (.tup [.int i,x])→g (.ref p) σ H' fun σ2 H2=>tb {D with nx:=Pv (i + 1),ct:=Pv (i + 1),bk:=D.nx} σ2 H2) (hd:∀ σ H,Pv xs.length σ H→D.nx σ H):
  ∃ W:Nat→Nat→St→Hp→Prop,(∃ m,W 0 m σ H)∧∀ i m σ H,W i m σ H→
    ((Ite K a).stop i H∧D.nx σ H)∨((Ite K a).go i H∧∃ N:St→Hp→Prop,(∀ σ' H',N σ' H'→∃ m',m' < m∧W (i + 1) m' σ' H')∧∀ x H',(Ite K a).yld i H x H'→g x σ H' fun σ2 H2=>tb {D with nx:=N,ct:=N,bk:=D.nx} σ2 H2):=by
 refine ⟨fun i m σ H=>m=xs.length - i∧i≤xs.length∧Pv i σ H,⟨xs.length,by simp,Nat.zero_le _,h0⟩,?_⟩
 rintro i m σ H ⟨rfl,hi,p⟩
 have q:=hl i σ H hi p
 by_cases hlt:i < xs.length
 ·refine .inr ⟨⟨xs,xs[i],q,by simp [hlt]⟩,Pv (i + 1),fun σ' H' p'=>⟨xs.length - (i + 1),by omega,rfl,hlt,p'⟩,fun x H' y=>?_⟩
  obtain ⟨r,v,f,e1,e2,y⟩:=y
  subst e1 e2
  exact hs i v σ H r _ (y xs q) p f (fQ f) bo
 ·have e:i=xs.length:=by omega
  subst e
  exact .inl ⟨⟨xs,q,rfl⟩,hd σ H p⟩
section
variable {σ:St} {H:Hp} {te:TE} {R:It→Hp→Prop}
theorem OM {K:PySem.W.Frag} (h:te σ H fun x H1=>(∃ a,x= .ref a∧(∃ xs,SqL K H1 a xs)∧R (Ite K a) H1)∨∃ z,x= .str z∧R (Itz z) H1):RM K te σ H R:=h
end
section
variable {σ:St} {H:Hp} {Q:VK} {D:Ends} {te ty tv td:TE} {x y v:V}
theorem iA {l:Addr} {xs:List V} (e:H l=some (.lst xs)) (hz:xs.length < sizeLine) (h:∀ H2,Upd H H2 l (.lst (xs++[y]))→Q .non H2):JH (.ref l) [y] H Q:=⟨l,xs,y,rfl,rfl,e,hz,h _ Upd.of⟩
noncomputable def Oa (v:V) (x:V) (D:Ends) (σ:St) (y:V) (H:Hp):Prop:=∃ a H4,x= .ref a∧DPut H a y v H4∧D.nx σ H4
theorem QS (h:tv σ H fun v H1=>td σ H1 fun x H2=>ty σ H2 (Oa v x D σ)):Q0 td ty tv D σ H:=h
theorem OR {p:Addr} {kvs:List (Key×V)} {z:Int} (e:H p=some (.dK kvs)) (hl:kvs.length < sizeLine) (h:∀ H2,Upd H H2 p (.dK (putK kvs (Sum.inl z) v))→D.nx σ H2):Oa v (.ref p) D σ (.int z) H:=⟨p,_,rfl,DPut.k (k:=Sum.inl z) e hl,h _ Upd.of⟩
noncomputable def Ob (x:V) (Q:VK) (y:V) (H:Hp):Prop:=∃ a v,x= .ref a∧DGet H a y (some v)∧Q v H
theorem QW (h:td σ H fun x H1=>ty σ H1 (Ob x Q)):Qp td ty σ H Q:=h
theorem Jy {p:Addr} {kvs:List (Key×V)} {z:Int} (e:H p=some (.dK kvs)) (l:valV kvs (Sum.inl z)=some v) (h:Q v H):Ob (.ref p) Q (.int z) H:=⟨p,v,rfl,by rw [← l];exact DGet.k (k:=Sum.inl z) e,h⟩
noncomputable def N8 (C:Addr) (m:Str) (sp:Sp) (E:XK) (tr:TA) (σ:St) (Q:VK) (x:V) (H:Hp):Prop:=∃ a dx fs,x= .ref a∧H a=some (.ins C dx fs)∧fs.lookup m=none∧tr σ H fun vs H2=>sp (x::(vs++[])) H2 Q E
theorem QJ {C:Addr} {m:Str} {sp:Sp} {E:XK} {tr:TA} (h:te σ H (N8 C m sp E tr σ Q)):Oo C m sp [] E te tr σ H Q:=h
theorem lK {C dx p:Addr} {m:Str} {fs:List (Str×V)} {sp:Sp} {E:XK} {tr:TA} (e:H p=some (.ins C dx fs)) (l:fs.lookup m=none) (h:tr σ H fun vs H2=>sp (.ref p::vs) H2 Q E):N8 C m sp E tr σ Q (.ref p) H:=⟨p,dx,fs,rfl,e,l,by simp only [List.append_nil];exact h⟩
theorem OL {K:PySem.W.Frag} {p:Addr} {xs:List V} (e:SqL K H p xs) (h:∀ q H2,H q=none→Same H H2→H2 q=some (.lst xs)→Q (.ref q) H2):JG K [.ref p] H Q:=⟨p,xs,rfl,.inl e,mJ h⟩
theorem QB {K:PySem.W.Frag} {p:Addr} {xs:List V} (e:SqL K H p xs) (h:∀ q H2,H q=none→Same H H2→H2 q=some (.tup xs)→Q (.ref q) H2):NH K [.ref p] H Q:=⟨p,xs,rfl,.inl ⟨e,mJ h⟩⟩
end
noncomputable def Mv (ch fr:List Addr) (h h':Heap):Prop:=(∀ b o,b∉ch→b∉fr→h.get? b=some o→h'.get? b=some o)∧∀ b o,b∉ch→b∈fr→h.get? b=some o→∃ sl,h'.get? b=some {o with slots:=sl}
noncomputable def Iz (h:Heap) (e:Addr) (C:Value) (dx:Option Addr) (T:Option (Addr×Value)):Prop:=
 ∃ oe vs,h.get? e=some oe∧oe.cls=C∧oe.dict=dx∧oe.data= .fields vs∧1 < vs.size∧
   match T with
   | none=>vs[1]? =some .none
   | some (t,fl)=>vs[1]? =some (.ref t)∧t≠e∧∃ oT ts,h.get? t=some oT∧oT.data= .fields ts∧ts[3]? =some fl
section
variable {M:Model} {A:Around} {E:Value→Shared→Prop} {s:Shared}
theorem BS {h:Heap} {a:Addr} {o:Obj} {vs:Array Value} {i:Nat} {v:Value} (ho:h.get? a=some o) (hd:o.data= .fields vs):
  ∃ o',(h.update a (Obj.mapFields (·.setIfInBounds i v))).get? a=some o'∧o'.cls=o.cls∧o'.dict=o.dict∧o'.data= .fields (vs.setIfInBounds i v):=by
 have hd':=Obj.data_mapFields hd (·.setIfInBounds i v)
 refine ⟨_,Heap.get?_update_self (Obj.mapFields (·.setIfInBounds i v)) ho (Obj.isFreed_of_fields hd'),Obj.cls_mapFields _ _,?_,hd'⟩
 obtain ⟨c,d,dt,sl⟩:=o
 have hd:dt= .fields vs:=hd
 subst hd
 rfl
theorem M4 {base:Heap} {env:Env} {outer:List Env} {L e:Addr} {oe:Obj} {vs:Array Value} {head:Value} {b:Bool} {Q:Unit→Shared→Prop}
  (hfr:A.frames=some (env::outer)) (hl:s.heap.FunFrames base (env::outer)) (hf:env.frame=some L) (he:s.heap.get? e=some oe) (hd:oe.data= .fields vs) (hsz:1 < vs.size)
  (h:∀ h',Mv [e] (frs (env::outer)) s.heap h'→Iz h' e oe.cls oe.dict (some (s.heap.objs.size,rawInt L))→Q () {s with heap:=h'}):
  wpAny M A (do let a ← frameOf env;let pl ← entryPlaceOf L b;let t ← EntryCells.newEntry head a .none (rawInt L) .none pl;setField (.ref e) 1 t) Q E s:=by
 have ne:e∉frs (env::outer):=fun hm=>by
  obtain ⟨_,o,ho,hnf⟩:=hl.mem hm
  rw [he] at ho;cases ho;exact hnf vs hd
 refine wpAny_bind (wpAny_frameOf_fun hfr hl hf fun g1 z1=>?_)
 refine wpAny_bind (wpAny_entryPlaceOf fun pl isp=>?_)
 unfold EntryCells.newEntry newFields
 refine wpAny_bind (wpAny_newObj_type ?_ (isp.sizeOk5 _ _ _ _ _))
 have e1:g1.get? e=some oe:=(z1.2.1 e ne).trans he
 have sz:g1.objs.size=s.heap.objs.size:=z1.1
 generalize hob:({cls:= .type "traceback",dict:=none,data:= .fields ([head,.ref L,.none,rawInt L,.none]++(if pl.isEmpty then List.replicate 6 Value.none else pl)).toArray}:Obj)=ob
 have e2:(g1.push ob).get? e=some oe:=Heap.get?_push_of_some ob e1
 refine wpAny_setField e2 hd hsz ?_
 have lt:e < g1.objs.size:=Heap.lt_size e1
 obtain ⟨o',q1,q2,q3,q4⟩:=BS (i:=1) (v:= .ref g1.objs.size) e2 hd
 have oth:∀ c,c≠e→((g1.push ob).update e (Obj.mapFields (·.setIfInBounds 1 (Value.ref g1.objs.size)))).get? c=(g1.push ob).get? c:=fun c hc=>Heap.get?_update_other _ _ (Ne.symm hc)
 have old:∀ c o,c≠e→g1.get? c=some o→((g1.push ob).update e (Obj.mapFields (·.setIfInBounds 1 (Value.ref g1.objs.size)))).get? c=some o:=fun c o hc q=>(oth c hc).trans (Heap.get?_push_of_some ob q)
 refine h _ ⟨fun c o n m q=>old c o (fun z=>n (by rw [z];exact List.mem_singleton.mpr rfl)) ((z1.2.1 c m).trans q),fun c o n m q=>?_⟩ ⟨o',_,q1,q2,q3,q4,by simpa using hsz,?_⟩
 ·obtain ⟨sl,q'⟩:=z1.2.2 c o q
  exact ⟨sl,old c _ (fun z=>n (by rw [z];exact List.mem_singleton.mpr rfl)) q'⟩
 ·have nt:g1.objs.size≠e:=Nat.ne_of_gt lt
  refine ⟨by rw [← sz];simp [hsz],by rw [← sz];exact nt,ob,_,?_,by rw [← hob],?_⟩
  ·rw [← sz,oth _ nt]
   exact Heap.get?_push_size g1 (by rw [← hob];rfl)
  ·first | (simp;done) | (rcases isp with rfl | ⟨_,_,_,_,_,_,_,rfl⟩<;>simp)
theorem KQ {e t:Addr} {C:Value} {dx:Option Addr} {fl:Value} {fr:Option Addr} {Q:Unit→Shared→Prop} (x:Iz s.heap e C dx (some (t,fl)))
  (h:∀ h',(∀ b o,b≠t→s.heap.get? b=some o→h'.get? b=some o)→Iz h' e C dx (some (t,fr.elim .none fun f=>rawInt f))→Q () {s with heap:=h'}):wpAny M A (setFlight (.ref e) fr) Q E s:=by
 obtain ⟨oe,vs,he,hc,hdx,hd,hsz,h1,hte,oT,ts,hT,hdT,h3⟩:=x
 unfold setFlight
 refine wpAny_bind (wpAny_field he hd h1 ?_)
 rw [if_pos (show (Value.ref t != Value.none)=true from by simp)]
 refine wpAny_setField hT hdT (Array.getElem?_eq_some_iff.mp h3).1 ?_
 obtain ⟨o',q1,q2,q3,q4⟩:=BS (i:=3) (v:=fr.elim .none fun f=>rawInt f) hT hdT
 have oth:∀ c,c≠t→(s.heap.update t (Obj.mapFields (·.setIfInBounds 3 (fr.elim Value.none fun f=>rawInt f)))).get? c=s.heap.get? c:=fun c hc=>Heap.get?_update_other _ _ (Ne.symm hc)
 refine h _ (fun b o hb q=>(oth b hb).trans q) ⟨oe,vs,(oth e (Ne.symm hte)).trans he,hc,hdx,hd,hsz,h1,hte,o',_,q1,q4,?_⟩
 have:=(Array.getElem?_eq_some_iff.mp h3).1
 simp [this]
end
section
variable {X:Cx} {pins:List (Addr×Obj)} {σ:St} {H:Hp} {s:Shared}
theorem Inv.mv {h':Heap} {ch:List Addr} (I:Inv X pins σ H s) (m:Mv ch (frs X.stack) s.heap h') (fp:∀ b∈ch,FpOk X pins H b):Inv X pins σ H {s with heap:=h'}:=by
 have nit:∀ b u,H b=some u→b∉ch:=fun b u e z=>by rw [(fp b z).1] at e;cases e
 have nfr:∀ b u,H b=some u→b∉frs X.stack:=fun b u e z=>by rw [I.stkFree b z] at e;cases e
 have any:∀ b o,b∉ch→s.heap.get? b=some o→∃ sl,h'.get? b=some {o with slots:=sl}:=fun b o n e=>by
  by_cases z:b∈frs X.stack
  ·exact m.2 b o n z e
  ·exact ⟨o.slots,m.1 b o n z e⟩
 refine I.step (g':=s.gens) (d':=s.drawn) (t':=s.toks) (ch:=ch) (fun b hb=>?_) (fun b ob hL hb hc e _=>m.1 b ob hc (fun z=>(List.mem_cons.mp (I.stkSub b z)).elim hL hb) e) (fun b ob _ _ hc e _=>any b ob hc e) (fun b ob _ e n=>n) (fun b ob hc e=>let ⟨sl,q⟩:=any b ob hc e;⟨_,q⟩)
  (fun b xs e=>e) (fun b ob u e=>e) (fun b ps e=>⟨#[],by rw [e];simp⟩) (fun m' hm=>?_) (fun b u e=>?_) I.bare
 ·obtain ⟨f0,f1,f2,f3,f4,f5⟩:=fp b hb
  exact ⟨f3,f1,f4,f5⟩
 ·obtain ⟨ob,es,ep,ho,r⟩:=hm
  obtain ⟨sl,q⟩:=any _ ob (fun z=>(fp _ z).2.1 rfl) ho
  exact ⟨_,es,ep,q,r⟩
 ·refine (I.hok b u e).stay (fun c v hc q=>m.1 c v ?_ ?_ q) (fun c q=>q) fun c xs q=>q
  ·rcases hc with z | z
   ·rw [z];exact nit b u e
   ·exact nit c _ z
  ·rcases hc with z | z
   ·rw [z];exact nfr b u e
   ·exact nfr c _ z
theorem fm.there {P:Program} {w:World} {h:Heap} {a:Addr} {o:HO} (x:fm P w H h a o):∃ o',h.get? a=some o':=by
 cases o with
 | lst xs=>obtain ⟨_,_,_,_,e⟩:=x;exact ⟨_,e⟩
 | tup xs=>obtain ⟨_,_,_,_,e,_⟩:=x;exact ⟨_,e⟩
 | dK kvs=>obtain ⟨_,_,_,_,o,_,_,e,_⟩:=x;exact ⟨_,e⟩
 | dT kvs=>obtain ⟨_,_,_,_,o,_,_,e,_⟩:=x;exact ⟨_,e⟩
 | set S n=>obtain ⟨o,_,_,_,e,_⟩:=x;exact ⟨_,e⟩
 | ins C dx fs=>obtain ⟨_,_,_,e,_⟩:=x;exact ⟨_,e⟩
 | own y=>obtain ⟨_,e⟩:=x;exact ⟨_,e⟩
 | xd fs=>obtain ⟨_,⟨_,_,_,e,_⟩,_⟩:=x;exact ⟨_,e⟩
 | rng lo hi=>obtain ⟨_,_,_,e⟩:=x;exact ⟨_,e⟩
 | frz ob u=>obtain ⟨e,_⟩:=x;exact ⟨_,e⟩
 | tbl ps=>exact ⟨_,(show h.get? a=some _ from x)⟩
 | met f y=>exact ⟨_,(show h.get? a=some _ from x)⟩
 | ext φ=>obtain ⟨_,⟨_,e⟩,_⟩:=x;exact ⟨_,e⟩
theorem HOk.none_ {P:Program} {w:World} {h:Heap} {a:Addr} (x:HOk P w H h) (e:h.get? a=none):H a=none:=by
 cases q:H a with
 | none=>rfl
 | some u=>obtain ⟨o,z⟩:=(x a u q).there;rw [e] at z;cases z
noncomputable def FpN (X:Cx) (pins:List (Addr×Obj)) (H:Hp) (b:Addr):Prop:=
 H b=none∧b≠X.env.locals∧b∉X.fs∧(b∈X.ex∨X.s₀.heap.get? b=none)∧(∀ x c,X.env.cells.lookup x=some c→c≠b)∧∀ p∈X.pn++pins,p.1≠b
theorem FpOk.n {b:Addr} (f:FpOk X pins H b):FpN X pins H b:=⟨f.1,f.2.1,f.2.2.1,f.2.2.2.1.imp id Heap.get?_none_of_le,f.2.2.2.2⟩
theorem Inv.fpN {H':Hp} {b:Addr} (I:Inv X pins σ H s) (hb:s.heap.get? b=none) (hn:H' b=none):FpN X pins H' b:=by
 refine ⟨hn,fun z=>?_,fun z=>?_,?_,fun x c e z=>?_,fun p hp z=>?_⟩
 ·obtain ⟨m,⟨o,es,ep,ho,r⟩,_⟩:=I.loc
  rw [← z,hb] at ho;cases ho
 ·obtain ⟨_,o,ho,_⟩:=I.ok.funs.mem z
  obtain ⟨o',e'⟩:=I.base.there b o ho fun y=>I.ok.exfs b y z
  rw [hb] at e';cases e'
 ·by_cases z:b∈X.ex
  ·exact .inl z
  ·cases q:X.s₀.heap.get? b with
   | none=>exact .inr rfl
   | some o=>obtain ⟨o',e'⟩:=I.base.there b o q z;rw [hb] at e';cases e'
 ·obtain ⟨v,o,q,_⟩:=I.cell x c e
  rw [z,hb] at q;cases q
 ·have:=(I.pin p hp).1
  rw [z,hb] at this;cases this
theorem Inv.mvN {h':Heap} {ch:List Addr} (I:Inv X pins σ H s) (m:Mv ch (frs X.stack) s.heap h') (fp:∀ b∈ch,FpN X pins H b):Inv X pins σ H {s with heap:=h'}:=by
 have out:∀ b o,X.s₀.heap.get? b=some o→b∉X.ex→b∉ch++X.ex:=fun b o e n z=>by
  rcases List.mem_append.mp z with z | z
  ·rcases (fp b z).2.2.2.1 with y | y
   ·exact n y
   ·rw [e] at y;cases y
  ·exact n z
 have sub:∀ b,b∉ch++X.ex→b∉X.ex:=fun b n z=>n (List.mem_append_right _ z)
 have ok:Cx.Ok {X with ex:=ch++X.ex}:=⟨I.ok.mod,I.ok.kind,I.ok.glob,I.ok.blt,I.ok.above,I.ok.inj,I.ok.has,I.ok.cab,I.ok.hd,I.ok.frames,I.ok.stk,
  fun b hb=>(List.mem_append.mp hb).elim (fun z=>⟨(fp b z).2.1,(fp b z).2.2.2.2.1⟩) (I.ok.exf b),I.ok.bs,I.ok.bsz,fun b o e=>out b o (I.ok.bs b o e).1 (I.ok.noex b o e),
  fun b hb=>(List.mem_append.mp hb).elim (fun z=>(fp b z).2.2.1) (I.ok.exfs b),I.ok.funs,I.ok.frf⟩
 have U:=I.base
 have J:Inv {X with ex:=ch++X.ex} pins σ H s:=⟨ok,I.os,I.bare,⟨fun b o e n f z=>U.keep b o e n f (sub b z),fun b o e n f z=>U.slot b o e n f (sub b z),fun b o e n z=>U.free b o e n (sub b z),fun b o e z=>U.there b o e (sub b z),U.tups,U.frzs,U.tbls⟩,
  I.loc,I.cell,I.free,I.freeC,I.pin,I.hok,I.len⟩
 have J':=J.mv (h':=h') (ch:=ch) m fun b hb=>⟨(fp b hb).1,(fp b hb).2.1,(fp b hb).2.2.1,.inl (List.mem_append_left _ hb),(fp b hb).2.2.2.2⟩
 have V:=J'.base
 exact ⟨I.ok,J'.os,J'.bare,⟨fun b o e n f z=>V.keep b o e n f (out b o e z),fun b o e n f z=>V.slot b o e n f (out b o e z),fun b o e n z=>V.free b o e n (out b o e z),fun b o e z=>V.there b o e (out b o e z),V.tups,V.frzs,V.tbls⟩,
  J'.loc,J'.cell,J'.free,J'.freeC,J'.pin,J'.hok,J'.len⟩
structure Fly (X:Cx) (pins:List (Addr×Obj)) (H:Hp) (e:Addr) (C:Value) (dx:Option Addr) (T:Option (Addr×Value)) (h:Heap):Prop where
 at_:Iz h e C dx T
 fe:FpN X pins H e
 ft:∀ t fl,T=some (t,fl)→FpN X pins H t
noncomputable def Own (X:Cx):Prop:=X.stack=X.env::X.outer∧X.env.frame=some X.env.locals
theorem Ed {M:Model} {E:Value→Shared→Prop} {e:Addr} {C:Value} {dx:Option Addr} {T:Option (Addr×Value)} {Q:Unit→Shared→Prop} (I:Inv X pins σ H s) (ow:Own X) (f:Fly X pins H e C dx T s.heap)
  (h:∀ h' t,Inv X pins σ H {s with heap:=h'}→Fly X pins H e C dx (some (t,rawInt X.env.locals)) h'→Q () {s with heap:=h'}):wpAny M X.A (noteFrame (.ref e) X.env) Q E s:=by
 obtain ⟨ho,hf⟩:=ow
 have hfr:X.A.frames=some (X.env::X.outer):=by rw [I.ok.frames,ho]
 have hst:s.heap.FunFrames X.base (X.env::X.outer):=by rw [← ho];exact I.stack
 obtain ⟨⟨oe,vs,he,hc,hdx,hd,hsz,hT⟩,fe,ft⟩:=f
 have fin:∀ (s1:Shared) (oe1:Obj) (vs1:Array Value) (hd1:Value) (b1:Bool),Inv X pins σ H s1→s1.heap.objs.size=s.heap.objs.size→s1={s with heap:=s1.heap}→s1.heap.get? e=some oe1→oe1.cls=C→oe1.dict=dx→oe1.data= .fields vs1→1 < vs1.size→
   wpAny M X.A (do let a ← frameOf X.env;let pl ← entryPlaceOf X.env.locals b1;let t ← EntryCells.newEntry hd1 a .none (rawInt X.env.locals) .none pl;setField (.ref e) 1 t) Q E s1:=by
  intro s1 oe1 vs1 hd1 b1 I1 hz hs1 q1 q2 q3 q4 q5
  have hst1:s1.heap.FunFrames X.base (X.env::X.outer):=by rw [← ho];exact I1.stack
  refine M4 hfr hst1 hf q1 q4 q5 fun h' m x=>?_
  have I2:Inv X pins σ H {s1 with heap:=h'}:=I1.mvN (ch:=[e]) (by rw [ho];exact m) fun b hb=>by rw [List.mem_singleton.mp hb];exact fe
  have e2:({s1 with heap:=h'}:Shared)={s with heap:=h'}:=by rw [hs1]
  rw [e2] at I2 ⊢
  rw [q2,q3] at x
  exact h h' _ I2 ⟨x,fe,fun t fl z=>by cases z;exact (I1.fpOk (Nat.le_refl _) (I1.hok.fresh (Nat.le_refl _))).n⟩
 unfold noteFrame
 simp only [hf]
 cases T with
 | none=>
   have h1:vs[1]? =some .none:=hT
   refine wpAny_bind (wpAny_field he hd h1 ?_)
   rw [if_neg (by decide)]
   exact fin s oe vs _ _ I rfl rfl he hc hdx hd hsz
 | some p=>
   obtain ⟨t,fl⟩:=p
   obtain ⟨h1,hte,oT,ts,hTt,hdT,h3⟩:=hT
   refine wpAny_bind (wpAny_field he hd h1 ?_)
   rw [if_pos (show (Value.ref t != Value.none)=true from by simp)]
   refine wpAny_bind (wpAny_field hTt hdT h3 ?_)
   by_cases hz:(fl == rawInt X.env.locals)=true
   ·rw [if_pos hz]
    have hz':=eq_of_beq hz
    subst hz'
    exact wpAny_pure (h s.heap t I ⟨⟨oe,vs,he,hc,hdx,hd,hsz,h1,hte,oT,ts,hTt,hdT,h3⟩,fe,ft⟩)
   ·rw [if_neg hz]
    refine wpAny_bind (wpAny_setField hTt hdT (Array.getElem?_eq_some_iff.mp h3).1 ?_)
    have oth:∀ c,c≠t→(s.heap.update t (Obj.mapFields (·.setIfInBounds 3 Value.none))).get? c=s.heap.get? c:=fun c hc=>Heap.get?_update_other _ _ (Ne.symm hc)
    have m1:Mv [t] (frs X.stack) s.heap (s.heap.update t (Obj.mapFields (·.setIfInBounds 3 Value.none))):=
     ⟨fun b o n _ q=>(oth b (fun z=>n (by rw [z];exact List.mem_singleton.mpr rfl))).trans q,fun b o n _ q=>⟨o.slots,(oth b (fun z=>n (by rw [z];exact List.mem_singleton.mpr rfl))).trans q⟩⟩
    have I1:=I.mvN m1 fun b hb=>by rw [List.mem_singleton.mp hb];exact ft t fl rfl
    exact fin _ oe vs _ _ I1 (Heap.size_after_update ..) rfl ((oth e (Ne.symm hte)).trans he) hc hdx hd hsz
theorem BR {M:Model} {A:Around} {E:Value→Shared→Prop} {e t:Addr} {C:Value} {dx:Option Addr} {fl:Value} {fr:Option Addr} {Q:Unit→Shared→Prop} (I:Inv X pins σ H s) (f:Fly X pins H e C dx (some (t,fl)) s.heap)
  (h:∀ h',Inv X pins σ H {s with heap:=h'}→Fly X pins H e C dx (some (t,fr.elim .none fun f=>rawInt f)) h'→Q () {s with heap:=h'}):wpAny M A (setFlight (.ref e) fr) Q E s:=by
 refine KQ f.at_ fun h' k x=>h h' (I.mvN (ch:=[t]) ⟨fun b o n _ q=>k b o (fun z=>n (by rw [z];exact List.mem_singleton.mpr rfl)) q,fun b o n _ q=>⟨o.slots,k b o (fun z=>n (by rw [z];exact List.mem_singleton.mpr rfl)) q⟩⟩ fun b hb=>by rw [List.mem_singleton.mp hb];exact f.ft t fl rfl) ⟨x,f.fe,fun t' fl' z=>by cases z;exact f.ft t fl rfl⟩
end
noncomputable abbrev XW:=St→XK
noncomputable def XE (X:Cx) (W:XW) (e:Value) (s:Shared):Prop:=∃ pins x C dx T σ H,e= .ref x∧Inv X pins σ H s∧Fly X pins H x C dx T s.heap∧W σ C dx H
noncomputable def Thr (X:Cx) (W:XW):Prop:=∀ e s,XE X W e s→X.xe e s
noncomputable abbrev Cx.thr (X:Cx) (W:XW):Cx:=X.wish (XE X W)
noncomputable abbrev W0:XW:=fun _ _ _ _=>False
section
variable {X:Cx} {W:XW} {pins:List (Addr×Obj)} {σ:St} {H:Hp} {s:Shared}
theorem Fly.wish {E:Value→Shared→Prop} {e:Addr} {C:Value} {dx:Option Addr} {T:Option (Addr×Value)} {h:Heap} (f:Fly (X.wish E) pins H e C dx T h):Fly X pins H e C dx T h:=⟨f.at_,f.fe,f.ft⟩
theorem dF:Thr (X.thr W) W:=fun e s ⟨pins,x,C,dx,T,σ,H,he,I,f,w⟩=>⟨pins,x,C,dx,T,σ,H,he,I.unwish,f.wish,w⟩
theorem thr0:Thr X W0:=fun e s ⟨pins,x,C,dx,T,σ,H,he,I,f,w⟩=>w.elim
theorem GS (ow:Own X):PassesOwn (model X.prog X.w) X.A X.env (XE X W):=by
 intro e s' ⟨pins,x,C,dx,T,σ,H,he,I,f,w⟩
 subst he
 unfold notedBy
 refine Ed I ow f fun h' t I' f'=>?_
 unfold cameBackBy
 obtain ⟨⟨oe,vs,q1,q2,q3,q4,q5,q6,q7⟩,fe,ft⟩:=id f'
 refine wpAny_bind (wpAny_field q1 q4 q6 ?_)
 rw [if_neg (by simp)]
 refine BR I' f' fun h2 I2 f2=>?_
 rw [ow.2] at f2
 exact ⟨pins,x,C,dx,_,σ,H,rfl,I2,f2,w⟩
theorem DO (ow:Own X):PassesOwn (model X.prog X.w) X.A X.env (X.thr W).xe:=GS ow
theorem PSs.thr {st:List Stmt} {t:TS} (h:PSs (X.thr W) st t) (k:Thr X W):PSs X st t:=fun pins s σ H D I hw=>
 wpAny_mono (h pins s σ H D (I.wish _) hw) (fun _ _ q=>q.unwish) k
end
noncomputable def CX1 (P:Program) (w:World):CXT:=fun outer H s E e s'=>∃ x C dx t H',e= .ref x∧s'.os=s.os∧AllBare s'.gens∧Un (frs outer) [] H H' s.heap s'.heap∧HOk P w H' s'.heap∧
 Iz s'.heap x C dx (some (t,.none))∧s.heap.get? x=none∧s.heap.get? t=none∧H' x=none∧H' t=none∧E C dx H'
section
variable {P:Program} {w:World} {K:PySem.W.Frag} {mg:Str→Option Value} {base:Heap}
theorem FT {N:List Str} {qual:Str} {scope:Scope} {f:Addr} {cd:Value} {A:Around} {outer:List Env} {s:Shared} {H:Hp} {E:XK}:
  Thr (cxOf (CX1 P w) P w K mg base N qual scope f cd A outer s H E) fun _=>E:=by
 intro e s' ⟨pins,x,C,dx,T,σ,H',he,I,f',wq⟩
 subst he
 have own:Own (cxOf (CX1 P w) P w K mg base N qual scope f cd A outer s H E):=⟨rfl,rfl⟩
 show wpAny _ _ (leaving _ _) _ _ _
 unfold leaving
 refine wpAny_bind (Ed I own f' fun h1 t I1 f1=>?_)
 refine BR (fr:=none) I1 f1 fun h2 I2 f2=>?_
 have fx:=f2.fe
 have ft:=f2.ft t _ rfl
 have no:∀ b:Addr,(b∈([]:List Addr)∨s.heap.get? b=none)→s.heap.get? b=none:=fun b z=>z.elim (fun q=>absurd q (by simp)) id
 exact ⟨x,C,dx,t,H',rfl,I2.os,I2.bare,I2.base,I2.hok,f2.at_,no x fx.2.2.2.1,no t ft.2.2.2.1,fx.1,ft.1,wq⟩
theorem Fun.okX {x qual:Str} {st:Stmt} {f:Addr} {fd:FuncData} {N ps:List Str} {k:Nat} {sp:Sp} (F:Fun K x qual st f fd) (S:aC N ps (ah st)) (len:∀ vs H Q E,sp vs H Q E→vs.length=ps.length)
  (hbody:∀ (cdv:Value) (A:Around) (outer:List Env) (s:Shared) (H:Hp) (vs:List V) (Q:VK) (E:XK),Room k (A.deeper (envOfC qual (ah st) s.heap.objs.size f cdv))→sp vs H Q E→
   ∃ t,PSs ((cxOf (CX1 P w) P w K mg base N qual (ah st) f cdv A outer s H E).thr fun _=>E) (ay st) t∧t {nx:=fun _ H'=>Q .non H',rt:=Q} (rJ N vs) H):FnOk P w K mg base (CX1 P w) (k + 1) f fd ps sp:=by
 obtain ⟨oc,od,kV,doc,pm,an,cdv,ct,osl,rfl,lk,hcd⟩:=F.ex
 refine PM lk hcd S len fun A outer s H vs Q E hr hsp=>?_
 obtain ⟨t,h,q⟩:=hbody cdv A outer s H vs Q E hr hsp
 exact ⟨t,h.thr FT,q⟩
end
section
variable {X:Cx} {W:XW} {pins:List (Addr×Obj)} {σ:St} {H:Hp} {s s':Shared}
theorem Inv.afterX {e:Value} (I:Inv X pins σ H s) (hx:Thr X W) (h:CX1 X.prog X.w X.stack H s (W σ) e s'):X.xe e s':=by
 obtain ⟨x,C,dx,t,H',rfl,os,bare,un,hok,ea,zx,zt,nx,nt,w⟩:=h
 refine hx _ _ ⟨pins,x,C,dx,_,σ,H',rfl,I.call' (ch:=[]) os un hok bare (fun b z=>absurd z (by simp)),⟨ea,I.fpN zx nx,fun t' fl z=>?_⟩,w⟩
 cases z
 exact I.fpN zt nt
variable {k:Nat} {f C:Addr} {fd:FuncData} {ps:List Str} {sp:Sp} {dvs:List V} {ds:List Value} {x m:Str} {p pos apos:Pos} {e o:Expr} {es:List Expr} {ta:TE} {t:TA}
theorem Jz {Q:VK} {us:List Value} {vs:List V} (F:FnOk X.prog X.w X.K X.mg X.base (CX1 X.prog X.w) k f fd ps sp) (hr:Room k X.A) (hb:bj X.K fd ps ds) (hd:Vals dvs ds) (hx:Thr X W)
  (I:Inv X pins σ H s) (r:Vals vs us) (h:sp (vs++dvs) H Q (W σ)):wpAny (model X.prog X.w) X.A (call (.ref f) us) (EP X pins σ Q) X.xe s:=by
 have r2:Vals (vs++dvs) (us++ds):=r.append hd
 have hl:(us++ds).length=ps.length:=by rw [← r2.length];exact F.len _ _ _ _ h
 refine wpAny_call (codeAny_mono (F.run X.A X.stack s H ⟨us,[]⟩ (us++ds) (vs++dvs) Q (W σ) hr I.env0 (hb s us I.kIn hl) r2 h) fun r s' hq=>?_)
 cases r with
 | error e=>exact I.afterX hx hq
 | ok fl=>
   cases fl with
   | ret u=>exact I.after hq
   | next=>exact False.elim hq
   | brk=>exact False.elim hq
   | cont=>exact False.elim hq
noncomputable def Je (sp:Sp) (dvs:List V) (W:XW) (t:TA):TE:=fun σ H Q=>t σ H fun vs H1=>sp (vs++dvs) H1 Q (W σ)
theorem OT {σ:St} {H:Hp} {Q:VK} {sp:Sp} {W:XW} {t:TA} (h:t σ H fun vs H1=>sp vs H1 Q (W σ)):Je sp [] W t σ H Q:=by
 unfold Je
 simpa using h
theorem lO (F:FnOk X.prog X.w X.K X.mg X.base (CX1 X.prog X.w) k f fd ps sp) (hr:Room k X.A) (hg:Gl X x) (hm:X.mg x=some (.ref f)) (hk:PySem.W.keepIn X.K (.ref f)=true) (hb:bj X.K fd ps ds) (hd:Vals dvs ds) (hx:Thr X W)
  (ha:PA X (e::es) t) (hdb:(x == ("__debug__":Str))=false:=by decide) (he:starEach (e::es) X.env=(false,eval e X.env)::starEach es X.env:=by rfl) (hpl:(backTo pos (starEach es X.env)).any (·.1)=false:=by rfl):
  PE X (.Call (.Name x p) (e::es) [] pos) (Je sp dvs W t):=by
 intro pins s σ H Q I h
 refine wpAny_Call_Name_kw (p8 I hg hm ?_ hdb)
 refine PySem.W.callWith_K (h₀:=X.base) I.ok.mod.kin hk (thn (ha pos pins s σ H _ I h) fun us s1 ⟨vs,H1,I1,r,q⟩=>⟨I1.kIn,?_⟩) he hpl
 exact Jz F hr hb hd hx I1 r q
noncomputable def Nx (C:Addr) (m:Str) (sp:Sp) (dvs:List V) (W:XW) (ta:TE) (t:TA):TE:=fun σ H Q=>ta σ H fun x H1=>∃ a dx fs,x= .ref a∧H1 a=some (.ins C dx fs)∧fs.lookup m=none∧
 t σ H1 fun vs H2=>sp (x::(vs++dvs)) H2 Q (W σ)
theorem lN {pl:Sem Bool} (he:PE X o ta) (c:Cls X.K C) (hm:Meth X.K C m f) (F:FnOk X.prog X.w X.K X.mg X.base (CX1 X.prog X.w) k f fd ps sp) (hr:Room k X.A) (hb:bj X.K fd ps ds) (hd:Vals dvs ds) (hx:Thr X W) (ha:PA X (e::es) t)
  (hst:starEach (e::es) X.env=(false,eval e X.env)::starEach es X.env:=by rfl) (hpl:(backTo pos (starEach es X.env)).any (·.1)=false:=by rfl)
  (ht:eval (.Call (.Attribute o m apos) (e::es) [] pos) X.env=(do
   let ov ← eval o X.env
   standAt apos.atName
   let (f,first) ← holding [ov] (getMethod ov m pl)
   callWith pos f first (backTo pos (starEach (e::es) X.env)) (backToKw pos (keywordEach [] X.env))):=by rfl):
  PE X (.Call (.Attribute o m apos) (e::es) [] pos) (Nx C m sp dvs W ta t):=by
 intro pins s σ H Q I h
 refine PySem.W.methodCall_KW (pl:=pl) (thn (he pins s σ H _ I h) fun u s1 ⟨x,H1,I1,rx,a,dx,fs,ex,ea,l,q⟩=>?_) ht
 subst ex
 obtain rfl:u=Value.ref a:=rx
 refine qg I1 ea c hm l ?_
 refine PySem.W.callWith_K (first:=[.ref a]) (h₀:=X.base) I.ok.mod.kin hm.kp (thn (ha pos pins s1 σ H1 _ I1 q) fun us s2 ⟨vs,H2,I2,r,q2⟩=>⟨I2.kIn,?_⟩) hst hpl
 exact Jz (us:= .ref a::us) (vs:= .ref a::vs) F hr hb hd hx I2 (.cons rfl r) q2
end
structure XCls (h:Heap) (C:Addr) (bmB:List Value) (newId:String):Prop where
 obj:∃ bm N nm q bs hdct sn sub ab col dd k0 k1 k2 k3 k5 mN,h.get? C=some (excClassObj nm q C N bs bm hdct sn sub ab col dd k0 k1 k2 k3 k5 newId)∧h.Ns N mN∧mN "__init__"=none∧OwnTail h bmB bm
theorem Oi {K:PySem.W.Frag} {h:Heap} {C:Addr} {bmB:List Value} {newId:String} (X:K.In h) (q:PySem.W.excIn K C bmB newId=true):XCls h C bmB newId:=by
 refine ⟨?_⟩
 unfold PySem.W.excIn at q
 split at q
 next dd cd sl ho=>
  split at q
  next C' bm k0 k1 k2 k3 n k5 hm hs=>
   simp only [Bool.and_eq_true,beq_iff_eq,Bool.not_eq_true'] at q
   obtain ⟨⟨⟨⟨⟨e1,e2⟩,hdel⟩,ht⟩,hok⟩,hni⟩:=q
   subst e1 e2
   cases cd with
   | mk nm bs mro ns qn hd sn sub ab col del=>
   have hm:mro=_:=hm
   have hdel:del=false:=hdel
   subst hm hdel
   have hsl:sl=#[k0,k1,k2,k3,some (.builtin n),k5]:=by rw [← hs]
   subst hsl
   exact ⟨bm,ns,nm,qn,bs,hd,sn,sub,ab,col,dd,k0,k1,k2,k3,k5,_,X _ _ ho,.of_isNs (PySem.W.isNs_of_in X hok),PySem.W.nsMap_none_of_in X hok hni,PySem.W.tail_of_in X ht⟩
  next=>cases q
 next=>cases q
section
variable {X:Cx} {W:XW} {C:Addr} {x:Str} {np cpos pos:Pos} {e:Expr} {es:List Expr} {t:TA} {B newId initId:String} {bmB:List Value}
noncomputable def Nw (C:Addr) (W:XW) (t:TA):TS:=fun _ σ H=>t σ H fun vs H1=>vs.length≤sizeLine∧W σ (.ref C) none H1
theorem Po {pins:List (Addr×Obj)} {σ:St} {H:Hp} {s:Shared} {h':Heap} {a:Addr} {vs:List Value} (I:Inv X pins σ H s) (m:Heap.MadeExcOf s.heap h' a (.ref C) vs):
  Inv X pins σ H {s with heap:=h'}∧Fly X pins H a (.ref C) none none h':=by
 obtain ⟨tt,q1,q2,q3⟩:=m.there
 exact ⟨I.mvN (ch:=[]) ⟨fun b o _ _ e=>m.keeps b o e,fun b o _ _ e=>⟨o.slots,m.keeps b o e⟩⟩ fun b z=>absurd z (by simp),⟨⟨_,_,q1,rfl,rfl,rfl,by simp,by simp⟩,I.fpN m.new (I.hok.none_ m.new),fun t fl z=>by cases z⟩⟩
theorem gS (FB:ExcBaseFacts B newId initId bmB) (q:PySem.W.excIn X.K C bmB newId=true) (hx:Thr X W) (hc:X.calm=true) (hg:Gl X x) (hm:X.mg x=some (.ref C)) (ha:PA X (e::es) t)
  (hdb:(x == ("__debug__":Str))=false:=by decide) (he:starEach (e::es) X.env=(false,eval e X.env)::starEach es X.env:=by rfl) (hpl:(backTo cpos (starEach es X.env)).any (·.1)=false:=by rfl):
  PS X (.Raise (some (.Call (.Name x np) (e::es) [] cpos)) none pos) (Nw C W t):=by
 intro pins s σ H D I h
 obtain ⟨tl,N,nm,qn,bs,hdct,sn,sub,ab,col,dd,k0,k1,k2,k3,k5,mN,hC,hN,hni,T⟩:=(Oi I.ok.mod.kin q).obj
 refine wpAny_Raise_call_subT (C:=C) (nm:=nm) (q:=qn) (N:=N) (bs:=bs) (bm:=tl) (hdct:=hdct) (sn:=sn) (sub:=sub) (ab:=ab) (col:=col) (dd:=dd) (k0:=k0) (k1:=k1) (k2:=k2) (k3:=k3) (k5:=k5)
  FB (mN:=mN) (T.hasType FB.hasBase) (I.ok.hd hc) (by rw [he];show (false||(backTo cpos (starEach es X.env)).any (·.1))=false;rw [hpl];rfl) hni (p8 I hg hm ⟨rfl,?_⟩ hdb)
 have ha':=ha cpos pins s σ H _ I h
 rw [he] at ha' ⊢
 refine Calls.evalArgs_plain (wpAny_mono ha' (fun us s2 ⟨vs,H1,I1,r,z,w⟩=>⟨rfl,?_,I1.bk _ _ hC,hN.keeps I1.bk,T.keeps I1.bk,fun h' a m=>?_⟩) fun _ _ y=>y)
 ·show us.length≤_
  rw [← r.length];exact z
 ·obtain ⟨I2,f2⟩:=Po I1 m
  exact hx _ _ ⟨pins,a,.ref C,none,none,σ,H1,rfl,I2,f2,w⟩
end
structure Aq (K:PySem.W.Frag) (G:Addr):Prop where
 ty:PySem.W.typeIn K (.ref G)=some (.type "type")
 cls:PySem.W.isClsIn K G=true
 base:PySem.W.mroIn K G (.type "BaseException")=some true
theorem rg {K:PySem.W.Frag} {M:Model} {h:Heap} {G:Addr} (X:K.In h) (c:PySem.W.isClsIn K G=true):PySem.W.Looks M h (isType (.ref G)) true:=by
 unfold PySem.W.isClsIn PySem.W.clsIn at c
 split at c
 next c' d' cd' sl' ho=>
  intro A' Q' E' s' k q
  unfold isType loadHead
  exact wpAny_bind (wpAny_loadPart (k _ _ (X _ _ ho)) (wpAny_pure q))
 next=>cases c
theorem yb {K:PySem.W.Frag} {M:Model} {A:Around} {E:Value→Shared→Prop} {s:Shared} {a G C:Addr} {oe:Obj} {b:Bool} {Q:Bool→Shared→Prop} (X:K.In s.heap) (c:Aq K G) (he:s.heap.get? a=some oe) (hc:oe.cls= .ref C)
  (hm:PySem.W.mroIn K C (.ref G)=some b) (q:Q b s):wpAny M A (excMatches (.ref a) (.ref G)) Q E s:=by
 unfold excMatches isInstance
 refine wpAny_bind (wpAny_bind ((PySem.W.looks_typeIn X c.ty).here ?_))
 rw [tc_notTuple]
 refine wpAny_pure ?_
 simp only [Bool.false_eq_true,if_false]
 refine wpAny_bind (wpAny_pure ?_)
 simp only [List.forIn_cons,List.forIn_nil]
 unfold isExcClass
 refine wpAny_bind (wpAny_bind (wpAny_bind (wpAny_bind ((rg X c.cls).here ?_))))
 simp only [if_true]
 refine (PySem.W.looks_mroIn X c.base).here ?_
 simp only [Bool.not_true,Bool.false_eq_true,if_false]
 refine wpAny_pure (wpAny_pure ?_)
 have L:PySem.W.Looks M s.heap (typeOf (.ref a)) (.ref C):=hc ▸ (PySem.W.Looks.ld he).andThen .now
 refine wpAny_bind (L.here ?_)
 refine wpAny_bind (wpAny_bind (wpAny_bind ((PySem.W.looks_mroIn X hm).here ?_)))
 cases b<;>simp only [Bool.false_eq_true,if_false,if_true]
 ·exact wpAny_pure (wpAny_pure (wpAny_pure q))
 ·exact wpAny_pure (wpAny_pure (wpAny_pure q))
section
variable {X:Cx} {pins:List (Addr×Obj)} {σ:St} {H:Hp} {s:Shared}
theorem zC {M:Model} {A:Around} {E:Value→Shared→Prop} {i:Nat} {n:Str} {pos:Pos} {Q:Unit→Shared→Prop} (I:Inv X pins σ H s) (hN:X.N.Nodup) (hi:X.N[i]? =some n) (hk:X.env.scope.names.lookup n=some .local)
  (h:∀ s',Inv X pins (σ.set i none) H s'→Q () s'):wpAny M A (do bindName X.env n .none;unbindBehindTheSuite X.env n pos) Q E s:=by
 obtain ⟨m,hn,hl⟩:=id I.loc
 have hcls:(X.env.scope.kind == .class||(X.env.scope.kind == .module&&X.env.locals != X.env.globals))=false:=by rw [I.ok.kind];rfl
 refine wpAny_nameGoes_keeps hk hn hcls fun h' v hn' hs=>h _ ?_
 obtain ⟨oL,_,_,hoL,_⟩:=id hn
 have far:∀ b o,X.s₀.heap.get? b=some o→b≠X.env.locals:=fun b o e=>Nat.ne_of_lt (Nat.lt_of_lt_of_le (Heap.lt_size e) I.ok.above)
 have U:=I.base
 refine ⟨I.ok,I.os,I.bare,⟨fun b o e n hb hx=>(hs.2 b (far b o e)).trans (U.keep b o e n hb hx),fun b o e n hb hx=>?_,U.free,fun b o e hx=>?_,U.tups,U.frzs,U.tbls⟩,⟨_,hn',fun j y v' e1 e2 e3=>?_⟩,fun y c e=>?_,I.free,I.freeC,fun p hp=>?_,fun b ob e=>?_,by simpa using I.len⟩
 ·obtain ⟨sl,e1⟩:=U.slot b o e n hb hx
  exact ⟨sl,(hs.2 b (far b o e)).trans e1⟩
 ·obtain ⟨o',e1⟩:=U.there b o e hx
  exact ⟨o',(hs.2 b (far b o e)).trans e1⟩
 ·by_cases hj:j=i
  ·subst hj
   have hiσ:j < σ.length:=by rw [I.len];exact (List.getElem?_eq_some_iff.mp hi).1
   rw [List.getElem?_set_self hiσ] at e2
   cases e2
  ·rw [List.getElem?_set_ne (Ne.symm hj)] at e2
   obtain ⟨u',r',q⟩:=hl j y v' e1 e2 e3
   refine ⟨u',r',?_⟩
   rcases q with ⟨k,e⟩ | ⟨k,c,e,z⟩
   ·refine .inl ⟨k,?_⟩
    have:y≠n:=fun e=>hj (zd hN e1 (e ▸ hi))
    simp [this,e]
   ·exact .inr ⟨k,c,e,z.sameBut hs (I.cne y c e)⟩
 ·obtain ⟨w',z⟩:=I.cell y c e
  exact ⟨w',z.sameBut hs (I.cne y c e)⟩
 ·obtain ⟨e,n,ne,nf,d⟩:=I.pin p hp
  exact ⟨(hs.2 p.1 ne).trans e,n,ne,nf,d⟩
 ·refine (I.hok b ob e).stay (fun c w' hc q=>(hs.2 c ?_).trans q) (fun _ q=>q) fun _ _ q=>q
  intro z
  subst z
  rcases hc with hc | hc
  ·rw [← hc,I.free] at e;cases e
  ·rw [I.free] at hc;cases hc
theorem Inv.track {x:Addr} {o:HO} (I:Inv X pins σ H s) (f:FpN X pins H x) (new:fm X.prog X.w (upd H x o) s.heap x o):Inv X pins σ (upd H x o) s:=by
 obtain ⟨f0,f1,f2,f3,f4,f5⟩:=f
 have ne:∀ b u,H b=some u→b≠x:=fun b u e z=>by rw [z,f0] at e;cases e
 have old:∀ b u,H b=some u→upd H x o b=some u:=fun b u e=>by rw [aV (ne b u e)];exact e
 have U:=I.base
 refine ⟨I.ok,I.os,I.bare,⟨U.keep,U.slot,fun b ob e n hx=>?_,U.there,fun b xs e=>old b _ (U.tups b xs e),fun b ob u e=>old b _ (U.frzs b ob u e),fun b ps e=>?_⟩,I.loc,I.cell,?_,fun y c e=>?_,fun p hp=>?_,fun b ob e=>?_,I.len⟩
 ·rw [aV (fun z=>?_)]
  ·exact U.free b ob e n hx
  ·subst z
   rcases f3 with y | y
   ·exact hx y
   ·rw [e] at y;cases y
 ·obtain ⟨m,q⟩:=U.tbls b ps e
  exact ⟨m,old b _ q⟩
 ·rw [aV (Ne.symm f1)];exact I.free
 ·rw [aV (f4 y c e)];exact I.freeC y c e
 ·obtain ⟨e,n,r⟩:=I.pin p hp
  exact ⟨e,by rw [aV (f5 p hp)];exact n,r⟩
 ·by_cases z:b=x
  ·subst z
   rw [bo] at e
   cases e
   exact new
  ·rw [aV z] at e
   exact (I.hok b ob e).stay (fun _ _ _ q=>q) (fun c q=>old c _ q) fun c xs q=>old c _ q
end
noncomputable def ExcO (x:Addr) (C:Value) (dx:Option Addr):HO:= .ext fun h=>∃ oe vs,h.get? x=some oe∧oe.cls=C∧oe.dict=dx∧oe.data= .fields vs
theorem PQ {P:Program} {w:World} {H:Hp} {h:Heap} {x:Addr} {C:Value} {dx:Option Addr} {T:Option (Addr×Value)} (e:Iz h x C dx T):fm P w H h x (ExcO x C dx):=by
 obtain ⟨oe,vs,q1,q2,q3,q4,_⟩:=e
 exact ⟨⟨oe,vs,q1,q2,q3,q4⟩,⟨oe,q1⟩,fun h1 h2 ⟨oe,vs,q1,q2,q3,q4⟩ k=>⟨oe,vs,k _ q1,q2,q3,q4⟩⟩
noncomputable abbrev Cx.pin (X:Cx) (pins:List (Addr×Obj)):Cx:={X with pn:=X.pn++pins}
noncomputable abbrev Cx.mark (X:Cx) (pins:List (Addr×Obj)) (e:Value):Cx:={X with A:=X.A.mark (some e),calm:=false,pn:=X.pn++pins,xe:=fun _ _=>False}
section
variable {X:Cx} {pins pins':List (Addr×Obj)} {σ:St} {H:Hp} {s:Shared} {e:Value}
theorem Inv.toPin (I:Inv X pins σ H s):Inv (X.pin pins) [] σ H s:=
 ⟨⟨I.ok.mod,I.ok.kind,I.ok.glob,I.ok.blt,I.ok.above,I.ok.inj,I.ok.has,I.ok.cab,I.ok.hd,I.ok.frames,I.ok.stk,I.ok.exf,I.ok.bs,I.ok.bsz,I.ok.noex,I.ok.exfs,I.ok.funs,I.ok.frf⟩,I.os,I.bare,I.base,I.loc,I.cell,I.free,I.freeC,
   fun p hp=>I.pin p (by simpa using hp),I.hok,I.len⟩
theorem Inv.ofPin (ok:X.Ok) (I:Inv (X.pin pins) pins' σ H s):Inv X pins σ H s:=
 ⟨ok,I.os,I.bare,I.base,I.loc,I.cell,I.free,I.freeC,fun p hp=>I.pin p (List.mem_append_left _ hp),I.hok,I.len⟩
theorem Inv.toMark (I:Inv X pins σ H s):Inv (X.mark pins e) [] σ H s:=
 ⟨⟨I.ok.mod,I.ok.kind,I.ok.glob,I.ok.blt,I.ok.above,I.ok.inj,I.ok.has,I.ok.cab,(fun z=>absurd (show false=true from z) (by decide)),I.ok.frames,I.ok.stk,I.ok.exf,I.ok.bs,I.ok.bsz,I.ok.noex,I.ok.exfs,I.ok.funs,I.ok.frf⟩,I.os,I.bare,I.base,I.loc,I.cell,I.free,I.freeC,
   fun p hp=>I.pin p (by simpa using hp),I.hok,I.len⟩
theorem Inv.ofMark (ok:X.Ok) (I:Inv (X.mark pins e) pins' σ H s):Inv X pins σ H s:=
 ⟨ok,I.os,I.bare,I.base,I.loc,I.cell,I.free,I.freeC,fun p hp=>I.pin p (List.mem_append_left _ hp),I.hok,I.len⟩
theorem FpN.ofPin {b:Addr} (f:FpN (X.pin pins) pins' H b):FpN X pins H b:=⟨f.1,f.2.1,f.2.2.1,f.2.2.2.1,f.2.2.2.2.1,fun p hp=>f.2.2.2.2.2 p (List.mem_append_left _ hp)⟩
theorem Fly.ofPin {x:Addr} {C:Value} {dx:Option Addr} {T:Option (Addr×Value)} {h:Heap} (f:Fly (X.pin pins) pins' H x C dx T h):Fly X pins H x C dx T h:=⟨f.at_,f.fe.ofPin,fun t fl z=>(f.ft t fl z).ofPin⟩
end
noncomputable def Ends.less (D:Ends) (i:Nat):Ends:={nx:=fun σ H=>D.nx (σ.set i none) H,rt:=D.rt,bk:=fun σ H=>D.bk (σ.set i none) H,ct:=fun σ H=>D.ct (σ.set i none) H}
noncomputable def WTry (K:PySem.W.Frag) (G:Addr) (i:Nat) (Wo:XW) (ts:TS) (D:Ends):XW:=fun σ C dx H=>∃ c,C= .ref c∧((PySem.W.mroIn K c (.ref G)=some true∧∀ x,H x=none→ts (D.less i) (σ.set i (some (.ref x))) (upd H x (ExcO x C dx)))∨
 (PySem.W.mroIn K c (.ref G)=some false∧Wo σ C dx H))
noncomputable def tTry (K:PySem.W.Frag) (G:Addr) (i:Nat) (Wo:XW) (tb:XW→TS) (ts:TS):TS:=fun D σ H=>tb (WTry K G i Wo ts D) D σ H
section
variable {X:Cx} {Wo:XW} {G:Addr} {g n:Str} {i:Nat} {gp hp pos:Pos} {b₀:Stmt} {body suite:List Stmt} {tb:XW→TS} {ts:TS}
theorem Ra (ow:Own X) (hx:Thr X Wo) (cg:Aq X.K G) (hg:Gl X g) (hm:X.mg g=some (.ref G)) (hN:X.N.Nodup) (hi:X.N[i]? =some n) (hk:X.env.scope.names.lookup n=some .local)
  (hb:∀ pins W,PSs ((X.pin pins).thr W) body (tb W)) (hs:∀ pins e,PSs (X.mark pins e) (b₀::suite) ts) (hdb:(g == ("__debug__":Str))=false:=by decide):
  PS X (.Try body [.ExceptHandler (some (.Name g gp)) (some n) (b₀::suite) hp] [] [] pos) (tTry X.K G i Wo tb ts):=by
 intro pins s σ H D I h
 have ok:=I.ok
 refine wpAny_Try_except (wpAny_mono (hb pins _ [] s σ H D (I.toPin.wish _) h) (fun fl s1 q=>?_) fun e s1 q=>?_)
 ·have q':=q.unwish
  cases fl with
  | next=>obtain ⟨σ',H',I',z⟩:=q';exact wpAny_pure ⟨σ',H',I'.ofPin ok,z⟩
  | brk=>obtain ⟨σ',H',I',z⟩:=q';exact ⟨σ',H',I'.ofPin ok,z⟩
  | cont=>obtain ⟨σ',H',I',z⟩:=q';exact ⟨σ',H',I'.ofPin ok,z⟩
  | ret u=>obtain ⟨v,σ',H',I',r,z⟩:=q';exact ⟨v,σ',H',I'.ofPin ok,r,z⟩
 ·obtain ⟨pins',x,C,dx,T,σ1,H1,rfl,I1,f1,c,rfl,w⟩:=q
  have J1:=I1.ofPin ok
  have g1:=f1.ofPin
  refine Ed J1 ow g1 fun h2 t J2 g2=>?_
  refine BR (fr:=none) J2 g2 fun h3 J3 g3=>?_
  obtain ⟨⟨oe,vs,he,hc,hdx,hd,hsz,hT⟩,fe,ft⟩:=id g3
  refine wpAny_handleBy_cons (codeAny_handlers_test (p8 (X:=X.mark pins (.ref x)) J3.toMark hg hm ?_ hdb)) (by intro q;cases q)
  rcases w with ⟨hmr,w⟩ | ⟨hmr,w⟩
  ·refine yb J3.kIn cg he hc hmr (codeAny_handlers_suite_as ?_)
   refine BR (fr:=none) J3 g3 fun h4 J4 g4=>?_
   have J5:=J4.track g4.fe (PQ (P:=X.prog) (w:=X.w) (H:=upd H1 x (ExcO x (.ref c) dx)) g4.at_)
   refine yw J5 hN hi (.inl hk) (v:= .ref x) rfl (fun s6 J6=>?_) (.inr hk)
   refine wpAny_mono (hs pins (.ref x) [] s6 _ _ _ J6.toMark (w x g4.fe.1)) (fun fl s7 q=>?_) fun _ _ z=>False.elim z
   cases fl with
   | next=>obtain ⟨σ',H',I',z⟩:=q;exact zC (I'.ofMark ok) hN hi hk fun s8 I8=>⟨_,H',I8,z⟩
   | brk=>obtain ⟨σ',H',I',z⟩:=q;exact zC (I'.ofMark ok) hN hi hk fun s8 I8=>⟨_,H',I8,z⟩
   | cont=>obtain ⟨σ',H',I',z⟩:=q;exact zC (I'.ofMark ok) hN hi hk fun s8 I8=>⟨_,H',I8,z⟩
   | ret u=>obtain ⟨v,σ',H',I',r,z⟩:=q;exact zC (I'.ofMark ok) hN hi hk fun s8 I8=>⟨v,_,H',I8,r,z⟩
  ·refine yb J3.kIn cg he hc hmr (wpAny_handleBy_nil ?_)
   unfold PySem.passOn
   refine wpAny_bind (wpAny_field he hd hT.1 ?_)
   rw [if_neg (by simp)]
   refine wpAny_bind (BR J3 g3 fun h4 J4 g4=>?_)
   exact wpAny_throw (hx _ _ ⟨pins,x,.ref c,dx,_,σ1,H1,rfl,J4,g4,w⟩)
end
structure XIsi (K:PySem.W.Frag) (D:Addr):Prop where
 cls:PySem.W.isClsIn K D=true
 ga:PySem.W.findIn K (.ref D) "__getattribute__"=some (some (.builtin "BaseException.__getattribute__"))
 gr:PySem.W.findIn K (.ref D) "__getattr__"=some none
 ha:PySem.W.findIn K (.ref D) "__class__"=some (some (.builtin "object.__class__"))
 hn:PySem.W.specialIn K (.builtin "object.__class__") "__get__"=some (some (.builtin "getset_descriptor.__get__"))
 tk:PySem.W.takesIn K (.builtin "object.__class__")=some true
 hm:PySem.W.mroIn K D (.type "object")=some true
 base:PySem.W.mroIn K D (.type "BaseException")=some true
section
variable {prog:Program} {w:World} {A:Around} {E:Value→Shared→Prop} {s:Shared} {K:PySem.W.Frag} {x D:Addr} {ox:Obj} {odo:Option Obj} {name:Str}
theorem Sw {a g:Value} {od:Option Obj} (hc:(PySem.W.clsIn K D).isSome=true) (ha:PySem.W.findIn K (.ref D) name=some (some a)) (hg:PySem.W.specialIn K a "__get__"=some (some g)) (ht:PySem.W.takesIn K a=some true):PySem.W.findObj K D od name=some (.bind g a):=by
 obtain ⟨cd,hc⟩:=Option.isSome_iff_exists.mp hc
 unfold PySem.W.findObj
 rw [hc,Option.bind_some,ha,Option.bind_some]
 simp [hg,ht]
theorem xget {g a:Value} {Q:Option Value→Shared→Prop} (X:K.In s.heap) (c:XIsi K D) (I:PySem.W.InstAt s.heap x ox D odo) (hf:PySem.W.findObj K D odo name=some (.bind g a)) (hgn:∀ id,g= .builtin id→True)
  (h:∀ A':Around,wpAny (model prog w) A' (call g [a,.ref x,.ref D]) (fun v s'=>handedOut v=pure v∧Q (some v) s') (fun _ _=>False) {s with toks:=s.toks + 1}):
  wpAny (model prog w) A (getAttr? (.ref x) name) Q E s:=by
 obtain ⟨hh,gg,d,t,os⟩:=s
 have L0:=I.type (M:=model prog w)
 have L1:=PySem.W.looks_findIn (M:=model prog w) X c.ga
 have L2:=PySem.W.looks_findIn (M:=model prog w) X c.gr
 have L3:=PySem.W.looks_find (M:=model prog w) X I hf
 have LI:PySem.W.Looks (model prog w) hh (isInstance (.ref x) (.type "BaseException")) true:=L0.andThen (PySem.W.looks_mroIn X c.base)
 unfold getAttr? getAttrBy? getAttrBy
 refine wpAny_bind (wpAny_mkText (wpAny_bind (wpAny_attempt (wpAny_holding (wpAny_bind (L0.at (wpAny_bind (L1.at ?_))))))))
 dsimp only
 have hx2:(Value.builtin "BaseException.__getattribute__" == Value.builtin "object.__getattribute__")=false:=by decide +kernel
 rw [if_neg (by rw [hx2,Bool.and_false];exact Bool.false_ne_true)]
 unfold getAttrByItsOwn hookBefore
 rw [if_pos (by rfl)]
 refine wpAny_bind (L2.at (wpAny_bind (wpAny_attempt (wpAny_holding ?_))))
 unfold callGetattribute
 rw [if_neg (by simp)]
 unfold boundAndCalled
 refine wpAny_bind (wpAny_of_eq (F.attr_ValueError.ga.bind _) ?_)
 have hk:builtinKind "BaseException.__getattribute__"=some .slot:=by decide +kernel
 have hsplit:splitId "BaseException.__getattribute__"=some ("BaseException","__getattribute__"):=by decide +kernel
 have pl:=F.attr_ValueError.ga.plain
 have en:=F.entry_bexc_ga
 show wpAny _ _ (call (.builtin "BaseException.__getattribute__") [.ref x,.str name t]) _ _ _
 refine wpAny_call (codeAny_call_builtin pl en ?_)
 have ag:=F.args_bexc_ga (.ref x) (.str name t)
 generalize hgid:"BaseException.__getattribute__"=id0 at hk hsplit ag ⊢
 refine PySem.W.check_slot (self:= .ref x) (rest:=[.str name t]) (kw:=[]) hk hsplit LI ag ?_
 unfold Builtin.«object.__getattribute__»
 refine wpAny_bind (wpAny_of_eq (a:=(Value.ref x,[Value.str name t])) rfl ?_)
 dsimp only
 refine wpAny_bind (wpAny_of_eq (a:=name) rfl ?_)
 refine wpAny_bind (L0.at (wpAny_bind (L3.at ?_)))
 show wpAny _ _ (holding [a] (call g [a,.ref x,.ref D]) >>=ret) _ _ _
 refine wpAny_bind (wpAny_holding (wpAny_mono (h _) (fun v s' ⟨z,q⟩=>wpAny_pure ?_) fun _ _ z=>z.elim))
 show wpAny _ _ (handedOut v) _ _ _
 rw [z]
 exact wpAny_pure (wpAny_pure q)
theorem xkit {C:Addr} {dx:Option Addr} (c:XIsi K C):PySem.W.KitX K (.ref x) (.ref C) (fun h=>∃ ox vs,h.get? x=some ox∧ox.cls= .ref C∧ox.dict=none∧ox.data= .fields vs) where
 ty:=fun _ _ _ ⟨ox,vs,h1,h2,_⟩=>h2 ▸ (PySem.W.Looks.ld h1).andThen .now
 it:=fun _ _ X _=>rg X c.cls
 ne:=fun h tp dd its n sl X htp=>by
  refine Bool.eq_false_iff.mpr fun q=>?_
  have e:C=tp:=Value.ref.inj (beq_iff_eq.mp q)
  subst e
  have z:=c.cls
  unfold PySem.W.isClsIn PySem.W.clsIn at z
  split at z
  next ho=>have y:=(X _ _ ho).symm.trans htp;cases y
  next=>cases z
 ca:=fun {prog w A E Q s} X ⟨ox,vs,h1,h2,h3,h4⟩ k=>by
  have I:PySem.W.InstAt s.heap x ox C none:=⟨h1,h2,by unfold PySem.W.notCls;rw [h4],by rw [h3];trivial⟩
  refine xget X c I (Sw c.cls c.ha c.hn c.tk) (fun _ _=>trivial) fun A'=>?_
  exact wpAny_call (PySem.W.class_get (s:={s with toks:=s.toks + 1}) (ox:=ox) (od:=none) X I c.hm ⟨rfl,k⟩)
end
noncomputable def dV:V→Value
 | .ref a=> .ref a
 | .ty n=> .type n
 | _=> .none
theorem RW {u:V} {v:Value} (a:RelV u v) (b:RelV u (dV u)):v=dV u:=by
 cases u with
 | ref x=>exact a
 | ty n=>exact a
 | non=>exact a
 | bl x=>exact absurd b (fun z=>by cases z)
 | int i=>exact absurd b (fun ⟨_,z⟩=>by cases z)
 | str i=>exact absurd b (fun ⟨_,z⟩=>by cases z)
 | byt i=>exact absurd b (fun ⟨_,z⟩=>by cases z)
 | flt i=>exact absurd b (fun ⟨_,z⟩=>by cases z)
noncomputable def Q5 (K:PySem.W.Frag):List V→Hp→VK→Prop:=fun xs H Q=>∃ p C u b,xs=[.ref p,u]∧RelV u (dV u)∧H p=some (ExcO p (.ref C) none)∧XIsi K C∧PySem.W.kitOne K (.ref C) (dV u)=some b∧Q (.bl b) H
theorem NF {K:PySem.W.Frag} {p C:Addr} {u:V} {b:Bool} {H:Hp} {Q:VK} (e:H p=some (ExcO p (.ref C) none)) (c:XIsi K C) (r:RelV u (dV u)) (k:PySem.W.kitOne K (.ref C) (dV u)=some b) (h:Q (.bl b) H):Q5 K [.ref p,u] H Q:=⟨p,C,u,b,rfl,r,e,c,k,h⟩
theorem Cr {X:Cx} {K:PySem.W.Frag} (h:X.K=K):mi X (.builtin "isinstance") (Q5 K):=by
 subst h
 intro pins s σ H xs us Q I r h
 obtain ⟨p,C,u',b,rfl,rD,hp,c,hk,q⟩:=h
 obtain ⟨u,v,rfl,rx,rt⟩:=LL r
 cases rx
 obtain ⟨⟨oe,vs,q1,q2,q3,q4⟩,_⟩:=I.hok p _ hp
 have e:=RW rt rD
 subst e
 exact PySem.W.kia_one (xkit (dx:=none) c) I.kIn ⟨oe,vs,q1,q2,q3,q4⟩ hk (fun z=>nomatch z) fun tk=>⟨.bl b,H,I.tok tk,rfl,q⟩
section
variable {σ:St} {H:Hp} {Q:VK} {D:Ends} {W:XW} {t:TA}
theorem OI {C:Addr} (h:t σ H fun vs H1=>vs.length≤sizeLine∧W σ (.ref C) none H1):Nw C W t D σ H:=h
theorem SJ {K:PySem.W.Frag} {G:Addr} {i:Nat} {Wo:XW} {tb:XW→TS} {ts:TS} (h:tb (WTry K G i Wo ts D) D σ H):tTry K G i Wo tb ts D σ H:=h
theorem Mg {K:PySem.W.Frag} {G c:Addr} {i:Nat} {Wo:XW} {ts:TS} {dx:Option Addr} (m:PySem.W.mroIn K c (.ref G)=some true) (h:∀ x H',H x=none→Upd H H' x (ExcO x (.ref c) dx)→ts (D.less i) (σ.set i (some (.ref x))) H'):WTry K G i Wo ts D σ (.ref c) dx H:=
 ⟨c,rfl,.inl ⟨m,fun x n=>h x _ n Upd.of⟩⟩
theorem QL {i:Nat} (h:D.nx (σ.set i none) H):(D.less i).nx σ H:=h
end
theorem DL {X:Cx} {K:PySem.W.Frag} {es:List Expr} {k:Nat} {t:TGs} {n:Nat} {pos:Pos} (h:X.K=K) (hc:X.calm=true) (ht:PGs X es t)
  (hn:(assignEach es X.env).length=n:=by rfl) (hst:(assignEach es X.env).findIdx? (·.1)=none:=by rfl):PG X (.Tuple es k pos) (gTup K n t):=by subst h;exact t4 hc ht hn hst
theorem OW {k:Key} {v:Value} (h:BE k v=true):RelV (kV k) v:=by
 rcases cD h with ⟨i,t,rfl,rfl⟩ | ⟨x,t,rfl,rfl⟩
 ·exact ⟨t,rfl⟩
 ·exact ⟨t,rfl⟩
theorem AV {α β:Type} {F:α→β→Prop}:∀ {l:List α} {m:List β},l.length=m.length→(∀ (i:Nat) (a:α) (b:β),l[i]? =some a→m[i]? =some b→F a b)→Paired F l m
 | [],[],_,_=> .nil
 | a::l,b::m,hl,h=> .cons (h 0 a b rfl rfl) (AV (by simpa using hl) fun i x y hx hy=>h (i + 1) x y (by simpa using hx) (by simpa using hy))
 | [],_::_,hl,_=>by simp at hl
 | _::_,[],hl,_=>by simp at hl
section
variable {σ:St} {H:Hp} {Q:VK} {D:Ends} {te ty tv td:TE} {x y v:V}
noncomputable def Sl (y:V) (Q:VK) (x:V) (H:Hp):Prop:=∃ a o,x= .ref a∧DGet H a y o∧Q (.bl o.isSome) H
theorem SX (h:ty σ H fun y H1=>td σ H1 (Sl y Q)):tDIn ty td σ H Q:=h
theorem QV {p:Addr} {kvs:List (Key×V)} {z:Int} (e:H p=some (.dK kvs)) (h:Q (.bl (valV kvs (Sum.inl z)).isSome) H):Sl (.int z) Q (.ref p) H:=⟨p,_,rfl,DGet.k (k:=Sum.inl z) e,h⟩
theorem OS {l:Addr} {xs:List V} (e:H l=some (.lst xs)) (h:∀ H2,Upd H H2 l (.lst [])→Q .non H2):NJ (.ref l) [] H Q:=⟨l,xs,rfl,rfl,e,h _ Upd.of⟩
theorem we {l b:Addr} {xs zs:List V} (e:H l=some (.lst xs)) (e':H b=some (.lst zs)) (hz:xs.length + zs.length≤sizeLine) (h:∀ p H2,H p=none→Same H H2→H2 p=some (.lst (xs++zs))→Q (.ref p) H2):rCat (.ref l) (.ref b) H Q:=⟨l,b,xs,zs,rfl,rfl,e,e',hz,mJ h⟩
end
theorem FX:∀ {ns:List Int} {us:List Value},Vals (ns.map V.int) us→IntsAre us ns
 | [],us,r=>by cases r;exact .nil
 | n::ns,us,r=>by
   rw [List.map_cons] at r
   cases r with
   | cons h t=>obtain ⟨t',rfl⟩:=h;exact .cons _ _ (FX t)
theorem Kz:∀ {ns:List Int} {us:List Value},IntsAre us ns→Vals (ns.map V.int) us:=tq
section
variable {prog:Program} {w:World} {A:Around} {E:Value→Shared→Prop} {s:Shared} {d:Addr} {vs:List (Key×Value)} {ep:Nat}
theorem GP:plainId "list.__iadd__"=true:=by decide +kernel
theorem Ck {Q:List Value→Shared→Prop} (hh:A.handled=none) (lo:(d == sysModules)=false) (hat:s.heap.DictAt (dA prog w) d vs ep) (hn:vs.length≤sizeLine)
  (h:∀ h' tk (acc:Array Value),(∀ b o,s.heap.get? b=some o→h'.get? b=some o)→s.heap.objs.size < h'.objs.size→ItemsOf (fun i v=>∃ k x,vs[i]? =some (k,x)∧(dA prog w).is k v=true) acc vs.length→Q acc.toList {s with heap:=h',toks:=tk}):
  wpAny (model prog w) A (collect (.ref d)) Q E s:=by
 unfold collect
 refine wpAny_bind (wpAny_runValue (codeAny_builtin entry_proto_collect' ?_))
 show wpAny _ _ (do again (.builtin "list.__iadd__" ⟨[← newList [],.ref d],[]⟩)) _ _ s
 refine wpAny_bind (wpAny_newList (wpAny_pure ⟨Code.quiet_builtin _ (by decide +kernel),codeAny_builtin entry_list_iadd' ?_⟩))
 rw [Around.under_plainId GP _]
 show wpAny _ _ (Builtin.List.listExtendWith (.ref s.heap.objs.size) (.ref d) (.ref s.heap.objs.size)) _ _ {s with heap:=s.heap.push (seqObj "list" #[] 0)}
 have hlt:=hat.lt_size
 refine PySem.W.kdl_extend (R:=fun r s'=>match r with
   | Except.ok (Flow.ret v)=>wpAny (model prog w) A (match v with
     | Value.ref a=>do
       let o ← load a
       match o.data with
       | .seq xs _=>pure xs.toList
       | _=>unsupported "internal:collect"
     | _=>unsupported "internal:collect") Q E s'
   | Except.ok _=>False
   | Except.error e=>E e s') (s:={s with heap:=s.heap.push (seqObj "list" #[] 0)}) (PySem.W.kdl_dict (knd:=dA prog w) (kvs:=vs) (ep:=ep) lo) hh (hat.push _) s.heap.objs.size (Nat.ne_of_gt hlt) (Nat.ne_of_gt hlt) _ 0 (Heap.get?_push_size _ rfl) (fun h' tk acc' c' hk hS hacc=>?_) hn
 show wpAny (model prog w) A (do
   let o ← load s.heap.objs.size
   match o.data with
   | .seq xs _=>pure xs.toList
   | _=>unsupported "internal:collect") Q E {s with heap:=h',toks:=tk}
 refine wpAny_bind (wpAny_load hS ?_)
 exact wpAny_pure (h h' tk acc' (fun b o e=>hk b o (Nat.ne_of_lt (Heap.lt_size e)) (Heap.get?_push_of_some _ e)) (Heap.lt_size hS) hacc)
theorem Dk {Q:Value→Shared→Prop} {ks:List Int} (hh:A.handled=none) (lo:(d == sysModules)=false) (hat:s.heap.DictAt (dA prog w) d vs ep) (hn:vs.length≤sizeLine) (hk:vs.map (·.1)=ks.map Sum.inl) (h64:vs.length < 64)
  (h:∀ h' tk a (out:Array Value) (e:Nat) (ns':List Int),(∀ b o,s.heap.get? b=some o→h'.get? b=some o)→s.heap.objs.size≤a→h'.get? a=some (seqObj "list" out e)→IntsAre out.toList ns'→ns'.Perm ks→ns'.Pairwise (·≤·)→Q (.ref a) {s with heap:=h',toks:=tk}):
  wpAny (model prog w) A (call (.builtin "sorted") [.ref d]) Q E s:=by
 refine Calls.call_function_entry kind_sorted plain_sorted entry_sorted (args_sorted1 _) ?_
 unfold Builtin.«sorted»
 refine wpAny_bind (m:=checkCount "sorted" 1 1 _) (wpAny_pure ?_)
 refine wpAny_bind (Ck (by exact hh) lo hat hn fun h' tk acc hk' hsz hacc=>?_)
 have hlen:(ks.map V.int).length=acc.toList.length:=by
  have e1:=congrArg List.length hk
  rw [List.length_map,List.length_map] at e1
  have e2:acc.toList.length=vs.length:=by rw [Array.length_toList];exact hacc.1
  rw [List.length_map];omega
 have hI:IntsAre acc.toList ks:=by
  refine FX (AV hlen fun i a b ha hb=>?_)
  rw [List.getElem?_map] at ha
  obtain ⟨k,hki,rfl⟩:=Option.map_eq_some_iff.mp ha
  rw [Array.getElem?_toList] at hb
  obtain ⟨k',x,hx,hki'⟩:=hacc.2 i b hb
  have e1:(vs.map (·.1))[i]? =some k':=by rw [List.getElem?_map,hx];rfl
  rw [hk,List.getElem?_map,hki] at e1
  have e1:=Option.some.inj e1
  subst e1
  exact OW (show BE (Sum.inl k) b=true from hki')
 have hal:acc.toList.length < 64:=by rw [Array.length_toList,hacc.1];exact h64
 refine wpAny_bind (wpAny_newList ?_)
 have hoL:(h'.push (seqObj "list" acc.toList.toArray 0)).get? h'.objs.size=some (seqObj "list" acc.toList.toArray 0):=Heap.get?_push_size _ rfl
 show wpAny _ _ _ _ _ {s with heap:=h'.push (seqObj "list" acc.toList.toArray 0),toks:=tk}
 refine wpAny_bind (wpAny_holding (wpAny_call_entry slot_list_sort ⟨_,hoL,rfl⟩ entry_list_sort (list_sort_tree hoL hI hal fun out ns' a1 a2 a3=>⟨_,rfl,?_⟩) (args_list_sort _)))
 obtain ⟨e,he⟩:=sortedHeap_at (out:=out) hoL
 refine wpAny_pure ⟨_,rfl,h _ tk h'.objs.size out e ns' (fun b o hb=>?_) ?_ he a1 a2 a3⟩
 ·have hlt:=Heap.lt_size (hk' b o hb)
  rw [sortedHeap_old (Nat.ne_of_lt hlt) (by rw [size_push'];exact Nat.lt_succ_of_lt hlt)]
  exact Heap.get?_push_of_some _ (hk' b o hb)
 ·exact Nat.le_of_lt hsz
end
noncomputable def NI:List V→Hp→VK→Prop:=fun xs H Q=>∃ (p:Addr) (ks:List Int) (kvs:List (Key×V)),xs=[.ref p]∧H p=some (.dK kvs)∧kvs.map (·.1)=ks.map Sum.inl∧kvs.length < 64∧
 ∀ (l:Addr) (ns:List Int),H l=none→ns.Perm ks→ns.Pairwise (·≤·)→Q (.ref l) (upd H l (.lst (ns.map V.int)))
theorem HU {X:Cx} (hc:X.calm=true):mi X (.builtin "sorted") NI:=by
 intro pins s σ H xs us Q I r h
 obtain ⟨p,ks,kvs,rfl,hp,hk,h64,q⟩:=h
 obtain ⟨u,rfl,rx⟩:=IW r
 cases rx
 obtain ⟨hz,lo,vs,rel,dd⟩:=RT I.hok hp
 obtain ⟨ep,hat⟩:=dd.dictAt
 refine Dk (ks:=ks) (I.ok.hd hc) lo hat (by rw [← rel.length];exact hz) (by rw [← rel.keys];exact hk) (by rw [← rel.length];exact h64) fun h' tk a out e ns' kp ha he hi hpm hpw=>?_
 have rv:=Kz hi
 have hl:(ns'.map V.int).length≤sizeLine:=by
  have e1:=congrArg List.length hk
  rw [List.length_map,List.length_map] at e1
  rw [List.length_map,hpm.length_eq,← e1]
  exact hz
 refine ⟨.ref a,_,I.laid (t':=tk) kp ha (show fm X.prog X.w _ h' _ (.lst (ns'.map V.int)) from ⟨hl,out.toList,e,rv,by simpa using he⟩),rfl,q _ ns' (I.hok.fresh ha) hpm hpw⟩
section
variable {H:Hp} {Q:VK}
theorem OG {p:Addr} {kvs:List (Key×V)} {ks:List Int} (e:H p=some (.dK kvs)) (hk:kvs.map (·.1)=ks.map Sum.inl) (h64:kvs.length < 64) (h:∀ (l:Addr) (ns:List Int) (H2:Hp),H l=none→Same H H2→H2 l=some (.lst (ns.map V.int))→ns.Perm ks→ns.Pairwise (·≤·)→Q (.ref l) H2):NI [.ref p] H Q:=
 ⟨p,ks,kvs,rfl,e,hk,h64,fun l ns hl hp hw=>h l ns _ hl (fQ hl) bo hp hw⟩
end
open AutoSeq1 (wpAny_loadPart')
section
variable {prog:Program} {w:World} {A:Around} {E:Value→Shared→Prop} {s:Shared}
theorem pV {it t:Addr} {i:Nat} {items:Array Value} {x:Value} {Q:Value→Shared→Prop} (hit:s.heap.IsTupleIter it t i) (ht:s.heap.IsTuple t items) (hx:items[i]? =some x)
  (hQ:∀ h',h'.IsTupleIter it t (i + 1)→Heap.SameBut it s.heap h'→Q x {s with heap:=h'}):
  wpAny (model prog w) A (Builtin.SmallTypes.nextOf (.ref it)) Q E s:=by
 obtain ⟨o,ho,hc,hd⟩:=id hit
 obtain ⟨ol,hol,_,nl,hdl⟩:=ht
 unfold Builtin.SmallTypes.nextOf
 refine wpAny_bind (wpAny_callSpecial?_slot (name:=Str.ofString "__next__") hit.typeIs F.slot_tuple_iterator_next
  (wpAny_call_entry F.slot_tuple_iterator_next hit.typeIs F.entry_tuple_iterator_next ?_ (F.args_tuple_iterator_next_1 _)))
 show wpAny _ _ (field (.ref it) 0 >>=_) _ _ s
 refine wpAny_bind (wpAny_field ho hd (x:= .ref t) rfl ?_)
 show wpAny _ _ (if (Value.ref t == Value.none)=true then _ else _) _ _ s
 rw [if_neg (show ¬ ((Value.ref t == Value.none)=true) from Bool.false_ne_true)]
 show wpAny _ _ (field (.ref it) 1 >>=_) _ _ s
 refine wpAny_bind (wpAny_field ho hd (x:= .int i 0) rfl ?_)
 show wpAny _ _ (seqItems? (.ref t) >>=_) _ _ s
 refine wpAny_bind (wpAny_seqItems hol hdl ?_)
 simp only [Int.toNat_natCast,hx]
 refine wpAny_bind (wpAny_setField ho hd (by simp) (wpAny_pure ⟨x,rfl,wpAny_pure (hQ _ ?_ (Heap.SameBut.update ..))⟩))
 exact ⟨_,Heap.get?_update_self _ ho (Obj.isFreed_of_fields (Obj.data_mapFields hd _)),(Obj.cls_mapFields ..).trans hc,by
  rw [Obj.data_mapFields hd];simp [rawInt]⟩
theorem rX {it t:Addr} {i:Nat} {items:Array Value} {Q:Value→Shared→Prop} (hh:A.handled=none) (hit:s.heap.IsTupleIter it t i) (ht:s.heap.IsTuple t items) (hx:items[i]? =none)
  (hE:∀ h' e,Heap.ExtBut it s.heap h'→(∃ o,h'.get? e=some o∧o.cls= .type "StopIteration")→E (.ref e) {s with heap:=h'}):
  wpAny (model prog w) A (Builtin.SmallTypes.nextOf (.ref it)) Q E s:=by
 obtain ⟨o,ho,hc,hd⟩:=id hit
 obtain ⟨ol,hol,_,nl,hdl⟩:=ht
 unfold Builtin.SmallTypes.nextOf
 refine wpAny_bind (wpAny_callSpecial?_slot (name:=Str.ofString "__next__") hit.typeIs F.slot_tuple_iterator_next
  (wpAny_call_entry F.slot_tuple_iterator_next hit.typeIs F.entry_tuple_iterator_next ?_ (F.args_tuple_iterator_next_1 _)))
 show wpAny _ _ (field (.ref it) 0 >>=_) _ _ s
 refine wpAny_bind (wpAny_field ho hd (x:= .ref t) rfl ?_)
 show wpAny _ _ (if (Value.ref t == Value.none)=true then _ else _) _ _ s
 rw [if_neg (show ¬ ((Value.ref t == Value.none)=true) from Bool.false_ne_true)]
 show wpAny _ _ (field (.ref it) 1 >>=_) _ _ s
 refine wpAny_bind (wpAny_field ho hd (x:= .int i 0) rfl ?_)
 show wpAny _ _ (seqItems? (.ref t) >>=_) _ _ s
 refine wpAny_bind (wpAny_seqItems hol hdl ?_)
 simp only [Int.toNat_natCast,hx]
 refine wpAny_bind (wpAny_rule (wpAny_bind (wpAny_setField ho hd (by simp) ?_)))
 show wpAny _ _ (newExc (.type "StopIteration") [] >>=_) _ _ _
 refine wpAny_bind ?_
 simp only [newExc,newTuple]
 refine wpAny_bind (wpAny_newObj_type ?_ (by size_fits))
 refine wpAny_bind (m:=firstArgMember _ _) (wpAny_of_eq (a:=Value.none) (by first | rfl | (simp only [firstArgMember];rfl)) ?_)
 refine wpAny_newObj_type ?_ (by size_fits)
 simp only [raiseNew]
 refine wpAny_bind (wpAny_handled ?_)
 first | rw [show A.in1.handled=none from hh] | rw [hh]
 refine wpAny_bind (wpAny_pure (wpAny_throw ?_))
 exact hE _ _ (((Heap.SameBut.update ..).extBut.push _).push _) ⟨_,Heap.get?_push_size _ rfl,rfl⟩
end
theorem Draws.tuple {prog:Program} {w:World} {A:Around} (hh:A.handled=none) (it l:Addr) (hne:l≠it) (items:Array Value):
  Draws prog w A it [it,l] items.size (fun i v=>items[i]? =some v) (fun i h=>h.IsTupleIter it l i∧h.IsTuple l items) where
 live:=fun _ _ st=>let ⟨o,ho,_⟩:=st.1;⟨o,ho⟩
 frame:=fun _ _ _ st hk=>⟨let ⟨o,ho,r⟩:=st.1;⟨o,hk it (by simp) o ho,r⟩,let ⟨o,ho,r⟩:=st.2;⟨o,hk l (by simp) o ho,r⟩⟩
 item:=fun i s Q E hi st hQ=>by
  refine pV st.1 st.2 (x:=items[i]) (by simp [hi]) fun h' hit' hs'=>?_
  exact hQ _ h' s.toks (by simp [hi]) ⟨hit',st.2.extBut hs'.extBut hne⟩ hs'
 done:=fun s Q E st hE=>rX hh st.1 st.2 (by simp) hE
theorem mf (l:Addr) (items:Array Value) (n:Nat) (dct:Option Addr) (sl:Array (Option Value)):
  Meets (Builtin.«enumerate.__new__» ⟨[.type "enumerate",.ref l],[]⟩) (fun _ R s=>s.heap.get? l=some {cls:= .type "tuple",dict:=dct,data:= .seq items n,slots:=sl}∧
   R (.ok (.ret (.ref (s.heap.push {cls:= .type "tuple_iterator",data:= .fields #[.ref l,.int 0 0]}).objs.size)))
     {s with heap:=(s.heap.push {cls:= .type "tuple_iterator",data:= .fields #[.ref l,.int 0 0]}).push {cls:= .type "enumerate",data:= .fields #[.none,.bool false,.ref s.heap.objs.size,rawInt 0,.none,.none]}}):=
 .of_wp fun prog w A R s h=>by
  obtain ⟨hp,g,d,tk,os⟩:=s;obtain ⟨hl,h⟩:=h
  have hsub:=sub_enumerate
  have hL:Heap.IsTuple (Shared.heap ⟨hp,g,d,tk,os⟩) l items:=⟨_,hl,rfl,n,rfl⟩
  wp_walk using wpAny_loadPart' hl
  refine wpAny_stack_any fun st=>wpAny_pure ?_
  split
  ·rename_i c _ _ _ _ _
   cases (c == Value.type "enumerate")
   ·wp_walk using wpAny_loadPart' hl,wpAny_pyIter_tuple hL
    exact ⟨_,rfl,h⟩
   ·wp_walk using wpAny_loadPart' hl,wpAny_pyIter_tuple hL
    exact ⟨_,rfl,h⟩
  ·wp_walk using wpAny_loadPart' hl,wpAny_pyIter_tuple hL
   exact ⟨_,rfl,h⟩
theorem mh {prog:Program} {w:World} {A:Around} {E:Value→Shared→Prop} {s:Shared} {l:Addr} {items:Array Value} {Q:Value→Shared→Prop} (hL:s.heap.IsTuple l items)
  (h:∀ h',IsEnum h' (s.heap.objs.size + 1) s.heap.objs.size 0 .none→h'.IsTupleIter s.heap.objs.size l 0→h'.objs.size=s.heap.objs.size + 2→
   (∀ b o,s.heap.get? b=some o→h'.get? b=some o)→Q (.ref (s.heap.objs.size + 1)) {s with heap:=h'}):
  wpAny (model prog w) A (call (.type "enumerate") [.ref l]) Q E s:=by
 obtain ⟨⟨c,dct,dt,sl⟩,hl,hc,n,hd⟩:=hL
 replace hc:c= .type "tuple":=hc
 replace hd:dt= .seq items n:=hd
 subst hc hd
 refine callType_new F.called_enumerate (by decide) (F.typeCall_enumerate_1 _) (F.newCall_enumerate_1 _) (fun obj=>F.args_object_init_2 obj _) F.entry_enumerate_new
  (mf l items n dct sl) ⟨hl,?_⟩
 have hz:(s.heap.push {cls:= .type "tuple_iterator",data:= .fields #[.ref l,.int 0 0]}).objs.size=s.heap.objs.size + 1:=Heap.size_push ..
 show _∧_
 rw [hz]
 have he:IsEnum ((s.heap.push {cls:= .type "tuple_iterator",data:= .fields #[.ref l,.int 0 0]}).push
   {cls:= .type "enumerate",data:= .fields #[.none,.bool false,.ref s.heap.objs.size,rawInt 0,.none,.none]}) (s.heap.objs.size + 1) s.heap.objs.size 0 .none:=by
  have:=Heap.get?_push_size (s.heap.push {cls:= .type "tuple_iterator",data:= .fields #[.ref l,.int 0 0]})
   (o:={cls:= .type "enumerate",data:= .fields #[.none,.bool false,.ref s.heap.objs.size,rawInt 0,.none,.none]}) rfl
  rw [hz] at this;exact this
 refine ⟨⟨_,he,rfl⟩,h _ he ⟨_,Heap.get?_push_of_some _ (Heap.get?_push_size _ rfl),rfl,rfl⟩ (by rw [Heap.size_push,hz]) fun b o x=>Heap.get?_push_of_some _ (Heap.get?_push_of_some _ x)⟩
noncomputable def Itet (K:PySem.W.Frag) (a:Addr):It:=
 ⟨fun i H=>∃ xs x,SqT K H a xs∧xs[i]? =some x,fun i H x H'=>∃ p v,H p=none∧x= .ref p∧H'=upd H p (.tup [.int i,v])∧∀ xs,SqT K H a xs→xs[i]? =some v,fun i H=>∃ xs,SqT K H a xs∧xs.length=i⟩
theorem Gm {P:Program} {w:World} {K:PySem.W.Frag} {elts:List Expr} {k:Nat} {pos:Pos} (a e it:Addr) (hei:e≠it):
  Turn P w K (.Tuple elts k pos) (Itet K a) [e,it] e (fun i h=>(∃ old,IsEnum h e it i old)∧h.IsTupleIter it a i) where
 mem:=by simp
 obj:=fun i h st b hb=>by
  obtain ⟨⟨old,he⟩,⟨o,ho,hc,hd⟩⟩:=st
  rcases List.mem_cons.mp hb with z | z
  ·subst z;exact ⟨_,he,fun v z=>by cases z⟩
  ·rw [List.mem_singleton.mp z];exact ⟨o,ho,fun v z=>by rw [hd] at z;cases z⟩
 keep:=fun i h h' st k=>⟨let ⟨old,he⟩:=st.1;⟨old,k e (by simp) _ he⟩,(let ⟨o,ho,r⟩:=st.2;⟨o,k it (by simp) o ho,r⟩)⟩
 item:=by
  intro X hP hw hK hc i pins s σ H E I hf st hg
  subst hP hw hK
  obtain ⟨xs,x,hq,hx⟩:=hg
  obtain ⟨its,rv,p,hz⟩:=I.tuple hq
  have pT:s.heap.IsTuple a its.toArray:=p
  obtain ⟨⟨old,he⟩,hl⟩:=st
  have hai:a≠it:=fun z=>by
   obtain ⟨o,ho,hcl,_⟩:=hl
   obtain ⟨o',ho',hcl',_⟩:=pT
   rw [z,ho] at ho';cases ho';rw [hcl] at hcl';exact absurd hcl' (by decide)
  have hae:a≠e:=fun z=>by
   obtain ⟨o',ho',hcl',_⟩:=pT
   rw [z,he] at ho';cases ho';exact absurd (show Value.type "enumerate"= .type "tuple" from hcl') (by decide)
  have W:=WalksT.enumerateD (prog:=X.prog) (w:=X.w) (A:=X.A) (Draws.tuple (A:=X.A.in1) (I.ok.hd hc) it a hai its.toArray) e hei (by simp [hei,Ne.symm hae]) (by simp)
  have hi:i < its.toArray.size:=by have:=rv.length;have:=(List.getElem?_eq_some_iff.mp hx).1;simp;omega
  refine W.item i s _ _ hi ⟨⟨old,he⟩,hl,pT⟩ fun T vals h' tk hPt hT htup hmid hk=>⟨_,rfl,W.go elts k pos i T _ _ _ hmid fun h'' hst hk2=>?_⟩
  obtain ⟨t,x',hx',rfl⟩:=hPt
  have hap:=W.apart i T h' hmid
  have ru:RelV x x':=by
   obtain ⟨u,hu,r⟩:=rv.get hx
   have hx'':its[i]? =some x':=by simpa using hx'
   rw [hu] at hx'';cases hx'';exact r
  have kk:∀ b u,b∉[e,it]→s.heap.get? b=some u→h''.get? b=some u:=fun b u hb q=>hk2 b u hb (hk b u hb q)
  have fr:H T=none:=I.hok.fresh hT
  refine ⟨.ref T,upd H T (.tup [.int i,x]),I.laidCh (t':=tk) kk hT ⟨Fx,[.int i t,x'],.cons ⟨t,rfl⟩ (.cons ru .nil),?_⟩ hf,rfl,⟨T,x,fr,rfl,rfl,fun ys hy=>by rw [I.tuple_inj hy hq];exact hx⟩,⟨hst.1,hst.2.1⟩,fun b hb=>?_⟩
  ·obtain ⟨o,ho,r⟩:=htup
   exact ⟨o,hk2 T o hap ho,r⟩
  ·have fb:=(hf b hb)
   rw [aV (fun z=>?_)]
   ·exact fb.1
   ·have lt:b < s.heap.objs.size:=by
     rcases List.mem_cons.mp hb with z | z
     ·subst z;exact Heap.lt_size he
     ·rw [List.mem_singleton.mp z];obtain ⟨o,ho,_⟩:=hl;exact Heap.lt_size ho
    rw [z] at lt
    exact absurd (Nat.lt_of_lt_of_le lt hT) (Nat.lt_irrefl _)
 done:=by
  intro X hP hw hK hc i pins s σ H E I hf st hg
  subst hP hw hK
  obtain ⟨xs,hq,hx⟩:=hg
  obtain ⟨its,rv,p,hz⟩:=I.tuple hq
  have pT:s.heap.IsTuple a its.toArray:=p
  obtain ⟨⟨old,he⟩,hl⟩:=st
  have hai:a≠it:=fun z=>by
   obtain ⟨o,ho,hcl,_⟩:=hl
   obtain ⟨o',ho',hcl',_⟩:=pT
   rw [z,ho] at ho';cases ho';rw [hcl] at hcl';exact absurd hcl' (by decide)
  have hae:a≠e:=fun z=>by
   obtain ⟨o',ho',hcl',_⟩:=pT
   rw [z,he] at ho';cases ho';exact absurd (show Value.type "enumerate"= .type "tuple" from hcl') (by decide)
  have W:=WalksT.enumerateD (prog:=X.prog) (w:=X.w) (A:=X.A) (Draws.tuple (A:=X.A.in1) (I.ok.hd hc) it a hai its.toArray) e hei (by simp [hei,Ne.symm hae]) (by simp)
  have hn:its.toArray.size=i:=by have:=rv.length;simp;omega
  subst hn
  exact W.done s _ _ ⟨⟨old,he⟩,hl,pT⟩ fun h' tk hk=>⟨rfl,I.turnedCh hk hf⟩
 self:=fun _ _ _ _ _ st h=>let ⟨_,he⟩:=st.1;wpAny_pyIter_enum he h
noncomputable def NZ (K:PySem.W.Frag) (tl:TE):TI:=fun σ H R=>tl σ H fun x H1=>∃ a,x= .ref a∧(((∃ xs,SqL K H1 a xs)∧R (Ite K a) H1)∨((∃ xs,SqT K H1 a xs)∧R (Itet K a) H1))
section
variable {X:Cx} {K:PySem.W.Frag}
theorem Mw {l:Expr} {tl:TE} {elts:List Expr} {k:Nat} {tpos p pos:Pos} (h:X.K=K) (hg:Gl X "enumerate") (hm:X.mg "enumerate"=none) (hl:PE X l tl) (hs:starEach [l] X.env=[(false,eval l X.env)]:=by rfl):
  PI X (.Tuple elts k tpos) (.Call (.Name "enumerate" p) [l] [] pos) (NZ K tl):=by
 subst h
 intro pins s σ H R I h
 refine Call_ (my I hg hm boot_enumerate (PyProof.Rows.callWith_type1 (thn (aa hl ae hs pos pins s σ H (fun vs H1=>match vs with | [x]=>∃ a,x= .ref a∧(((∃ xs,SqL X.K H1 a xs)∧R (Ite X.K a) H1)∨((∃ xs,SqT X.K H1 a xs)∧R (Itet X.K a) H1)) | _=>False) I h) fun us s1 ⟨vs,H1,I1,r1,q1⟩=>?_) hs rfl))
 match vs,r1,q1 with
 | [x],r1,q1=>
 obtain ⟨u,rfl,ru⟩:=r1.one
 obtain ⟨a,rfl,q1⟩:=q1
 cases ru
 have fin:∀ b∈[s1.heap.objs.size + 1,s1.heap.objs.size],FpOk X pins H1 b:=fun b hb=>by
  have hb':s1.heap.objs.size≤b:=(List.mem_cons.mp hb).elim (fun z=>by rw [z];exact Nat.le_succ _) (fun z=>by rw [List.mem_singleton.mp z];exact Nat.le_refl _)
  exact I1.fpOk hb' (I1.hok.fresh hb')
 rcases q1 with ⟨⟨xs,hq⟩,q⟩ | ⟨⟨xs,hq⟩,q⟩
 ·obtain ⟨its,rv,pl,hz⟩:=I1.list hq
  refine call_enumerate_list pl.isList fun h' he hit hsz hk=>wpAny_pyIter_enum he ?_
  exact ⟨s1.heap.objs.size + 1,[s1.heap.objs.size + 1,s1.heap.objs.size],_,_,H1,rfl,I1.kept (t':=s1.toks) hk,xP a _ _ (Nat.ne_of_gt (Nat.lt_succ_self _)),⟨⟨_,he⟩,hit⟩,fin,q⟩
 ·obtain ⟨its,rv,pl,hz⟩:=I1.tuple hq
  refine mh (show s1.heap.IsTuple a its.toArray from pl) fun h' he hit hsz hk=>wpAny_pyIter_enum he ?_
  exact ⟨s1.heap.objs.size + 1,[s1.heap.objs.size + 1,s1.heap.objs.size],_,_,H1,rfl,I1.kept (t':=s1.toks) hk,Gm a _ _ (Nat.ne_of_gt (Nat.lt_succ_self _)),⟨⟨_,he⟩,hit⟩,fin,q⟩
end
theorem yi {K:PySem.W.Frag} {n:Nat} {fx:List Nat} {g:TG} {tc:TT} {te:TE} {σ:St} {H1:Hp} {D:Addr} {Q:Hp→Prop} {a:Addr} {xs:List V} (Pv:Nat→List V→Hp→Prop) (h0:Pv 0 [] (upd H1 D (.lst []))) (hl:∀ i ys H,i≤xs.length→Pv i ys H→SqL K H a xs)
  (hs:∀ i x ys H p H',xs[i]? =some x→Pv i ys H→H p=none→Same H H'→H' p=some (.tup [.int i,x])→g (.ref p) (eG n fx σ) H' fun σ4 H4=>tc σ4 H4 fun b H5=>if b=true then te σ4 H5 fun v H6=>H6 D=some (.lst ys)∧ys.length < sizeLine∧Pv (i + 1) (ys++[v]) (upd H6 D (.lst (ys++[v]))) else Pv (i + 1) ys H5)
  (hd:∀ ys H,Pv xs.length ys H→Q H):
  ∃ W:Nat→Nat→List V→Hp→Prop,(∃ m,W 0 m [] (upd H1 D (.lst [])))∧∀ i m ys H2,W i m ys H2→((Ite K a).stop i H2∧Q H2)∨
    ((Ite K a).go i H2∧∃ N:List V→Hp→Prop,(∀ ys' H',N ys' H'→∃ m',m' < m∧W (i + 1) m' ys' H')∧∀ x H3,(Ite K a).yld i H2 x H3→g x (eG n fx σ) H3 fun σ4 H4=>tc σ4 H4 fun b H5=>
      if b=true then te σ4 H5 fun v H6=>H6 D=some (.lst ys)∧ys.length < sizeLine∧N (ys++[v]) (upd H6 D (.lst (ys++[v]))) else N ys H5):=by
 refine ⟨fun i m ys H=>m=xs.length - i∧i≤xs.length∧Pv i ys H,⟨xs.length,by simp,Nat.zero_le _,h0⟩,?_⟩
 rintro i m ys H ⟨rfl,hi,p⟩
 have q:=hl i ys H hi p
 by_cases hlt:i < xs.length
 ·refine .inr ⟨⟨xs,xs[i],q,by simp [hlt]⟩,Pv (i + 1),fun ys' H' p'=>⟨xs.length - (i + 1),by omega,rfl,hlt,p'⟩,fun x H' y=>?_⟩
  obtain ⟨r,v,f,e1,e2,y⟩:=y
  subst e1 e2
  exact hs i v ys H r _ (y xs q) p f (fQ f) bo
 ·have e:i=xs.length:=by omega
  subst e
  exact .inl ⟨⟨xs,q,rfl⟩,hd ys H p⟩
theorem HR {K:PySem.W.Frag} {n:Nat} {fx:List Nat} {g:TG} {tc:TT} {te:TE} {σ:St} {H1:Hp} {D:Addr} {Q:Hp→Prop} {a:Addr} {xs:List V} (Pv:Nat→List V→Hp→Prop) (h0:Pv 0 [] (upd H1 D (.lst []))) (hl:∀ i ys H,i≤xs.length→Pv i ys H→SqT K H a xs)
  (hs:∀ i x ys H p H',xs[i]? =some x→Pv i ys H→H p=none→Same H H'→H' p=some (.tup [.int i,x])→g (.ref p) (eG n fx σ) H' fun σ4 H4=>tc σ4 H4 fun b H5=>if b=true then te σ4 H5 fun v H6=>H6 D=some (.lst ys)∧ys.length < sizeLine∧Pv (i + 1) (ys++[v]) (upd H6 D (.lst (ys++[v]))) else Pv (i + 1) ys H5)
  (hd:∀ ys H,Pv xs.length ys H→Q H):
  ∃ W:Nat→Nat→List V→Hp→Prop,(∃ m,W 0 m [] (upd H1 D (.lst [])))∧∀ i m ys H2,W i m ys H2→((Itet K a).stop i H2∧Q H2)∨
    ((Itet K a).go i H2∧∃ N:List V→Hp→Prop,(∀ ys' H',N ys' H'→∃ m',m' < m∧W (i + 1) m' ys' H')∧∀ x H3,(Itet K a).yld i H2 x H3→g x (eG n fx σ) H3 fun σ4 H4=>tc σ4 H4 fun b H5=>
      if b=true then te σ4 H5 fun v H6=>H6 D=some (.lst ys)∧ys.length < sizeLine∧N (ys++[v]) (upd H6 D (.lst (ys++[v]))) else N ys H5):=by
 refine ⟨fun i m ys H=>m=xs.length - i∧i≤xs.length∧Pv i ys H,⟨xs.length,by simp,Nat.zero_le _,h0⟩,?_⟩
 rintro i m ys H ⟨rfl,hi,p⟩
 have q:=hl i ys H hi p
 by_cases hlt:i < xs.length
 ·refine .inr ⟨⟨xs,xs[i],q,by simp [hlt]⟩,Pv (i + 1),fun ys' H' p'=>⟨xs.length - (i + 1),by omega,rfl,hlt,p'⟩,fun x H' y=>?_⟩
  obtain ⟨r,v,f,e1,e2,y⟩:=y
  subst e1 e2
  exact hs i v ys H r _ (y xs q) p f (fQ f) bo
 ·have e:i=xs.length:=by omega
  subst e
  exact .inl ⟨⟨xs,q,rfl⟩,hd ys H p⟩
section
variable {σ:St} {H:Hp} {te:TE} {R:It→Hp→Prop}
theorem nI {K:PySem.W.Frag} (h:te σ H fun x H1=>∃ a,x= .ref a∧(((∃ xs,SqL K H1 a xs)∧R (Ite K a) H1)∨((∃ xs,SqT K H1 a xs)∧R (Itet K a) H1))):NZ K te σ H R:=h
end
namespace ZP
noncomputable abbrev Busy (h:Heap) (z TI TO T:Addr) (fl:Bool):Prop:=h.get? z=some {cls:= .type "zip",data:= .fields #[rawInt T,.bool fl,.bool false,.ref TI,.ref TO]}
section
variable {prog:Program} {w:World} {A:Around} {E:Value→Shared→Prop} {s:Shared}
theorem J8 {z TI TO T:Addr} {fl:Bool} {oT:Obj} {Q:Bool→Shared→Prop} (hz:Busy s.heap z TI TO T fl) (hT:s.heap.get? T=some oT) (h:∀ h',Busy h' z TI TO T true→Heap.SameBut z s.heap h'→Q false {s with heap:=h'}):
  wpAny (model prog w) A (Builtin.SmallTypes.ownedTupleIsFree (.ref z)) Q E s:=by
 unfold Builtin.SmallTypes.ownedTupleIsFree
 refine wpAny_bind (wpAny_field hz rfl (x:=rawInt T) rfl ?_)
 show wpAny _ _ (loadIfAlive ((T:Int).toNat) >>=_) _ _ s
 rw [Int.toNat_natCast]
 refine wpAny_bind (PySem.W.kdx_alive hT ?_)
 rw [if_neg (by simp)]
 refine wpAny_bind (wpAny_field hz rfl (x:= .bool fl) rfl ?_)
 cases fl with
 | true=>
   rw [if_neg (by decide)]
   exact wpAny_pure (h s.heap hz ⟨rfl,fun _ _=>rfl⟩)
 | false=>
   rw [if_pos (by decide)]
   refine wpAny_bind (wpAny_setField_rec hz (by show 1 < 5;decide) fun h' e hs=>wpAny_pure (h h' e hs))
theorem Ka {z TI TO T i1 i2 l1 l2:Addr} {fl:Bool} {oT:Obj} {i:Nat} {xs ys:Array Value} {x y:Value} {Q:Option Value→Shared→Prop} (ap:ZipApart z TI TO i1 i2 l1 l2) (hz:Busy s.heap z TI TO T fl) (hT:s.heap.get? T=some oT)
  (hI:IsPair s.heap TI (.ref i1) (.ref i2)) (h1:s.heap.IsListIter i1 l1 i) (h2:s.heap.IsListIter i2 l2 i) (hl1:s.heap.IsList l1 xs) (hl2:s.heap.IsList l2 ys) (hx:xs[i]? =some x) (hy:ys[i]? =some y)
  (h:∀ h',Busy h' z TI TO T true→h'.IsListIter i1 l1 (i + 1)→h'.IsListIter i2 l2 (i + 1)→(∀ b o,b≠z→b≠i1→b≠i2→s.heap.get? b=some o→h'.get? b=some o)→h'.get? s.heap.objs.size=some {cls:= .type "tuple",data:= .seq #[x,y]}→Q (some (.ref s.heap.objs.size)) {s with heap:=h'}):
  wpAny (model prog w) A (pyNext (.ref z)) Q E s:=by
 have ty:s.TypeIs (.ref z) "zip":=⟨_,hz,rfl⟩
 unfold pyNext
 refine wpAny_bind (wpAny_attempt (wpAny_callSpecial?_slot (name:=Str.ofString "__next__") ty F.slot_zip_next (wpAny_call_entry F.slot_zip_next ty F.entry_zip_next ?_ (F.args_zip_next_1 _))))
 unfold Builtin.«zip.__next__»
 refine wpAny_bind (wpAny_of_eq (a:=(Value.ref z,[])) rfl ?_)
 dsimp only
 refine wpAny_bind (wpAny_field hz rfl (x:= .bool false) rfl ?_)
 refine wpAny_bind (wpAny_field hz rfl (x:= .ref TI) rfl ?_)
 refine wpAny_bind (wpAny_seqItems hI rfl ?_)
 dsimp only
 rw [if_neg (show ¬ (#[Value.ref i1,Value.ref i2].isEmpty=true) from Bool.false_ne_true)]
 refine wpAny_bind (J8 hz hT fun h' hz' hs=>?_)
 rw [if_neg (by decide)]
 rw [← Array.forIn_toList]
 simp only [List.forIn_cons,List.forIn_nil]
 have keep:∀ {b:Addr} {o:Obj},b≠z→s.heap.get? b=some o→h'.get? b=some o:=fun nb e=>(hs.2 _ nb).trans e
 have h1':h'.IsListIter i1 l1 i:=h1.at fun o e=>keep ap.i1z e
 have h2':h'.IsListIter i2 l2 i:=h2.at fun o e=>keep ap.i2z e
 have hl1':h'.IsList l1 xs:=let ⟨o,e,c⟩:=hl1;⟨o,keep ap.l1z e,c⟩
 have hl2':h'.IsList l2 ys:=let ⟨o,e,c⟩:=hl2;⟨o,keep ap.l2z e,c⟩
 refine wpAny_bind (wpAny_bind (wpAny_bind (wpAny_holding ?_)))
 show wpAny _ _ (Builtin.SmallTypes.nextOf (.ref i1) >>=fun x=>pure (some x)) _ _ _
 refine wpAny_bind (wpAny_nextOf_list_item h1' hl1' hx fun h3 it3 sm3=>wpAny_pure ?_)
 dsimp only
 refine wpAny_pure ?_
 dsimp only
 have keep3:∀ {b:Addr} {o:Obj},b≠i1→h'.get? b=some o→h3.get? b=some o:=fun nb e=>(sm3.2 _ nb).trans e
 refine wpAny_bind (wpAny_bind (wpAny_holding ?_))
 show wpAny _ _ (Builtin.SmallTypes.nextOf (.ref i2) >>=fun x=>pure (some x)) _ _ _
 refine wpAny_bind (wpAny_nextOf_list_item (h2'.at fun o e=>keep3 (Ne.symm ap.i12) e) (let ⟨o,e,c⟩:=hl2';⟨o,keep3 ap.l2i1 e,c⟩) hy fun h4 it4 sm4=>wpAny_pure ?_)
 have keep4:∀ {b:Addr} {o:Obj},b≠i2→h3.get? b=some o→h4.get? b=some o:=fun nb e=>(sm4.2 _ nb).trans e
 dsimp only
 refine wpAny_pure ?_
 dsimp only
 refine wpAny_pure ?_
 dsimp only
 have es:h4.objs.size=s.heap.objs.size:=sm4.1.trans (sm3.1.trans hs.1)
 refine wpAny_bind (wpAny_newTuple (wpAny_pure ⟨_,rfl,wpAny_pure ?_⟩) (by show 2≤sizeLine;rw [sizeLine_eq];decide))
 show Q (some (.ref h4.objs.size)) {s with heap:=h4.push _}
 rw [es]
 refine h _ ?_ ?_ ?_ (fun b o nz n1 n2 e=>Heap.get?_push_of_some _ (keep4 n2 (keep3 n1 (keep nz e)))) ?_
 ·exact Heap.get?_push_of_some _ (keep4 (Ne.symm ap.i2z) (keep3 (Ne.symm ap.i1z) hz'))
 ·exact it3.at fun o e=>Heap.get?_push_of_some _ (keep4 ap.i12 e)
 ·exact it4.at fun o e=>Heap.get?_push_of_some _ e
 ·rw [← es];exact Heap.get?_push_size _ rfl
theorem MF {z TI TO T i1 i2 l1 l2:Addr} {fl:Bool} {oT:Obj} {i:Nat} {xs:Array Value} {Q:Option Value→Shared→Prop} (hh:A.handled=none) (ap:ZipApart z TI TO i1 i2 l1 l2) (hz:Busy s.heap z TI TO T fl) (hT:s.heap.get? T=some oT)
  (hI:IsPair s.heap TI (.ref i1) (.ref i2)) (h1:s.heap.IsListIter i1 l1 i) (hl1:s.heap.IsList l1 xs) (hx:xs[i]? =none)
  (h:∀ h',(∀ b o,b≠z→b≠i1→s.heap.get? b=some o→h'.get? b=some o)→Q none {s with heap:=h'}):
  wpAny (model prog w) A (pyNext (.ref z)) Q E s:=by
 have ty:s.TypeIs (.ref z) "zip":=⟨_,hz,rfl⟩
 unfold pyNext
 refine wpAny_bind (wpAny_attempt (wpAny_callSpecial?_slot (name:=Str.ofString "__next__") ty F.slot_zip_next (wpAny_call_entry F.slot_zip_next ty F.entry_zip_next ?_ (F.args_zip_next_1 _))))
 unfold Builtin.«zip.__next__»
 refine wpAny_bind (wpAny_of_eq (a:=(Value.ref z,[])) rfl ?_)
 dsimp only
 refine wpAny_bind (wpAny_field hz rfl (x:= .bool false) rfl ?_)
 refine wpAny_bind (wpAny_field hz rfl (x:= .ref TI) rfl ?_)
 refine wpAny_bind (wpAny_seqItems hI rfl ?_)
 dsimp only
 rw [if_neg (show ¬ (#[Value.ref i1,Value.ref i2].isEmpty=true) from Bool.false_ne_true)]
 refine wpAny_bind (J8 hz hT fun h' hz' hs=>?_)
 rw [if_neg (by decide)]
 rw [← Array.forIn_toList]
 simp only [List.forIn_cons,List.forIn_nil]
 have keep:∀ {b:Addr} {o:Obj},b≠z→s.heap.get? b=some o→h'.get? b=some o:=fun nb e=>(hs.2 _ nb).trans e
 have h1':h'.IsListIter i1 l1 i:=h1.at fun o e=>keep ap.i1z e
 have hl1':h'.IsList l1 xs:=let ⟨o,e,c⟩:=hl1;⟨o,keep ap.l1z e,c⟩
 refine wpAny_bind (wpAny_bind (wpAny_bind (wpAny_holding ?_)))
 show wpAny _ _ (Builtin.SmallTypes.nextOf (.ref i1) >>=fun x=>pure (some x)) _ _ _
 refine wpAny_bind (wpAny_nextOf_list_end (by first | exact hh | (rw [show A.in1.handled=none from hh])) h1' hl1' hx fun h3 e ex he=>?_)
 refine wpAny_bind (wpAny_isInstance (T:="StopIteration") (b:=true) (s:={s with heap:=h3}) (let ⟨o,a,b⟩:=he;⟨o,a,b⟩) isSubtype_stop ?_)
 exact wpAny_pure (h h3 fun b o nz n1 eb=>ex b o n1 (keep nz eb))
structure ZGot (h:Heap) (lo:Nat) (xs ys:Array Value) (as:List Addr):Prop where
 rise:as.Pairwise (· < ·)
 above:∀ a∈as,lo≤a∧a < h.objs.size
 pairs:∀ (j:Nat) (a:Addr),as[j]? =some a→∃ x y,xs[j]? =some x∧ys[j]? =some y∧h.IsTuple a #[x,y]
structure ZSt (h:Heap) (z TI TO i1 i2 l1 l2:Addr) (lo:Nat) (xs ys:Array Value) (i:Nat) (as:List Addr):Prop where
 zp:(i=0∧IsZip h z TI TO .none)∨∃ T fl,Busy h z TI TO T fl∧as[0]? =some T
 hI:IsPair h TI (.ref i1) (.ref i2)
 hO:∃ a b,IsPair h TO a b
 h1:h.IsListIter i1 l1 i
 h2:h.IsListIter i2 l2 i
 hl1:h.IsList l1 xs
 hl2:h.IsList l2 ys
 len:as.length=i
 got:ZGot h lo xs ys as
structure Und (z TI TO i1 i2 l1 l2 S:Addr) (lo:Nat):Prop where
 ap:ZipApart z TI TO i1 i2 l1 l2
 Sz:S≠z
 STI:S≠TI
 STO:S≠TO
 Si1:S≠i1
 Si2:S≠i2
 Sl1:S≠l1
 Sl2:S≠l2
 z:z < lo
 TO:TO < lo
 i1:i1 < lo
 i2:i2 < lo
 S:S < lo
theorem jt {h:Heap} {a:Addr} {o:Obj} (e:h.get? a=some o):a < h.objs.size:=Heap.lt_size e
theorem ZGot.keep {h h':Heap} {lo:Nat} {xs ys:Array Value} {as:List Addr} (g:ZGot h lo xs ys as) (k:∀ b o,lo≤b→h.get? b=some o→h'.get? b=some o):ZGot h' lo xs ys as:=by
 have k2:∀ a∈as,h'.IsTuple a #[.none,.none]→True:=fun _ _ _=>trivial
 refine ⟨g.rise,fun a ha=>?_,fun j a hj=>?_⟩
 ·obtain ⟨j,hj⟩:=List.mem_iff_getElem?.mp ha
  obtain ⟨x,y,_,_,o,e,_⟩:=g.pairs j a hj
  exact ⟨(g.above a ha).1,jt (k a o (g.above a ha).1 e)⟩
 ·obtain ⟨x,y,hx,hy,o,e,c⟩:=g.pairs j a hj
  exact ⟨x,y,hx,hy,o,k a o (g.above a (List.mem_of_getElem? hj)).1 e,c⟩
theorem ZGot.more {h:Heap} {lo:Nat} {xs ys:Array Value} {as:List Addr} {a:Addr} {x y:Value} (g:ZGot h lo xs ys as) (ha:∀ b∈as,b < a) (hlo:lo≤a) (hx:xs[as.length]? =some x) (hy:ys[as.length]? =some y) (ht:h.IsTuple a #[x,y]):ZGot h lo xs ys (as++[a]):=by
 refine ⟨List.pairwise_append.mpr ⟨g.rise,List.pairwise_singleton _ _,fun b hb c hc=>by rw [List.mem_singleton.mp hc];exact ha b hb⟩,fun b hb=>?_,fun j b hj=>?_⟩
 ·rcases List.mem_append.mp hb with z | z
  ·exact g.above b z
  ·rw [List.mem_singleton.mp z];obtain ⟨o,e,_⟩:=ht;exact ⟨hlo,jt e⟩
 ·by_cases hl:j < as.length
  ·rw [List.getElem?_append_left hl] at hj;exact g.pairs j b hj
  ·rw [List.getElem?_append_right (by omega)] at hj
   have e0:j=as.length:=by
    have:=(List.getElem?_eq_some_iff.mp hj).1
    simp at this;omega
   subst e0
   rw [Nat.sub_self] at hj
   have:a=b:=by simpa using hj
   subst this
   exact ⟨x,y,hx,hy,ht⟩
theorem loop {R:Result→Shared→Prop} {z TI TO i1 i2 l1 l2 S:Addr} {lo:Nat} {xs ys:Array Value} (hh:A.handled=none) (U:Und z TI TO i1 i2 l1 l2 S lo) (hn:xs.size≤sizeLine) (hxy:ys.size=xs.size) (res:Value) {h₁:Heap}
  (hR:∀ h' tk acc c as,(∀ b o,b≠S→b≠z→b≠TO→b≠i1→b≠i2→h₁.get? b=some o→h'.get? b=some o)→h'.get? S=some {cls:= .type "list",data:= .seq acc c}→acc.toList=as.map .ref→as.length=xs.size→ZGot h' lo xs ys as→R (.ok (.ret res)) {s with heap:=h',toks:=tk}):
  ∀ (k i:Nat) (h:Heap) (tk c:Nat) (acc:Array Value) (as:List Addr),xs.size - i=k→i≤xs.size→lo≤h.objs.size→ZSt h z TI TO i1 i2 l1 l2 lo xs ys i as→
    (∀ b o,b≠S→b≠z→b≠TO→b≠i1→b≠i2→h₁.get? b=some o→h.get? b=some o)→h.get? S=some {cls:= .type "list",data:= .seq acc c}→acc.toList=as.map .ref→
    codeAny (model prog w) A (Code.builtin "list.extend.loop" {pos:=[.ref S,.ref z,res]}) R {s with heap:=h,toks:=tk}:=by
 have ap:=U.ap
 intro k
 induction k with
 | zero=>
   intro i h tk c acc as hk hi hlo st kh hS hacc
   have hin:i=xs.size:=by omega
   subst hin
   refine codeAny_builtin F.entry_extend_loop ?_
   rw [Around.under_plainId F.plain_extend_loop]
   show wpAny _ A.in1 (pyNext (.ref z) >>=_) _ _ _
   refine wpAny_bind ?_
   have fin:∀ h' tk',(∀ b o,b≠z→b≠TO→b≠i1→b≠i2→h.get? b=some o→h'.get? b=some o)→R (.ok (.ret res)) {s with heap:=h',toks:=tk'}:=fun h' tk' kk=>
    hR h' tk' acc c as (fun b o n1 n2 n3 n4 n5 e=>kk b o n2 n3 n4 n5 (kh b o n1 n2 n3 n4 n5 e)) (kk S _ U.Sz U.STO U.Si1 U.Si2 hS) hacc st.len (st.got.keep fun b o hb e=>kk b o (Nat.ne_of_gt (Nat.lt_of_lt_of_le U.z hb)) (Nat.ne_of_gt (Nat.lt_of_lt_of_le U.TO hb)) (Nat.ne_of_gt (Nat.lt_of_lt_of_le U.i1 hb)) (Nat.ne_of_gt (Nat.lt_of_lt_of_le U.i2 hb)) e)
   rcases st.zp with ⟨h0,hz⟩ | ⟨T,fl,hz,hT⟩
   ·have W:=WalksT.zip2 (prog:=prog) (w:=w) (A:=A.in1) hh z TI TO i1 i2 l1 l2 ap xs ys
    have em:min xs.size ys.size=xs.size:=by omega
    rw [em] at W
    refine W.done {s with heap:=h,toks:=tk} _ _ ⟨hz,st.hI,st.hO,st.h1,st.h2,st.hl1,st.hl2⟩ fun h' tk' kk=>?_
    exact wpAny_pure (fin h' tk' fun b o n2 n3 n4 n5 e=>kk b o (by simp [n2,n3,n4,n5]) e)
   ·obtain ⟨x,y,_,_,oT,eT,_⟩:=st.got.pairs 0 T hT
    refine MF (s:={s with heap:=h,toks:=tk}) hh ap hz eT st.hI st.h1 st.hl1 (by simp) fun h' kk=>?_
    exact wpAny_pure (fin h' tk fun b o n2 n3 n4 n5 e=>kk b o n2 n4 e)
 | succ k ih=>
   intro i h tk c acc as hk hi hlo st kh hS hacc
   have hlt:i < xs.size:=by omega
   have hx:xs[i]? =some xs[i]:=Array.getElem?_eq_getElem hlt
   have hy:ys[i]? =some (ys[i]'(by omega)):=Array.getElem?_eq_getElem (by omega)
   generalize xs[i]=x at hx
   generalize ys[i]'_=y at hy
   refine codeAny_builtin F.entry_extend_loop ?_
   rw [Around.under_plainId F.plain_extend_loop]
   show wpAny _ A.in1 (pyNext (.ref z) >>=_) _ _ _
   refine wpAny_bind ?_
   have go:∀ (a:Addr) (h':Heap) (tk':Nat),h.objs.size≤a→h'.IsTuple a #[x,y]→(∀ b o,b≠z→b≠TO→b≠i1→b≠i2→h.get? b=some o→h'.get? b=some o)→lo≤h'.objs.size→
     (∃ T fl,Busy h' z TI TO T fl∧(as++[a])[0]? =some T)→IsPair h' TI (.ref i1) (.ref i2)→(∃ a b,IsPair h' TO a b)→h'.IsListIter i1 l1 (i + 1)→h'.IsListIter i2 l2 (i + 1)→h'.IsList l1 xs→h'.IsList l2 ys→
     wpAny (model prog w) A.in1 (Builtin.List.listUpdate (.ref S) (fun q=>q.push (.ref a)) >>=fun _=>again (Code.builtin "list.extend.loop" {pos:=[.ref S,.ref z,res]}))
      (fun fin s'=>match fin with | .done f=>R (.ok f) s' | .again c'=>c'.quiet=true∧codeAny (model prog w) A c' R s') (fun e s'=>R (.error e) s') {s with heap:=h',toks:=tk'}:=by
    intro a h' tk' ha ht kk hlo' hzp hI hO h1 h2 hl1 hl2
    have hS':=kk S _ U.Sz U.STO U.Si1 U.Si2 hS
    have aS:a≠S:=Nat.ne_of_gt (Nat.lt_of_lt_of_le (jt hS) ha)
    have hsz:acc.size=i:=by have:=congrArg List.length hacc;rw [List.length_map,st.len] at this;simpa using this
    have oth:∀ b o,b≠S→h'.get? b=some o→(h'.update S (Obj.mapSeq fun q=>q.push (.ref a))).get? b=some o:=fun b o hb e=>(Heap.get?_update_other _ _ (Ne.symm hb)).trans e
    have hS2:=Heap.get?_update_self (Obj.mapSeq (fun q=>q.push (Value.ref a))) hS' rfl
    refine wpAny_bind (wpAny_updateSeq (s:={s with heap:=h',toks:=tk'}) hS' rfl (wpAny_pure ⟨plainId_quiet F.plain_extend_loop _,?_⟩) (by rw [hsz];omega) (by rw [Array.size_push,hsz];omega))
    refine ih (i + 1) (h'.update S _) tk' _ (acc.push (.ref a)) (as++[a]) (by omega) hlt ?_ ⟨.inr ?_,?_,?_,?_,?_,?_,?_,?_,?_⟩ ?_ hS2 ?_
    ·have es:(h'.update S (Obj.mapSeq fun q=>q.push (.ref a))).objs.size=h'.objs.size:=(Heap.SameBut.update ..).1
     rw [es];exact hlo'
    ·obtain ⟨T,fl,e,q⟩:=hzp;exact ⟨T,fl,oth _ _ (Ne.symm U.Sz) e,q⟩
    ·exact oth _ _ (Ne.symm U.STI) hI
    ·obtain ⟨p,q,e⟩:=hO;exact ⟨p,q,oth _ _ (Ne.symm U.STO) e⟩
    ·exact h1.at fun o e=>oth _ o (Ne.symm U.Si1) e
    ·exact h2.at fun o e=>oth _ o (Ne.symm U.Si2) e
    ·exact let ⟨o,e,c⟩:=hl1;⟨o,oth _ o (Ne.symm U.Sl1) e,c⟩
    ·exact let ⟨o,e,c⟩:=hl2;⟨o,oth _ o (Ne.symm U.Sl2) e,c⟩
    ·rw [List.length_append,st.len];rfl
    ·have g:=st.got.keep (h':=h'.update S (Obj.mapSeq fun q=>q.push (.ref a))) fun b o hb e=>oth b o (Nat.ne_of_gt (Nat.lt_of_lt_of_le U.S hb)) (kk b o (Nat.ne_of_gt (Nat.lt_of_lt_of_le U.z hb)) (Nat.ne_of_gt (Nat.lt_of_lt_of_le U.TO hb)) (Nat.ne_of_gt (Nat.lt_of_lt_of_le U.i1 hb)) (Nat.ne_of_gt (Nat.lt_of_lt_of_le U.i2 hb)) e)
     refine g.more (fun b hb=>Nat.lt_of_lt_of_le (st.got.above b hb).2 ha) (Nat.le_trans hlo ha) (by rw [st.len];exact hx) (by rw [st.len];exact hy) (let ⟨o,e,c⟩:=ht;⟨o,oth _ o aS e,c⟩)
    ·exact fun b o n1 n2 n3 n4 n5 e=>oth b o n1 (kk b o n2 n3 n4 n5 (kh b o n1 n2 n3 n4 n5 e))
    ·rw [Array.toList_push,hacc,List.map_append];rfl
   rcases st.zp with ⟨h0,hz⟩ | ⟨T,fl,hz,hT⟩
   ·have W:=WalksT.zip2 (prog:=prog) (w:=w) (A:=A.in1) hh z TI TO i1 i2 l1 l2 ap xs ys
    have em:min xs.size ys.size=xs.size:=by omega
    rw [em] at W
    refine W.item i {s with heap:=h,toks:=tk} _ _ hlt ⟨hz,st.hI,st.hO,st.h1,st.h2,st.hl1,st.hl2⟩ fun T vals h' tk' hp hT ht mid kk=>?_
    obtain ⟨x',y',ex,ey,rfl⟩:=hp
    rw [hx] at ex;cases ex
    rw [hy] at ey;cases ey
    obtain ⟨m1,m2,m3,m4,m5,m6,m7,_⟩:=mid
    have as0:as=[]:=List.eq_nil_of_length_eq_zero (st.len.trans h0)
    refine go T h' tk' hT ht (fun b o n2 n3 n4 n5 e=>kk b o (by simp [n2,n3,n4,n5]) e) ?_ ⟨T,false,m1,by rw [as0];rfl⟩ m2 m3 m4 m5 m6 m7
    obtain ⟨o,e,_⟩:=ht
    exact Nat.le_of_lt (Nat.lt_of_le_of_lt (Nat.le_trans hlo hT) (jt e))
   ·obtain ⟨_,_,_,_,oT,eT,_⟩:=st.got.pairs 0 T hT
    refine Ka (s:={s with heap:=h,toks:=tk}) ap hz eT st.hI st.h1 st.h2 st.hl1 st.hl2 hx hy fun h' hz' b1 b2 kk ht=>?_
    refine go h.objs.size h' tk (Nat.le_refl _) ⟨_,ht,rfl,_,rfl⟩ (fun b o n2 n3 n4 n5 e=>kk b o n2 n4 n5 e) ?_ ⟨T,true,hz',?_⟩ (kk TI _ ap.TIz ap.TIi1 ap.TIi2 st.hI) (let ⟨p,q,e⟩:=st.hO;⟨p,q,kk TO _ ap.TOz ap.TOi1 ap.TOi2 e⟩) b1 b2 (let ⟨o,e,c⟩:=st.hl1;⟨o,kk l1 o ap.l1z ap.l1i1 ap.l1i2 e,c⟩) (let ⟨o,e,c⟩:=st.hl2;⟨o,kk l2 o ap.l2z ap.l2i1 ap.l2i2 e,c⟩)
    ·have ht':h'.get? h.objs.size=_:=ht
     exact Nat.le_of_lt (Nat.lt_of_le_of_lt hlo (jt ht'))
    ·have:0 < as.length:=(List.getElem?_eq_some_iff.mp hT).1
     rw [List.getElem?_append_left this];exact hT
theorem S1:typeLookup (.type "zip") "__len__"=pure none:=by rw [typeLookup_type,builtinLookup_eq_fast];kernel_rfl
theorem Rv:typeLookup (.type "zip") "__length_hint__"=pure none:=by rw [typeLookup_type,builtinLookup_eq_fast];kernel_rfl
structure New (h:Heap) (z TI TO i1 i2 l1 l2:Addr) (xs ys:Array Value):Prop where
 ap:ZipApart z TI TO i1 i2 l1 l2
 hz:IsZip h z TI TO .none
 hI:IsPair h TI (.ref i1) (.ref i2)
 hO:∃ a b,IsPair h TO a b
 h1:h.IsListIter i1 l1 0
 h2:h.IsListIter i2 l2 0
 hl1:h.IsList l1 xs
 hl2:h.IsList l2 ys
theorem New.keep {h h':Heap} {z TI TO i1 i2 l1 l2:Addr} {xs ys:Array Value} (n:New h z TI TO i1 i2 l1 l2 xs ys) (k:∀ b o,h.get? b=some o→(b=z∨b=TI∨b=TO∨b=i1∨b=i2∨b=l1∨b=l2)→h'.get? b=some o):New h' z TI TO i1 i2 l1 l2 xs ys where
 ap:=n.ap
 hz:=k _ _ n.hz (by simp)
 hI:=k _ _ n.hI (by simp)
 hO:=let ⟨a,b,e⟩:=n.hO;⟨a,b,k _ _ e (by simp)⟩
 h1:=n.h1.at fun o e=>k _ o e (by simp)
 h2:=n.h2.at fun o e=>k _ o e (by simp)
 hl1:=let ⟨o,e,c⟩:=n.hl1;⟨o,k _ o e (by simp),c⟩
 hl2:=let ⟨o,e,c⟩:=n.hl2;⟨o,k _ o e (by simp),c⟩
theorem RQ {R:Result→Shared→Prop} {z TI TO i1 i2 l1 l2 S:Addr} {lo:Nat} {xs ys:Array Value} (hh:A.handled=none) (U:Und z TI TO i1 i2 l1 l2 S lo) (N:New s.heap z TI TO i1 i2 l1 l2 xs ys) (hn:xs.size≤sizeLine) (hxy:ys.size=xs.size) (hlo:lo≤s.heap.objs.size) (res:Value) {c₀:Nat} (hS:s.heap.get? S=some {cls:= .type "list",data:= .seq #[] c₀})
  (hR:∀ h' tk acc c as,(∀ b o,b≠S→b≠z→b≠TO→b≠i1→b≠i2→s.heap.get? b=some o→h'.get? b=some o)→h'.get? S=some {cls:= .type "list",data:= .seq acc c}→acc.toList=as.map .ref→as.length=xs.size→ZGot h' lo xs ys as→R (.ok (.ret res)) {s with heap:=h',toks:=tk}):
  wpAny (model prog w) A.in1 (Builtin.List.listExtendWith (.ref S) (.ref z) res)
   (fun fin s'=>match fin with | .done f=>R (.ok f) s' | .again c'=>c'.quiet=true∧codeAny (model prog w) A c' R s') (fun e s'=>R (.error e) s') s:=by
 have ty:s.TypeIs (.ref z) "zip":=⟨_,N.hz,rfl⟩
 have h1:Builtin.List.listSameRef (.ref S) (.ref z)=false:=by simp [Builtin.List.listSameRef,U.Sz]
 unfold Builtin.List.listExtendWith
 refine wpAny_bind (wpAny_typeOf ty ?_)
 rw [if_neg (by rw [h1];decide)]
 refine wpAny_bind (wpAny_pyIter_zip N.hz ?_)
 refine wpAny_bind (wpAny_holding ?_)
 unfold Builtin.List.listLengthHint
 refine wpAny_bind (wpAny_specialOf ty S1 ?_)
 show wpAny _ A.in1 (specialOf (Value.ref z) (Str.ofString "__length_hint__") >>=_) _ _ _
 refine wpAny_bind (wpAny_specialOf ty Rv ?_)
 refine wpAny_pure ?_
 dsimp only
 rw [if_pos (by decide)]
 refine wpAny_bind (wpAny_rule (wpAny_bind ?_))
 show wpAny _ _ (updateSeq S (fun x=>x.push .none) >>=fun _=>updateSeq S fun x=>x.pop) _ _ s
 have e1:=Heap.get?_update_self (Obj.mapSeq (fun x=>x.push Value.none)) hS rfl
 have oth1:∀ b o,b≠S→s.heap.get? b=some o→(s.heap.update S (Obj.mapSeq (fun x=>x.push Value.none))).get? b=some o:=fun b o hb e=>(Heap.get?_update_other _ _ (Ne.symm hb)).trans e
 have z1:(s.heap.update S (Obj.mapSeq (fun x=>x.push Value.none))).objs.size=s.heap.objs.size:=(Heap.SameBut.update ..).1
 refine wpAny_bind (wpAny_updateSeq hS rfl ?_ (by show 0≤sizeLine;exact Nat.zero_le _) (by show 1≤sizeLine + 1;omega))
 generalize hg1:s.heap.update S (Obj.mapSeq (fun x=>x.push Value.none))=g1 at e1 oth1 z1
 refine wpAny_updateSeq (s:={s with heap:=g1}) e1 rfl ?_ (by show 1≤sizeLine;rw [sizeLine_eq];decide) (by show 0≤sizeLine + 1;omega)
 have e2:=Heap.get?_update_self (Obj.mapSeq (fun x=>x.pop)) e1 rfl
 have oth2:∀ b o,b≠S→g1.get? b=some o→(g1.update S (Obj.mapSeq (fun x=>x.pop))).get? b=some o:=fun b o hb e=>(Heap.get?_update_other _ _ (Ne.symm hb)).trans e
 have z2:(g1.update S (Obj.mapSeq (fun x=>x.pop))).objs.size=g1.objs.size:=(Heap.SameBut.update ..).1
 generalize hg2:g1.update S (Obj.mapSeq (fun x=>x.pop))=g2 at e2 oth2 z2
 refine wpAny_pure ⟨plainId_quiet F.plain_extend_loop _,?_⟩
 have N2:New g2 z TI TO i1 i2 l1 l2 xs ys:=N.keep fun b o e hb=>by
  have nb:b≠S:=by
   rcases hb with rfl | rfl | rfl | rfl | rfl | rfl | rfl
   ·exact Ne.symm U.Sz
   ·exact Ne.symm U.STI
   ·exact Ne.symm U.STO
   ·exact Ne.symm U.Si1
   ·exact Ne.symm U.Si2
   ·exact Ne.symm U.Sl1
   ·exact Ne.symm U.Sl2
  exact oth2 b o nb (oth1 b o nb e)
 exact loop (s:=s) (h₁:=s.heap) hh U hn hxy res hR xs.size 0 g2 s.toks _ #[] [] (Nat.sub_zero _) (Nat.zero_le _) (by rw [z2,z1];exact hlo) ⟨.inl ⟨rfl,N2.hz⟩,N2.hI,N2.hO,N2.h1,N2.h2,N2.hl1,N2.hl2,rfl,⟨List.Pairwise.nil,fun _ h=>absurd h (by simp),fun j a hj=>by simp at hj⟩⟩ (fun b o n1 _ _ _ _ e=>oth2 b o n1 (oth1 b o n1 e)) e2 rfl
theorem init {R:Result→Shared→Prop} {z TI TO i1 i2 l1 l2 S:Addr} {lo:Nat} {xs ys:Array Value} (hh:A.handled=none) (U:Und z TI TO i1 i2 l1 l2 S lo) (N:New s.heap z TI TO i1 i2 l1 l2 xs ys) (hn:xs.size≤sizeLine) (hxy:ys.size=xs.size) (hlo:lo≤s.heap.objs.size) (hS:s.heap.get? S=some {cls:= .type "list",data:= .seq #[]})
  (hR:∀ h' tk acc c as,(∀ b o,b≠S→b≠z→b≠TO→b≠i1→b≠i2→s.heap.get? b=some o→h'.get? b=some o)→h'.get? S=some {cls:= .type "list",data:= .seq acc c}→acc.toList=as.map .ref→as.length=xs.size→ZGot h' lo xs ys as→R (.ok (.ret .none)) {s with heap:=h',toks:=tk}):
  wpAny (model prog w) A.in1 (Builtin.«list.__init__» ⟨[.ref S,.ref z],[]⟩)
   (fun fin s'=>match fin with | .done f=>R (.ok f) s' | .again c'=>c'.quiet=true∧codeAny (model prog w) A c' R s') (fun e s'=>R (.error e) s') s:=by
 show wpAny _ _ (do let old ← Builtin.List.listItems (.ref S);Builtin.List.listUpdate (.ref S) (fun _=>#[]);letGo old.toList.reverse;Builtin.List.listExtendWith (.ref S) (.ref z) .none) _ _ s
 refine wpAny_bind ?_
 unfold Builtin.List.listItems
 refine wpAny_bind (wpAny_seqItems hS rfl (wpAny_pure ?_))
 show wpAny _ _ (updateSeq S (fun _=>#[]) >>=fun _=>letGo (#[]:Array Value).toList.reverse >>=fun _=>Builtin.List.listExtendWith (.ref S) (.ref z) .none) _ _ s
 refine wpAny_bind (wpAny_updateSeq hS rfl ?_)
 have hS2:=Heap.get?_update_self (Obj.mapSeq (fun _=>(#[]:Array Value))) hS rfl
 have oth:∀ b o,b≠S→s.heap.get? b=some o→(s.heap.update S (Obj.mapSeq (fun _=>(#[]:Array Value)))).get? b=some o:=fun b o hb e=>(Heap.get?_update_other _ _ (Ne.symm hb)).trans e
 have es:(s.heap.update S (Obj.mapSeq (fun _=>(#[]:Array Value)))).objs.size=s.heap.objs.size:=(Heap.SameBut.update ..).1
 refine wpAny_bind (wpAny_letGo ?_)
 refine RQ (s:={s with heap:=_}) hh U (N.keep fun b o e hb=>oth b o ?_ e) hn hxy (by show lo≤(s.heap.update S _).objs.size;rw [es];exact hlo) .none hS2 fun h' tk acc c as k a1 a2 a3 a4=>hR h' tk acc c as (fun b o n1 n2 n3 n4 n5 e=>k b o n1 n2 n3 n4 n5 (oth b o n1 e)) a1 a2 a3 a4
 rcases hb with rfl | rfl | rfl | rfl | rfl | rfl | rfl
 ·exact Ne.symm U.Sz
 ·exact Ne.symm U.STI
 ·exact Ne.symm U.STO
 ·exact Ne.symm U.Si1
 ·exact Ne.symm U.Si2
 ·exact Ne.symm U.Sl1
 ·exact Ne.symm U.Sl2
theorem call_list {Q:Value→Shared→Prop} {z TI TO i1 i2 l1 l2:Addr} {xs ys:Array Value} (hh:A.handled=none) (N:New s.heap z TI TO i1 i2 l1 l2 xs ys) (hn:xs.size≤sizeLine) (hxy:ys.size=xs.size)
  (hQ:∀ h' tk acc c as,(∀ b o,b≠z→b≠TO→b≠i1→b≠i2→s.heap.get? b=some o→h'.get? b=some o)→h'.get? s.heap.objs.size=some {cls:= .type "list",data:= .seq acc c}→acc.toList=as.map .ref→as.length=xs.size→ZGot h' (s.heap.objs.size + 1) xs ys as→Q (.ref s.heap.objs.size) {s with heap:=h',toks:=tk}):
  wpAny (model prog w) A (call (.type "list") [.ref z]) Q E s:=by
 have lz:=jt N.hz
 have lTI:=jt N.hI
 obtain ⟨pa,pb,eO⟩:=N.hO
 have lTO:=jt eO
 have li1:i1 < s.heap.objs.size:=let ⟨o,e,_⟩:=N.h1;jt e
 have li2:i2 < s.heap.objs.size:=let ⟨o,e,_⟩:=N.h2;jt e
 have ll1:l1 < s.heap.objs.size:=let ⟨o,e,_⟩:=N.hl1;jt e
 have ll2:l2 < s.heap.objs.size:=let ⟨o,e,_⟩:=N.hl2;jt e
 refine callType_codes (Q₁:=fun obj s₁=>obj= .ref s.heap.objs.size∧s₁={s with heap:=s.heap.push {cls:= .type "list",data:= .seq #[]}}) F.called_list (F.typeCall_list_1 _) F.entry_list_init (code_list_new _ ⟨rfl,rfl⟩) fun obj s₁ h₁=>?_
 obtain ⟨rfl,rfl⟩:=h₁
 have hS:(s.heap.push {cls:= .type "list",data:= .seq #[]}).get? s.heap.objs.size=some {cls:= .type "list",data:= .seq #[]}:=Heap.get?_push_size _ rfl
 have up:∀ {b:Addr},b < s.heap.objs.size→b < s.heap.objs.size + 1:=fun h=>Nat.lt_succ_of_lt h
 have ne:∀ {b:Addr},b < s.heap.objs.size→s.heap.objs.size≠b:=fun h=>Nat.ne_of_gt h
 have U:Und z TI TO i1 i2 l1 l2 s.heap.objs.size (s.heap.objs.size + 1):=⟨N.ap,ne lz,ne lTI,ne lTO,ne li1,ne li2,ne ll1,ne ll2,up lz,up lTO,up li1,up li2,Nat.lt_succ_self _⟩
 have sz:(s.heap.push {cls:= .type "list",data:= .seq #[]}).objs.size=s.heap.objs.size + 1:=by simp [Heap.push]
 refine ⟨⟨_,hS,rfl⟩,F.args_list_init_2 _ _,init (A:=A.in1) (s:={s with heap:=_}) hh U (N.keep fun b o e _=>Heap.get?_push_of_some _ e) hn hxy (Nat.le_of_eq sz.symm) hS fun h' tk acc c as k a1 a2 a3 a4=>?_⟩
 exact ⟨rfl,hQ h' tk acc c as (fun b o n2 n3 n4 n5 e=>k b o (Nat.ne_of_lt (jt e)) n2 n3 n4 n5 (Heap.get?_push_of_some _ e)) a1 a2 a3 a4⟩
end
end ZP
open PySem PySem.Spec PyProof.Rows
theorem Av:∀ as:List Addr,Vals (as.map V.ref) (as.map Value.ref)
 | []=> .nil
 | _::as=> .cons rfl (Av as)
theorem Nv {X:Cx} {pins:List (Addr×Obj)} {σ:St} {s0 s:Shared} {H0:Hp} (I0:Inv X pins σ H0 s0):∀ (as:List Addr) (xs ys:List V) (H:Hp),Inv X pins σ H s→as.Pairwise (· < ·)→(∀ a∈as,s0.heap.objs.size≤a∧H a=none)→as.length=xs.length→as.length=ys.length→
  (∀ (j:Nat) (a:Addr) (x y:V),as[j]? =some a→xs[j]? =some x→ys[j]? =some y→∃ u v,RelV x u∧RelV y v∧s.heap.IsTuple a #[u,v])→
  ∃ H2,Inv X pins σ H2 s∧Same H H2∧(∀ b,b∉as→H2 b=H b)∧∀ (j:Nat) (a:Addr) (x y:V),as[j]? =some a→xs[j]? =some x→ys[j]? =some y→H2 a=some (.tup [x,y])
 | [],_,_,H,I,_,_,_,_,_=>⟨H,I,Same.refl _,fun _ _=>rfl,fun j a x y h=>by simp at h⟩
 | a::as,[],_,H,I,_,_,h,_,_=>by simp at h
 | a::as,_,[],H,I,_,_,_,h,_=>by simp at h
 | a::as,x::xs,y::ys,H,I,pw,fr,l1,l2,ht=>by
   obtain ⟨u,v,ru,rv,o,e,c⟩:=ht 0 a x y rfl rfl rfl
   have fa:=fr a (List.mem_cons_self ..)
   have pw':=List.pairwise_cons.mp pw
   have na:a∉as:=fun h=>Nat.lt_irrefl _ (pw'.1 a h)
   have I1:Inv X pins σ (upd H a (.tup [x,y])) s:=I.track (I0.fpN (Heap.get?_none_of_le fa.1) fa.2) ⟨Fx,[u,v],.cons ru (.cons rv .nil),o,e,c⟩
   obtain ⟨H2,I2,s2,o2,g2⟩:=Nv I0 as xs ys (upd H a (.tup [x,y])) I1 pw'.2 (fun b hb=>⟨(fr b (List.mem_cons_of_mem _ hb)).1,by rw [aV (fun z:b=a=>na (by rw [← z];exact hb))];exact (fr b (List.mem_cons_of_mem _ hb)).2⟩) (by simpa using l1) (by simpa using l2) fun j b x' y' h1 h2 h3=>ht (j + 1) b x' y' (by simpa using h1) (by simpa using h2) (by simpa using h3)
   refine ⟨H2,I2,fun b ob h=>s2 b ob (by rw [aV (av h fa.2)];exact h),fun b hb=>?_,fun j b x' y' h1 h2 h3=>?_⟩
   ·rw [o2 b fun z=>hb (List.mem_cons_of_mem _ z),aV (fun z:b=a=>hb (by rw [z];exact List.mem_cons_self ..))]
   ·cases j with
    | zero=>
      have e1:a=b:=by simpa using h1
      have e2:x=x':=by simpa using h2
      have e3:y=y':=by simpa using h3
      subst e1 e2 e3
      exact s2 a _ bo
    | succ j=>exact g2 j b x' y' (by simpa using h1) (by simpa using h2) (by simpa using h3)
noncomputable def Qa (K:PySem.W.Frag) (Q:VK) (x y:V) (H:Hp):Prop:=∃ a b xs ys,x= .ref a∧y= .ref b∧SqL K H a xs∧SqL K H b ys∧xs.length=ys.length∧
 ∀ (D:Addr) (ps:List Addr) (H3:Hp),H D=none→Same H H3→H3 D=some (.lst (ps.map V.ref))→ps.length=xs.length→(∀ (j:Nat) (p:Addr) (x y:V),ps[j]? =some p→xs[j]? =some x→ys[j]? =some y→H3 p=some (.tup [x,y]))→Q (.ref D) H3
noncomputable def tZip (K:PySem.W.Frag) (t1 t2:TE):TE:=fun σ H Q=>t1 σ H fun x H1=>t2 σ H1 fun y H2=>Qa K Q x y H2
theorem SE {K:PySem.W.Frag} {t1 t2:TE} {σ:St} {H:Hp} {Q:VK} (h:t1 σ H fun x H1=>t2 σ H1 fun y H2=>Qa K Q x y H2):tZip K t1 t2 σ H Q:=h
section
variable {X:Cx}
theorem RS {K:PySem.W.Frag} {e1 e2:Expr} {t1 t2:TE} {p1 p2:Pos} {pins:List (Addr×Obj)} {s:Shared} {σ:St} {H:Hp} {Q:VK} (hK:X.K=K) (g2:Gl X "zip") (n2:X.mg "zip"=none) (he1:PE X e1 t1) (he2:PE X e2 t2) (h2:starEach [e1,e2] X.env=(false,eval e1 X.env)::starEach [e2] X.env) (h3:starEach [e2] X.env=[(false,eval e2 X.env)])
  (I:Inv X pins σ H s) (h:tZip K t1 t2 σ H Q) (Q':Value→Shared→Prop)
  (hQ:∀ (s1:Shared) (h':Heap) (H1:Hp) (a b:Addr) (xs ys:List V) (its jts:List Value),Inv X pins σ H1 s1→Vals xs its→Vals ys jts→its.length≤sizeLine→xs.length=ys.length→h'.objs.size=s1.heap.objs.size + 5→(∀ c o,s1.heap.get? c=some o→h'.get? c=some o)→
   ZP.New h' (s1.heap.objs.size + 4) (s1.heap.objs.size + 2) (s1.heap.objs.size + 3) s1.heap.objs.size (s1.heap.objs.size + 1) a b its.toArray jts.toArray→
   (∀ (D:Addr) (ps:List Addr) (H3:Hp),H1 D=none→Same H1 H3→H3 D=some (.lst (ps.map V.ref))→ps.length=xs.length→(∀ (j:Nat) (p:Addr) (x y:V),ps[j]? =some p→xs[j]? =some x→ys[j]? =some y→H3 p=some (.tup [x,y]))→Q (.ref D) H3)→
   Q' (.ref (s1.heap.objs.size + 4)) {s1 with heap:=h'}):
  wpAny (model X.prog X.w) X.A (eval (.Call (.Name "zip" p1) [e1,e2] [] p2) X.env) Q' X.xe s:=by
 subst hK
 refine Call_ (my I g2 n2 PyProof.Rows.boot_zip (PyProof.Rows.callWith_type1 (thn (aa he1 (aa he2 ae h3) h2 p2 pins s σ H (fun vs H1=>match vs with | [x,y]=>Qa X.K Q x y H1 | _=>False) I h) fun us s1 ⟨vs,H1,I1,r1,q1⟩=>?_) h2 (by rw [h3];rfl)))
 match vs,r1,q1 with
 | [x,y],r1,q1=>
 obtain ⟨a,b,xs,ys,ex,ey,sa,sb,hl,q⟩:=q1
 subst ex ey
 cases r1 with
 | cons rx r2=>
 cases r2 with
 | cons ry r3=>
 cases r3
 cases rx
 cases ry
 obtain ⟨its,ra,pa,hza⟩:=I1.list sa
 obtain ⟨jts,rb,pb,hzb⟩:=I1.list sb
 have la:a < s1.heap.objs.size:=let ⟨o,e,_⟩:=pa.isList;Heap.lt_size e
 have lb:b < s1.heap.objs.size:=let ⟨o,e,_⟩:=pb.isList;Heap.lt_size e
 refine call_zip_2 pa.isList pb.isList fun h' z1 z2 z3 z4 z5 hsz k=>?_
 exact hQ s1 h' H1 a b xs ys its jts I1 ra rb (by rw [← ra.length];exact hza) hl hsz k ⟨zipApart_new la lb,z1,z2,⟨_,_,z3⟩,z4,z5,let ⟨o,e,c⟩:=pa.isList;⟨o,k _ o e,c⟩,let ⟨o,e,c⟩:=pb.isList;⟨o,k _ o e,c⟩⟩ q
theorem xX {K:PySem.W.Frag} {e1 e2:Expr} {t1 t2:TE} {p1 p2 q1 q2:Pos} (hK:X.K=K) (hc:X.calm=true) (g1:Gl X "list") (g2:Gl X "zip") (n1:X.mg "list"=none) (n2:X.mg "zip"=none) (he1:PE X e1 t1) (he2:PE X e2 t2)
  (h1:starEach [Expr.Call (.Name "zip" p1) [e1,e2] [] p2] X.env=[(false,eval (.Call (.Name "zip" p1) [e1,e2] [] p2) X.env)]:=by rfl) (h2:starEach [e1,e2] X.env=(false,eval e1 X.env)::starEach [e2] X.env:=by rfl) (h3:starEach [e2] X.env=[(false,eval e2 X.env)]:=by rfl):
  PE X (.Call (.Name "list" q1) [.Call (.Name "zip" p1) [e1,e2] [] p2] [] q2) (tZip K t1 t2):=by
 intro pins s σ H Q I h
 refine Call_ (my I g1 n1 PyProof.Rows.boot_list (PyProof.Rows.callWith_type1 (Q:=EP X pins σ Q) ?_ h1 rfl))
 rw [h1]
 show wpAny _ _ (spliced ((false,eval (.Call (.Name "zip" p1) [e1,e2] [] p2) X.env)::backTo q2 [])) _ _ s
 refine Calls.spliced_cons (RS hK g2 n2 he1 he2 h2 h3 I h _ fun s1 h' H1 a b xs ys its jts I1 ra rb hza hl hsz k N q=>Calls.spliced_nil ?_)
 have hlj:jts.toArray.size=its.toArray.size:=by have:=ra.length;have:=rb.length;simp;omega
 refine ZP.call_list (s:={s1 with heap:=h'}) (I1.ok.hd hc) N (by simpa using hza) hlj fun h2 tk acc c as kk hD hacc hlen G=>?_
 have kk2:∀ b o,s1.heap.get? b=some o→h2.get? b=some o:=fun b o e=>by
  have lt:=Heap.lt_size e
  exact kk b o (Nat.ne_of_lt (Nat.lt_of_lt_of_le lt (Nat.le_add_right _ _))) (Nat.ne_of_lt (Nat.lt_of_lt_of_le lt (Nat.le_add_right _ _))) (Nat.ne_of_lt lt) (Nat.ne_of_lt (Nat.lt_of_lt_of_le lt (Nat.le_add_right _ _))) (k b o e)
 have I2:Inv X pins σ H1 {s1 with heap:=h2,toks:=tk}:=I1.kept (t':=tk) kk2
 have lx:as.length=xs.length:=by rw [hlen,ra.length];simp
 have fra:∀ p∈as,s1.heap.objs.size≤p∧H1 p=none:=fun p hp=>by
  have h0:s1.heap.objs.size≤p:=Nat.le_trans (by show s1.heap.objs.size≤h'.objs.size + 1;rw [hsz];exact Nat.le_trans (Nat.le_add_right _ _) (Nat.le_succ _)) (G.above p hp).1
  exact ⟨h0,I1.hok.fresh h0⟩
 obtain ⟨H3,I3,s3,o3,g3⟩:=Nv I1 as xs ys H1 I2 G.rise fra lx (lx.trans hl) fun j p x y hp hx hy=>by
  obtain ⟨u,v,hu,hv,ht⟩:=G.pairs j p hp
  rw [List.getElem?_toArray] at hu hv
  obtain ⟨u',eu,ru⟩:=ra.get hx
  obtain ⟨v',ev,rv⟩:=rb.get hy
  rw [eu] at hu;cases hu
  rw [ev] at hv;cases hv
  exact ⟨u,v,ru,rv,ht⟩
 have le5:s1.heap.objs.size≤h'.objs.size:=by rw [hsz];exact Nat.le_add_right _ _
 have fD:H1 h'.objs.size=none:=I1.hok.fresh le5
 have nD:h'.objs.size∉as:=fun z=>Nat.not_succ_le_self _ (G.above _ z).1
 have fD3:H3 h'.objs.size=none:=by rw [o3 _ nD];exact fD
 have hDn:s1.heap.get? h'.objs.size=none:=Heap.get?_none_of_le le5
 have I4:Inv X pins σ (upd H3 h'.objs.size (.lst (as.map V.ref))) {s1 with heap:=h2,toks:=tk}:=I3.track (I1.fpN hDn fD3) ⟨by rw [List.length_map,lx,ra.length];exact hza,as.map .ref,c,Av as,by rw [← hacc];exact hD⟩
 refine ⟨.ref h'.objs.size,_,I4,rfl,q h'.objs.size as _ fD (fun b ob e=>?_) bo lx fun j p x y hp hx hy=>?_⟩
 ·rw [aV (av (s3 b ob e) fD3)];exact s3 b ob e
 ·have:=g3 j p x y hp hx hy
  rw [aV (av this fD3)];exact this
end
structure FunD (K:PySem.W.Frag) (x qual:Str) (st:Stmt) (f:Addr) (fd:FuncData) (dv:Value):Prop where
 ex:∃ (oc:Value) (od:Option Addr) (T:Addr) (kV doc pm:Value) (an:Option Addr) (cdv ct:Value) (osl:Array (Option Value)) (tc:Value) (td:Option Addr) (n:Nat) (tsl:Array (Option Value)),
  fd=PySem.W.fnOf x qual (aA st) (ay st) (ah st) (.ref T) kV doc pm an cdv ct∧K.lookup f=some ⟨oc,od,.func fd,osl⟩∧PySem.W.codeIn K cdv qual=true∧K.lookup T=some ⟨tc,td,.seq #[dv] n,tsl⟩
 kp:PySem.W.keepIn K (.ref f)=true
section
variable {P:Program} {w:World} {K:PySem.W.Frag} {mg:Str→Option Value} {base:Heap}
theorem FunD.okX {x qual:Str} {st:Stmt} {f:Addr} {fd:FuncData} {dv:Value} {N ps:List Str} {k:Nat} {sp:Sp} (F:FunD K x qual st f fd dv) (S:aC N ps (ah st)) (len:∀ vs H Q E,sp vs H Q E→vs.length=ps.length)
  (hbody:∀ (cdv:Value) (A:Around) (outer:List Env) (s:Shared) (H:Hp) (vs:List V) (Q:VK) (E:XK),Room k (A.deeper (envOfC qual (ah st) s.heap.objs.size f cdv))→sp vs H Q E→
   ∃ t,PSs ((cxOf (CX1 P w) P w K mg base N qual (ah st) f cdv A outer s H E).thr fun _=>E) (ay st) t∧t {nx:=fun _ H'=>Q .non H',rt:=Q} (rJ N vs) H):FnOk P w K mg base (CX1 P w) (k + 1) f fd ps sp:=by
 obtain ⟨oc,od,T,kV,doc,pm,an,cdv,ct,osl,tc,td,n,tsl,rfl,lk,hcd,_⟩:=F.ex
 refine PM lk hcd S len fun A outer s H vs Q E hr hsp=>?_
 obtain ⟨t,h,q⟩:=hbody cdv A outer s H vs Q E hr hsp
 exact ⟨t,h.thr FT,q⟩
theorem FunD.binds {x qual:Str} {st:Stmt} {f:Addr} {fd:FuncData} {dv:Value} {ps:List Str} {ds:List Value} (F:FunD K x qual st f fd dv)
  (h:∀ (T:Addr) (kV doc pm:Value) (an:Option Addr) (cdv ct:Value) (us:List Value),(us++ds).length=ps.length→∃ k:Option (Array Value)→Sem (List (Str×Value)),bindArgs (PySem.W.fnOf x qual (aA st) (ay st) (ah st) (.ref T) kV doc pm an cdv ct) ⟨us,[]⟩=(seqItems? (.ref T) >>=k)∧k (some #[dv])=pure (ps.zip (us++ds))):bj K fd ps ds:=by
 obtain ⟨oc,od,T,kV,doc,pm,an,cdv,ct,osl,tc,td,n,tsl,rfl,lk,hcd,lT⟩:=F.ex
 intro s us hK hl
 obtain ⟨k,e1,e2⟩:=h T kV doc pm an cdv ct us hl
 exact BindsTo.of_defaults (T:=T) rfl (hK T _ lT) rfl e1 e2
theorem PJ {x qual:Str} {st:Stmt} {f T:Addr} {oc tc dv:Value} {od an td:Option Addr} {osl tsl:Array (Option Value)} {n:Nat} {kV doc pm cdv ct:Value} (l:K.lookup f=some ⟨oc,od,.func (PySem.W.fnOf x qual (aA st) (ay st) (ah st) (.ref T) kV doc pm an cdv ct),osl⟩)
  (lT:K.lookup T=some ⟨tc,td,.seq #[dv] n,tsl⟩) (c:PySem.W.codeIn K cdv qual=true) (k:PySem.W.keepIn K (.ref f)=true):FunD K x qual st f (PySem.W.fnOf x qual (aA st) (ay st) (ah st) (.ref T) kV doc pm an cdv ct) dv:=⟨⟨oc,od,T,kV,doc,pm,an,cdv,ct,osl,tc,td,n,tsl,rfl,l,c,lT⟩,k⟩
end
section
variable {σ:St} {H:Hp} {Q:VK} {te:TE}
noncomputable def Lx (C:Addr) (m:Str) (sp:Sp) (dvs:List V) (W:XW) (tr:TA) (σ:St) (Q:VK) (x:V) (H:Hp):Prop:=∃ a dx fs,x= .ref a∧H a=some (.ins C dx fs)∧fs.lookup m=none∧tr σ H fun vs H2=>sp (x::(vs++dvs)) H2 Q (W σ)
theorem tP {C:Addr} {m:Str} {sp:Sp} {dvs:List V} {W:XW} {tr:TA} (h:te σ H (Lx C m sp dvs W tr σ Q)):Nx C m sp dvs W te tr σ H Q:=h
theorem jb {C dx p:Addr} {m:Str} {fs:List (Str×V)} {sp:Sp} {dvs:List V} {W:XW} {tr:TA} (e:H p=some (.ins C dx fs)) (l:fs.lookup m=none) (h:tr σ H fun vs H2=>sp (.ref p::(vs++dvs)) H2 Q (W σ)):Lx C m sp dvs W tr σ Q (.ref p) H:=⟨p,dx,fs,rfl,e,l,h⟩
end
noncomputable abbrev xBM:List Value:=[.type "ValueError",.type "Exception",.type "BaseException",.type "object"]
structure XOwn (K:PySem.W.Frag) (C W f:Addr):Prop where
 lk:∃ nm q N bs sn sub ab col dd k0 k1 k2 k3 k5,K.lookup C=some (excClassObj nm q C N bs (.ref W::xBM) true sn sub ab col dd k0 k1 k2 k3 k5 "ValueError.__new__")
 up:PySem.W.excIn K W xBM "ValueError.__new__"=true
 init:PySem.W.findIn K (.ref C) "__init__"=some (some (.ref f))
 fn:PySem.W.isFn K (.ref f)=true
 kp:PySem.W.keepIn K (.ref C)=true
 sa:PySem.W.findIn K (.ref C) "__setattr__"=some (some (.builtin "object.__setattr__"))
 mo:PySem.W.mroIn K C (.type "object")=some true
 mv:PySem.W.mroIn K C (.type "ValueError")=some true
section
variable {X:Cx} {pins:List (Addr×Obj)} {σ:St} {H:Hp} {s:Shared} {p C W f:Addr} {fs:List (Str×V)}
structure Tj (K:PySem.W.Frag) (W:Addr):Prop where
 ga:PySem.W.specialIn K (.ref W) "__getattribute__"=some (some (.builtin "type.__getattribute__"))
 rd:PySem.W.readsIn K W (.type "type")=true
 fd:PySem.W.findCls K (.ref W) (.type "type") "__init__"=some (.val (.builtin "ValueError.__init__"))
end
noncomputable def Q4:List V→Hp→VK→Prop:=fun xs H Q=>∃ a b:Int,xs=[.int a,.int b]∧Q (.int (min a b)) H
section
variable {X:Cx}
theorem Le (hc:X.calm=true):mi X (.builtin "min") Q4:=by
 intro pins s σ H xs us Q I r h
 obtain ⟨a,b,rfl,q⟩:=h
 obtain ⟨u,v,rfl,rx,ry⟩:=LL r
 obtain ⟨t,rfl⟩:=rx
 obtain ⟨t',rfl⟩:=ry
 refine min_two_ints (I.ok.hd hc) fun h' tk hk=>?_
 refine ⟨.int (min a b),H,I.kept hk,?_,q⟩
 by_cases hb:b < a
 ·rw [if_pos hb,show min a b=b by omega];exact ⟨_,rfl⟩
 ·rw [if_neg hb,show min a b=a by omega];exact ⟨_,rfl⟩
end
theorem SQ {a b:Int} {H:Hp} {Q:VK} (h:Q (.int (min a b)) H):Q4 [.int a,.int b] H Q:=⟨a,b,rfl,h⟩
theorem Pm (a b:Nat):min (a:Int) (b:Int)=((min a b:Nat):Int):=by omega
end L2
namespace PySem
end PySem
namespace L2
open PySem PySem.Spec PyProof.Rows
end L2
namespace PySem
end PySem
namespace L2
open PySem PySem.Spec PyProof.Rows
noncomputable def del (H:Hp) (p:Addr):Hp:=fun b=>if b=p then none else H b
inductive PH (X:Cx) (Wo:XW):List ExceptHandler→(Ends→XW)→Prop where
 | nil:PH X Wo [] (fun _=>Wo)
 | cons {G:Addr} {g n:Str} {i:Nat} {gp hp:Pos} {b₀:Stmt} {suite:List Stmt} {ts:TS} {hs:List ExceptHandler} {WR:Ends→XW} (cg:Aq X.K G) (hg:Gl X g) (hm:X.mg g=some (.ref G)) (hi:X.N[i]? =some n) (hk:X.env.scope.names.lookup n=some .local)
   (hs':∀ pins e,PSs (X.mark pins e) (b₀::suite) ts) (hdb:(g == ("__debug__":Str))=false) (r:PH X Wo hs WR):PH X Wo (.ExceptHandler (some (.Name g gp)) (some n) (b₀::suite) hp::hs) (fun D=>WTry X.K G i (WR D) ts D)
structure Qd (osc:Scope) (ON N:List Str) (n:Nat) (fx:List Nat) (x0:Str) (sc:Scope):Prop where
 kind:sc.kind= .function
 one:∃ pre post,sc.names=pre++(x0,.cell)::post∧(∀ y∈pre,y.2≠.cell)∧∀ y∈post,y.2≠.cell
 its:sc.names.lookup x0=some .cell
 own:∀ y∈sc.names,y.2= .local→sc.names.lookup y.1=some .local
 fre:∀ y∈sc.names,y.2= .free→osc.names.lookup y.1=some .cell∨osc.names.lookup y.1=some .free
 len:N.length=n + fx.length
 frn:∀ k,k < fx.length→∃ x j,N[n + k]? =some x∧fx[k]? =some j∧ON[j]? =some x∧sc.names.lookup x=some .free
noncomputable def Q6:List V→Hp→VK→Prop:=fun xs H Q=>∃ i j,xs=[.int i,.int j]∧CDiv i j∧∀ p,H p=none→Q (.ref p) (upd H p (.tup [.int (i / j),.int (i % j)]))
theorem HV {X:Cx}:mi X (.builtin "divmod") Q6:=EU
theorem QU {i j:Int} {H:Hp} {Q:VK} (h1:0 < j) (h2:j < 1073741824) (h:∀ p H2,H p=none→Same H H2→H2 p=some (.tup [.int (i / j),.int (i % j)])→Q (.ref p) H2):Q6 [.int i,.int j] H Q:=⟨i,j,rfl,⟨h1,h2⟩,fun p hp=>h p _ hp (fQ hp) bo⟩
section
variable {σ:St} {H:Hp} {D:Ends} {t u:TS}
theorem QF (h:∀ R:St→Hp→Prop,(∀ σ H,u D σ H→R σ H)→t {D with nx:=R} σ H):tSeq t u D σ H:=h _ fun _ _ q=>q
theorem s_go {R X:St→Hp→Prop} (e:∀ σ H,X σ H→R σ H) (h:X σ H):R σ H:=e _ _ h
end
end L2
namespace ST
open PySem PySem.SetTable
theorem z8 (l:List Nat) (hp:l.Pairwise (· < ·)) (j:Nat):∀ (f lo hi:Nat),hi≤lo + f→lo≤hi→hi≤l.length→(∀ k (h:k < l.length),k < lo→l[k] < j)→(∀ k (h:k < l.length),hi≤k→j≤l[k])→
  below.go l.toArray j f lo hi≤l.length∧(∀ k (h:k < l.length),k < below.go l.toArray j f lo hi→l[k] < j)∧(∀ k (h:k < l.length),below.go l.toArray j f lo hi≤k→j≤l[k])
 | 0,lo,hi,h1,h2,h3,h4,h5=>⟨by show lo≤_;omega,fun k h hk=>h4 k h hk,fun k h hk=>h5 k h (by have:lo≤k:=hk;omega)⟩
 | f + 1,lo,hi,h1,h2,h3,h4,h5=>by
   unfold below.go
   by_cases h:lo < hi
   ·rw [if_pos h]
    dsimp only
    have hm:(lo + hi) / 2 < l.length:=by omega
    have e:l.toArray.getD ((lo + hi) / 2) j=l[(lo + hi) / 2]:=by simp [Array.getD,hm]
    rw [e]
    have pw:=List.pairwise_iff_getElem.mp hp
    by_cases hq:l[(lo + hi) / 2] < j
    ·rw [if_pos hq]
     refine z8 l hp j f _ hi (by omega) (by omega) h3 (fun k hk hlt=>?_) h5
     by_cases h6:k=(lo + hi) / 2
     ·subst h6;exact hq
     ·exact Nat.lt_trans (pw k _ hk hm (by omega)) hq
    ·rw [if_neg hq]
     refine z8 l hp j f lo _ (by omega) (by omega) (by omega) h4 (fun k hk hle=>?_)
     by_cases h6:k=(lo + hi) / 2
     ·subst h6;omega
     ·have:=pw _ k hm hk (by omega);omega
   ·rw [if_neg h]
    exact ⟨by omega,h4,fun k hk hle=>h5 k hk (by omega)⟩
theorem qG {xs:Array Nat} (hp:xs.toList.Pairwise (· < ·)) (j:Nat):
  below xs j≤xs.toList.length∧(∀ k (h:k < xs.toList.length),k < below xs j→xs.toList[k] < j)∧(∀ k (h:k < xs.toList.length),below xs j≤k→j≤xs.toList[k]):=by
 have:=z8 xs.toList hp j xs.size 0 xs.size (by omega) (Nat.zero_le _) (by simp) (fun k h hk=>absurd hk (Nat.not_lt_zero k)) (fun k h hk=>absurd h (by simp;omega))
 simpa [below] using this
theorem Jd {xs:Array Nat} (hp:xs.toList.Pairwise (· < ·)) (j:Nat):∀ y∈xs.toList.take (below xs j),y < j:=fun y hy=>by
 obtain ⟨k,hk,rfl⟩:=List.mem_iff_getElem.mp hy
 rw [List.length_take] at hk
 rw [List.getElem_take]
 exact (qG hp j).2.1 k (by omega) (by omega)
theorem KU {xs:Array Nat} (hp:xs.toList.Pairwise (· < ·)) (j:Nat):∀ y∈xs.toList.drop (below xs j),j≤y:=fun y hy=>by
 obtain ⟨k,hk,rfl⟩:=List.mem_iff_getElem.mp hy
 rw [List.length_drop] at hk
 rw [List.getElem_drop]
 exact (qG hp j).2.2 _ (by omega) (by omega)
theorem Mp {xs:Array Nat} (hp:xs.toList.Pairwise (· < ·)) {j:Nat} (hj:j∉xs.toList):(insertAt xs (below xs j) j).toList.Pairwise (· < ·):=by
 rw [toList_insertAt,List.pairwise_append]
 refine ⟨hp.sublist (List.take_sublist ..),List.pairwise_cons.mpr ⟨fun y hy=>?_,hp.sublist (List.drop_sublist ..)⟩,fun x hx y hy=>?_⟩
 ·have h1:=KU hp j y hy
  have h2:y≠j:=fun h=>hj (h ▸ List.mem_of_mem_drop hy)
  omega
 ·rcases List.mem_cons.mp hy with rfl | hy
  ·exact Jd hp _ x hx
  ·have h1:=Jd hp j x hx
   have h2:=KU hp j y hy
   omega
theorem Ib {xs:Array Nat} (hp:xs.toList.Pairwise (· < ·)) {i:Nat} (hi:i < xs.toList.length) {j:Nat} (h1:j≤xs.toList[i]) (h2:∀ k (h:k < xs.toList.length),k < i→xs.toList[k] < j):below xs j=i:=by
 have s:=qG hp j
 by_cases h:below xs j < i
 ·have:=s.2.2 (below xs j) (by omega) (Nat.le_refl _)
  have:=h2 (below xs j) (by omega) h
  omega
 ·by_cases h':i < below xs j
  ·have:=s.2.1 i hi h'
   omega
  ·omega
structure Tb (t:SetTable) (hs:List Int):Prop where
 dm:t.dummies=#[]
 pn:t.plain=true
 rs:t.place.toList.Pairwise (· < ·)
 sz:t.place.toList.length=hs.length
 nf:hs.length * 5 < t.mask * 3
 k:(t.mask=7∧∀ j∈t.place.toList,j≤7)∨((t.mask=31∨t.mask=127)∧t.place.toList.map (fun n:Nat=>(n:Int))=hs)
theorem zB (j:Nat):has #[] j=false:=by unfold has;simp
theorem Jr {t:SetTable} (hd:t.dummies=#[]) {j:Nat} (hj:j∉t.place.toList):t.slot j= .empty:=by
 unfold slot
 dsimp only
 rw [if_neg,hd,zB,if_neg (by decide)]
 intro h
 have h:t.place[below t.place j]? =some j:=by simpa using h
 exact hj (by rw [← Array.getElem?_toList] at h;exact List.mem_of_getElem? h)
noncomputable def t8 (p:List Nat):SetTable:={mask:=7,place:=p.toArray,dummies:=#[],finger:=0,led:=true,moves:=0,plain:=true}
noncomputable def bm:List Nat→Nat
 | []=>0
 | j::l=>2 ^ j||| bm l
structure Ow (M:Nat) (owner:Array (Option Nat)) (pre:List Int):Prop where
 sz:owner.size=M + 1
 at':∀ j,j≤M→owner.getD j none=pre.findIdx? (· == (j:Int))
noncomputable def Sm (hs:List Int):Prop:=∀ h∈hs,∃ n:Nat,h=(n:Int)∧n < 32
noncomputable def fin (t:SetTable) (es:Array (Int×Value)) (h:Int) (x:Value):Array (Int×Value)×SetTable:=
 if (!(layNew t es h x).2.2.1&&(layNew t es h x).2.1.tooFull)=true then ((relayAll (layNew t es h x).2.1 (layNew t es h x).1 (grown (layNew t es h x).1.size)).1,(relayAll (layNew t es h x).2.1 (layNew t es h x).1 (grown (layNew t es h x).1.size)).2.1) else ((layNew t es h x).1,(layNew t es h x).2.1)
open PyProof.Rows
noncomputable abbrev byT (w:World):Bool:=w.params.followText "set-order"
structure SI (w:World) (o:Obj) (ns:List Int) (es:Array (Int×Value)) (ep:Nat) (t:SetTable):Prop where
 ex:o.ExactSet
 d:o.data= .set es ep t
 v:∀ e∈es.toList,∃ tk,e.2= .int e.1 tk
 p:(es.toList.map (·.1)).Perm ns
 f:t.fits es.size=true
 l:t.led= !byT w
 tb:byT w=false→Tb t (es.toList.map (·.1))
section
variable {prog:Program} {w:World} {A:Around} {E:Value→Shared→Prop} {s:Shared}
noncomputable abbrev nso (w:World):Obj:={cls:= .type "set",dict:=none,data:= .set #[] 0 (.fresh 0 0 (!byT w))}
theorem Nd (a:Value) {Q:Value→Shared→Prop} (h:Q (.ref s.heap.objs.size) {s with heap:=s.heap.push (nso w)}):
  codeAny (model prog w) A (.call (.builtin "set.__new__") ⟨[.type "set",a],[]⟩) (wants Q E) s:=by
 refine codeAny_of_tree (show wpAny _ A.in1 (checkBuiltinCall "set.__new__" ⟨[.type "set",a],[]⟩ >>=fun _=>again (.builtin "set.__new__" ⟨[.type "set",a],[]⟩)) _ _ s from ?_)
 refine wpAny_bind (wpAny_of_eq (F.newCall_set_1 a) (wpAny_pure ⟨plainId_quiet F.plain_set_new _,codeAny_builtin F.entry_set_new ?_⟩))
 rw [Around.under_plainId F.plain_set_new _]
 unfold Builtin.«set.__new__» Builtin.Frozenset.newClass
 have hsub:=sub_set_self
 obtain ⟨hp,g,d,tk,os⟩:=s
 dsimp only
 wp_walk
 refine wpAny_askSetting (wpAny_pure ?_)
 dsimp only
 simp only [newObj]
 exact wpAny_bind (wpAny_alloc (wpAny_pure (wpAny_pure h)))
end
open PySem.W PySem.Spec L2
end ST
namespace L2
open PySem PySem.Spec PyProof.Rows
end L2
namespace ST
open PySem PySem.SetTable PyProof.Rows
end ST
namespace L2
open PySem PySem.Spec PyProof.Rows
end L2
namespace ST
open PySem PySem.SetTable
noncomputable def lp (M:Nat):Nat→Nat×Nat→Nat×Nat
 | 0,q=>q
 | n + 1,q=>lp M n (leap M q.1 q.2)
theorem RA {M:Nat}:∀ (n:Nat) {q:Nat×Nat},q.1≤M→(lp M n q).1≤M
 | 0,_,h=>h
 | n + 1,q,h=>RA n (Nat.le_of_lt_succ (Nat.mod_lt _ (Nat.succ_pos M)))
theorem NX {M:Nat}:∀ (n:Nat) (q:Nat×Nat),(lp M n q).2=q.2 / 32 ^ n
 | 0,q=>by show q.2=_;rw [Nat.pow_zero,Nat.div_one]
 | n + 1,q=>by
   show (lp M n (leap M q.1 q.2)).2=_
   rw [NX n]
   show q.2 / 32 / 32 ^ n=_
   rw [Nat.div_div_eq_div_mul,Nat.pow_succ,Nat.mul_comm]
theorem NY {M:Nat}:∀ (a b:Nat) (q:Nat×Nat),lp M (a + b) q=lp M b (lp M a q)
 | 0,b,q=>by rw [Nat.zero_add];rfl
 | a + 1,b,q=>by
   rw [show a + 1 + b=(a + b) + 1 by omega]
   show lp M (a + b) _=lp M b (lp M a _)
   exact NY a b _
theorem RZ:∀ i:Fin 8,∀ z:Fin 8,∃ n:Fin 8,(lp 7 n.1 (i.1,0)).1=z.1:=by decide +kernel
theorem P1:∀ i:Fin 32,∀ z:Fin 32,∃ n:Fin 32,(lp 31 n.1 (i.1,0)).1=z.1:=by decide +kernel
theorem S7 {M:Nat} (hM:M=7∨M=31) {i z:Nat} (hi:i≤M) (hz:z≤M):∃ n,n≤M∧(lp M n (i,0)).1=z:=by
 rcases hM with rfl | rfl
 ·obtain ⟨n,h⟩:=RZ ⟨i,by omega⟩ ⟨z,by omega⟩
  exact ⟨n.1,by have:=n.2;omega,h⟩
 ·obtain ⟨n,h⟩:=P1 ⟨i,by omega⟩ ⟨z,by omega⟩
  exact ⟨n.1,by have:=n.2;omega,h⟩
theorem Q1 {M:Nat} (hM:M=7∨M=31) {i p z:Nat} (hi:i≤M) (hp:p < 2 ^ 64) (hz:z≤M):∃ n,n≤M + 13∧(lp M n (i,p)).1=z:=by
 have h2:(lp M 13 (i,p)).2=0:=by
  rw [NX]
  exact Nat.div_eq_of_lt (Nat.lt_of_lt_of_le hp (by decide))
 obtain ⟨n,hn,e⟩:=S7 hM (RA 13 (q:=(i,p)) hi) hz
 refine ⟨13 + n,by omega,?_⟩
 rw [NY,← e,← h2]
theorem BP {M:Nat} {owner:Array (Option Nat)}:∀ (n fuel i p:Nat),n < fuel→owner.getD (lp M n (i,p)).1 (some 0)=none→∃ j,layClean.free M owner fuel i p=some j∧owner.getD j (some 0)=none
 | n,0,i,p,h,_=>absurd h (by omega)
 | n,fuel + 1,i,p,h,e=>by
   unfold layClean.free
   cases hf:(List.range (runEnd M i + 1 - i)).find? fun k=>(owner.getD (i + k) (some 0)).isNone with
   | some k=>
     refine ⟨i + k,rfl,?_⟩
     have:=List.find?_some hf
     exact Option.isNone_iff_eq_none.mp this
   | none=>
     match n,h,e with
     | 0,h,e=>
       exfalso
       have h1:=List.find?_eq_none.mp hf 0 (List.mem_range.mpr (by unfold runEnd;split<;>omega))
       apply h1
       rw [Nat.add_zero]
       exact Option.isNone_iff_eq_none.mpr e
     | n + 1,h,e=>exact BP n fuel _ _ (by omega) e
theorem yH (M i:Nat):runEnd M i - i≤9:=by unfold runEnd;split<;>omega
theorem JB {M i:Nat} (h:i≤M):i + (runEnd M i - i)≤M:=by unfold runEnd;split<;>omega
theorem Gx {t:SetTable} (hd:t.dummies=#[]) (j:Nat):t.slot j≠.dummy:=by
 unfold slot
 dsimp only
 split
 ·exact fun z=>by cases z
 ·rw [hd,zB,if_neg (by decide)];exact fun z=>by cases z
theorem Jq {t:SetTable} {j i:Nat} (h:t.slot j= .live i):i < t.place.size:=by
 unfold slot at h
 dsimp only at h
 split at h
 ·rename_i h1
  injection h with h
  subst h
  have h1:=beq_iff_eq.mp h1
  exact (Array.getElem?_eq_some_iff.mp h1).1
 ·split at h<;>cases h
theorem zD {t:SetTable} (hd:t.dummies=#[]) {f:Nat→Int} {h:Int} (hh:∀ i,i < t.place.size→f i≠h):∀ (fuel n:Nat) (p:Probe),p.more≤9→p.j + p.more≤t.mask→p.more + 10 * n < fuel→p.dummy=none→(n=0→p.j=p.i)→t.slot (lp t.mask n (p.i,p.perturb)).1= .empty→∃ j,probe.go t f h fuel p=some (.empty j none)∧t.slot j= .empty∧j≤t.mask
 | 0,n,p,_,_,hf,_,_,_=>absurd hf (by omega)
 | fuel + 1,n,p,hm,hjm,hf,hdm,hj,e=>by
   unfold probe.go
   cases hs:t.slot p.j with
   | empty=>exact ⟨p.j,by rw [hdm],hs,by omega⟩
   | dummy=>exact absurd hs (Gx hd _)
   | live i=>
     dsimp only
     rw [if_neg (by rw [beq_iff_eq];exact hh i (Jq hs))]
     have hn:0 < n:=Nat.pos_of_ne_zero fun z=>by
      subst z
      have e:t.slot p.i= .empty:=e
      rw [← hj rfl,hs] at e
      cases e
     by_cases h0:p.more > 0
     ·refine zD hd hh fuel n (t.advance p) ?_ ?_ ?_ ?_ (fun z=>absurd z (by omega)) ?_<;>unfold advance<;>rw [if_pos h0]
      ·show p.more - 1≤9;omega
      ·show p.j + 1 + (p.more - 1)≤t.mask;omega
      ·show p.more - 1 + 10 * n < fuel;omega
      ·exact hdm
      ·exact e
     ·obtain ⟨k,rfl⟩:∃ k,n=k + 1:=⟨n - 1,by omega⟩
      have hr:=yH t.mask (leap t.mask p.i p.perturb).1
      refine zD hd hh fuel k (t.advance p) ?_ ?_ ?_ ?_ (fun _=>?_) ?_<;>unfold advance<;>rw [if_neg h0]
      ·exact hr
      ·exact JB (Nat.le_of_lt_succ (Nat.mod_lt _ (Nat.succ_pos _)))
      ·show runEnd t.mask (leap t.mask p.i p.perturb).1 - (leap t.mask p.i p.perturb).1 + 10 * k < fuel;omega
      ·exact hdm
      ·exact e
theorem DC {t:SetTable} (hM:t.mask=7∨t.mask=31) (hd:t.dummies=#[]) {f:Nat→Int} {h:Int} (hh:∀ i,i < t.place.size→f i≠h) {z:Nat} (hz:z≤t.mask) (ez:t.slot z= .empty):∃ j,t.probe f h (t.probeStart h)=some (.empty j none)∧t.slot j= .empty∧j≤t.mask:=by
 have hb:bits h < 2 ^ 64:=by unfold bits;omega
 have hi:bits h % (t.mask + 1)≤t.mask:=Nat.le_of_lt_succ (Nat.mod_lt _ (Nat.succ_pos _))
 obtain ⟨n,hn,e⟩:=Q1 hM hi hb hz
 refine zD hd hh _ n _ (yH _ _) (JB hi) ?_ rfl (fun _=>rfl) (by show t.slot (lp t.mask n (bits h % (t.mask + 1),bits h)).1=_;rw [e];exact ez)
 have:=yH t.mask (bits h % (t.mask + 1))
 show runEnd t.mask (bits h % (t.mask + 1)) - bits h % (t.mask + 1) + 10 * n < 10 * (t.mask + 15)
 omega
theorem KP:∀ {l:List (Option Nat)},(∀ j,j < l.length→l[j]? ≠some none)→(l.filterMap id).length=l.length
 | [],_=>rfl
 | none::l,h=>absurd rfl (h 0 (by simp))
 | some a::l,h=>by
   rw [List.filterMap_cons_some (f:=id) (a:=some a) (b:=a) rfl,List.length_cons,List.length_cons,KP fun j hj z=>h (j + 1) (by simp;omega) (by rw [List.getElem?_cons_succ];exact z)]
theorem RO {l:List (Option Nat)} {j k:Nat} (h:l[j]? =some none):((l.set j (some k)).filterMap id).Perm (k::l.filterMap id):=by
 have hj:=(List.getElem?_eq_some_iff.mp h).1
 have e:l=l.take j++none::l.drop (j + 1):=by
  have h1:=(List.getElem?_eq_some_iff.mp h).2
  rw [← h1]
  exact (by rw [← List.drop_eq_getElem_cons hj,List.take_append_drop]:l=l.take j++l[j]::l.drop (j + 1))
 have e2:(l.set j (some k)).filterMap id=(l.take j).filterMap id++k::(l.drop (j + 1)).filterMap id:=by
  rw [List.set_eq_take_append_cons_drop,if_pos hj,List.filterMap_append,List.filterMap_cons_some (f:=id) (a:=some k) (b:=k) rfl]
 have e3:l.filterMap id=(l.take j).filterMap id++(l.drop (j + 1)).filterMap id:=by
  conv=>lhs;rw [e]
  rw [List.filterMap_append,List.filterMap_cons_none (f:=id) (a:=none) rfl]
 rw [e2,e3]
 exact List.perm_middle
theorem F1 {M:Nat} (hM:M=7∨M=31) {f:Option (Array (Option Nat)×Nat)→Int→Option (Array (Option Nat)×Nat)} (hf:∀ owner k h j,layClean.free M owner (turns M) (bits h % (M + 1)) (bits h)=some j→f (some (owner,k)) h=some (owner.setIfInBounds j (some k),k + 1)):
  ∀ (hs:List Int) (owner:Array (Option Nat)) (k:Nat),owner.size=M + 1→(owner.toList.filterMap id).Perm (List.range k)→k + hs.length≤M→∃ owner',hs.foldl f (some (owner,k))=some (owner',k + hs.length)∧owner'.size=M + 1∧(owner'.toList.filterMap id).Perm (List.range (k + hs.length))
 | [],owner,k,hs,hp,_=>⟨owner,rfl,hs,hp⟩
 | h::hs,owner,k,hz,hp,hl=>by
   rw [List.length_cons] at hl
   have lk:(owner.toList.filterMap id).length=k:=by rw [hp.length_eq,List.length_range]
   obtain ⟨z,hzl,ez⟩:∃ z,z < owner.toList.length∧owner.toList[z]? =some none:=by
    refine Classical.byContradiction fun no=>?_
    have:=KP (l:=owner.toList) fun j hj e=>no ⟨j,hj,e⟩
    rw [lk,Array.length_toList,hz] at this
    omega
   rw [Array.length_toList,hz] at hzl
   have gd:∀ j,owner.getD j (some 0)=none→owner.toList[j]? =some none:=fun j hj=>by
    rw [Array.getElem?_toList]
    unfold Array.getD at hj
    split at hj
    ·rename_i h1
     rw [Array.getElem?_eq_getElem h1];exact congrArg some hj
    ·cases hj
   have hb:bits h < 2 ^ 64:=by unfold bits;omega
   obtain ⟨n,hn,e⟩:=Q1 hM (i:=bits h % (M + 1)) (p:=bits h) (Nat.le_of_lt_succ (Nat.mod_lt _ (Nat.succ_pos _))) hb (show z≤M by omega)
   have ezd:owner.getD z (some 0)=none:=by
    have h1:z < owner.size:=by omega
    rw [Array.getElem?_toList,Array.getElem?_eq_getElem h1] at ez
    unfold Array.getD
    rw [dif_pos h1];exact Option.some.inj ez
   obtain ⟨j,hj,ej⟩:=BP (M:=M) (owner:=owner) n (turns M) _ _ (by unfold turns;omega) (by rw [e];exact ezd)
   have ej':=gd j ej
   rw [List.foldl_cons,hf owner k h j hj]
   have p2:((owner.setIfInBounds j (some k)).toList.filterMap id).Perm (List.range (k + 1)):=by
    rw [Array.toList_setIfInBounds,List.range_succ]
    exact (RO ej').trans ((hp.cons k).trans (List.perm_append_singleton k _).symm)
   obtain ⟨o',h1,h2,h3⟩:=F1 hM hf hs _ (k + 1) (by rw [Array.size_setIfInBounds];exact hz) p2 (by omega)
   refine ⟨o',?_,h2,?_⟩
   ·rw [h1,List.length_cons];congr 2;omega
   ·rw [List.length_cons,show k + (hs.length + 1)=k + 1 + hs.length by omega];exact h3
theorem Pr {M:Nat} (hM:M=7∨M=31) {hs:Array Int} (hl:hs.toList.length≤M):∃ owner,layClean M hs=some owner∧owner.size=M + 1∧(owner.toList.filterMap id).Perm (List.range hs.toList.length):=by
 unfold layClean
 rw [← Array.foldl_toList]
 obtain ⟨o',e,o,p⟩:=F1 hM (f:=fun acc h=>do
  let (owner,k) ← acc
  let j ← layClean.free M owner (turns M) (bits h % (M + 1)) (bits h)
  pure (owner.setIfInBounds j (some k),k + 1)) (fun owner k h j e=>by
   show (layClean.free M owner (turns M) (bits h % (M + 1)) (bits h)).bind _=_
   rw [e];rfl) hs.toList (Array.replicate (M + 1) none) 0 Array.size_replicate (by
    rw [Array.toList_replicate]
    have:∀ n,(List.replicate n (none:Option Nat)).filterMap id=[]:=fun n=>by
     induction n with
     | zero=>rfl
     | succ n ih=>rw [List.replicate_succ,List.filterMap_cons_none (f:=id) (a:=none) rfl,ih]
    rw [this];exact List.Perm.refl _) (by omega)
 refine ⟨o',?_,o,by rw [Nat.zero_add] at p;exact p⟩
 have e':hs.toList.foldl (fun acc h=>do
  let (owner,k) ← acc
  let j ← layClean.free M owner (turns M) (bits h % (M + 1)) (bits h)
  pure (owner.setIfInBounds j (some k),k + 1)) (some (Array.replicate (M + 1) none,0))=some (o',0 + hs.toList.length):=e
 rw [e'];rfl
noncomputable def own (owner:Array (Option Nat)) (n:Nat):List (Nat×Nat):=(List.range n).filterMap fun j=>(owner.getD j none).map (j,·)
theorem JP (owner:Array (Option Nat)):∀ n,n≤owner.size→(own owner n).map (·.2)=(owner.toList.take n).filterMap id
 | 0,_=>by rw [List.take_zero];rfl
 | n + 1,h=>by
   have h1:n < owner.size:=by omega
   unfold own
   rw [List.range_succ,List.filterMap_append,List.map_append]
   have:=JP owner n (by omega)
   unfold own at this
   rw [this,List.take_add_one,List.filterMap_append,Array.getElem?_toList,Array.getElem?_eq_getElem h1]
   congr 1
   have e:owner.getD n none=owner[n]:=by unfold Array.getD;rw [dif_pos h1];rfl
   cases h2:owner[n] with
   | none=>rw [List.filterMap_cons_none (by rw [e,h2];rfl)];rfl
   | some a=>rw [List.filterMap_cons_some (b:=(n,a)) (by rw [e,h2];rfl)];rfl
theorem MB (owner:Array (Option Nat)) (n:Nat):(own owner n).Pairwise (fun a b=>a.1 < b.1)∧∀ q∈own owner n,q.1 < n:=by
 refine ⟨?_,fun q hq=>?_⟩
 ·unfold own
  rw [List.pairwise_filterMap]
  refine List.pairwise_lt_range.imp fun {a b} h x hx y hy=>?_
  obtain ⟨x',_,rfl⟩:=Option.map_eq_some_iff.mp hx
  obtain ⟨y',_,rfl⟩:=Option.map_eq_some_iff.mp hy
  exact h
 ·obtain ⟨j,hj,e⟩:=List.mem_filterMap.mp hq
  obtain ⟨x',_,rfl⟩:=Option.map_eq_some_iff.mp e
  exact List.mem_range.mp hj
theorem GH {t:SetTable} {hs:Array Int} {wanted M:Nat} (hw:sizeAbove wanted - 1=M) (hM:M=7∨M=31) (hl:hs.toList.length≤M):∃ t' order,t.relaid hs wanted=some (t',order)∧t'.mask=M∧t'.dummies=#[]∧t'.led=t.led∧t'.plain=t.plain∧t'.place.toList.Pairwise (· < ·)∧(∀ j∈t'.place.toList,j≤M)∧t'.place.toList.length=hs.toList.length∧order.toList.Perm (List.range hs.toList.length):=by
 obtain ⟨owner,e,ho,p⟩:=Pr hM hl
 obtain ⟨r1,r2⟩:=MB owner (M + 1)
 have e2:=JP owner (M + 1) (by omega)
 rw [List.take_of_length_le (by rw [Array.length_toList];omega)] at e2
 have key:t.relaid hs wanted=some ({mask:=M,place:=((own owner (M + 1)).map (·.1)).toArray,dummies:=#[],finger:=t.finger,led:=t.led,moves:=t.movedTo M,plain:=t.plain},((own owner (M + 1)).map (·.2)).toArray):=by
  unfold relaid laid;rw [hw,e];rfl
 refine ⟨_,_,key,rfl,rfl,rfl,rfl,?_,fun j hj=>?_,?_,?_⟩
 ·show (((own owner (M + 1)).map (·.1)).toArray).toList.Pairwise (· < ·)
  rw [List.pairwise_map];exact r1
 ·have hj:j∈(own owner (M + 1)).map (·.1):=hj
  obtain ⟨q,hq,rfl⟩:=List.mem_map.mp hj
  have:=r2 q hq;omega
 ·show ((own owner (M + 1)).map (·.1)).length=_
  rw [List.length_map,← List.length_map (f:=(·.2)),e2,p.length_eq,List.length_range]
 ·show ((own owner (M + 1)).map (·.2)).Perm _
  rw [e2];exact p
structure TG (t:SetTable) (n:Nat):Prop where
 dm:t.dummies=#[]
 rs:t.place.toList.Pairwise (· < ·)
 le:∀ j∈t.place.toList,j≤t.mask
 M:t.mask=7∨t.mask=31
 sz:t.place.toList.length=n
theorem TG.fresh (f m:Nat) (led:Bool):TG (.fresh f m led) 0:=⟨rfl,by simp [SetTable.fresh],fun j hj=>by simp [SetTable.fresh] at hj,.inl rfl,rfl⟩
theorem TG.room {t:SetTable} {n:Nat} (g:TG t n) (h:n≤t.mask):∃ z,z≤t.mask∧t.slot z= .empty:=by
 refine Classical.byContradiction fun no=>?_
 have sub:List.range (t.mask + 1) ⊆ t.place.toList:=fun z hz=>by
  refine Classical.byContradiction fun hn=>no ⟨z,by have:=List.mem_range.mp hz;omega,Jr g.dm hn⟩
 have:=List.Nodup.length_le_of_subset List.nodup_range sub
 rw [List.length_range,g.sz] at this
 omega
theorem TG.find {t:SetTable} {n:Nat} (g:TG t n) (hn:n≤t.mask) {f:Nat→Int} {h:Int} (hh:∀ i,i < n→f i≠h):∃ j,t.probe f h (t.probeStart h)=some (.empty j none)∧t.slot j= .empty∧j≤t.mask:=by
 obtain ⟨z,hz,e⟩:=g.room hn
 exact DC g.M g.dm (fun i hi=>hh i (by rw [← g.sz,Array.length_toList];exact hi)) hz e
theorem Gw {t:SetTable} (hp:t.place.toList.Pairwise (· < ·)) {j:Nat} (h:t.slot j= .empty):j∉t.place.toList:=fun hm=>by
 obtain ⟨i,hi,e⟩:=List.mem_iff_getElem.mp hm
 have hb:below t.place j=i:=Ib hp hi (by omega) fun k hk hlt=>by
  have:=List.pairwise_iff_getElem.mp hp k i hk hi hlt
  omega
 unfold slot at h
 dsimp only at h
 have hi':i < t.place.size:=by rw [← Array.length_toList];exact hi
 rw [hb,if_pos (by rw [beq_iff_eq,Array.getElem?_eq_getElem hi'];exact congrArg some e)] at h
 cases h
theorem TG.put {t:SetTable} {n j:Nat} (g:TG t n) (hj:j≤t.mask) (e:t.slot j= .empty):TG (t.put j).1 (n + 1)∧(t.put j).1.mask=t.mask∧(t.put j).1.led=t.led∧(t.put j).1.plain=t.plain:=by
 have hn:=Gw g.rs e
 have hl:(insertAt t.place (below t.place j) j).toList.length=n + 1:=by
  rw [Array.length_toList,← g.sz,Array.length_toList]
  have:=(SetTable.insertAt_perm t.place (below t.place j) j).length_eq
  rw [Array.length_toList,Array.length_toList,Array.size_push] at this
  exact this
 refine ⟨⟨?_,Mp g.rs hn,fun k hk=>?_,g.M,hl⟩,rfl,rfl,rfl⟩
 ·show (if has t.dummies j then _ else t.dummies)=#[]
  rw [g.dm,zB,if_neg (by decide)]
 ·have hk:k∈(insertAt t.place (below t.place j) j).toList:=hk
  have:=(SetTable.insertAt_perm t.place (below t.place j) j).mem_iff.mp hk
  rw [Array.toList_push,List.mem_append,List.mem_singleton] at this
  rcases this with h | h
  ·exact g.le k h
  ·rw [h];exact hj
theorem TG.relay {t:SetTable} {n:Nat} {hs:Array Int} {wanted:Nat} (hw:sizeAbove wanted - 1=31) (hl:hs.toList.length=n) (hn:n≤31):∃ t' order,t.relaid hs wanted=some (t',order)∧TG t' n∧t'.mask=31∧t'.led=t.led∧t'.plain=t.plain∧order.toList.Perm (List.range n):=by
 obtain ⟨t',o,h1,h2,h3,h4,h5,h6,h7,h8,h9⟩:=GH (t:=t) (hs:=hs) hw (.inr rfl) (by omega)
 exact ⟨t',o,h1,⟨h3,h6,by rw [h2];exact h7,.inr h2,by omega⟩,h2,h4,h5,by rw [← hl];exact h9⟩
noncomputable def phs (a b:Nat):Int:=reduceHash (Builtin.Tuple.tupleHashOf [hashInt (a:Int),hashInt (b:Int)])
noncomputable def prl:List (Nat×Nat):=(List.range 41).flatMap fun a=>(List.range 7).map fun b=>(a,b)
noncomputable def phl:List Int:=prl.map fun q=>phs q.1 q.2
noncomputable def apart:List Int→Bool
 | []=>true
 | x::l=>l.all (fun y=> !(x == y))&&apart l
theorem JM:apart phl=true:=by decide +kernel
theorem CJ {α:Type} {f:α→Int}:∀ {l:List α},apart (l.map f)=true→∀ x∈l,∀ y∈l,f x=f y→x=y
 | [],_,x,hx,_,_,_=>by cases hx
 | a::l,h,x,hx,y,hy,e=>by
   rw [List.map_cons,apart,Bool.and_eq_true,List.all_eq_true] at h
   have no:∀ z∈l,f a≠f z:=fun z hz e=>by
    have:=h.1 (f z) (List.mem_map.mpr ⟨z,hz,rfl⟩)
    rw [e] at this
    simp at this
   rcases List.mem_cons.mp hx with h1 | h1
   ·rcases List.mem_cons.mp hy with h2 | h2
    ·rw [h1,h2]
    ·rw [h1] at e;exact absurd e (no y h2)
   ·rcases List.mem_cons.mp hy with h2 | h2
    ·rw [h2] at e;exact absurd e.symm (no x h1)
    ·exact CJ h.2 x h1 y h2 e
theorem Kb {a b:Nat} (ha:a < 41) (hb:b < 7):(a,b)∈prl:=List.mem_flatMap.mpr ⟨a,List.mem_range.mpr ha,List.mem_map.mpr ⟨b,List.mem_range.mpr hb,rfl⟩⟩
theorem phs_inj {a b c d:Nat} (ha:a < 41) (hb:b < 7) (hc:c < 41) (hd:d < 7) (e:phs a b=phs c d):a=c∧b=d:=by
 have:=CJ (f:=fun q:Nat×Nat=>phs q.1 q.2) JM (a,b) (Kb ha hb) (c,d) (Kb hc hd) e
 exact ⟨congrArg Prod.fst this,congrArg Prod.snd this⟩
open PyProof.Rows
section
variable {prog:Program} {w:World} {A:Around} {E:Value→Shared→Prop} {s:Shared}
theorem IT {a:Addr} {x:Value} {h:Int} {o:Obj} {es:Array (Int×Value)} {ep:Nat} {t:SetTable} {Q:SetFound→Shared→Prop} (ho:s.heap.get? a=some o) (hd:o.data= .set es ep t) (hf:t.fits es.size=true) (g:TG t es.size) (hn:es.size≤t.mask) (hh:∀ e∈es.toList,e.1≠h)
  (q:∀ j,j≤t.mask→t.slot j= .empty→Q (.free j false) s):wpAny (model prog w) A (setSearch a x h true) Q E s:=by
 obtain ⟨j,e,ej,hj⟩:=g.find hn (f:=fun i=>(es[i]?.map (·.1)).getD 0) (h:=h) fun i hi z=>by
  rw [Array.getElem?_eq_getElem hi] at z
  exact hh es[i] (Array.mem_toList_iff.mpr (Array.getElem_mem hi)) z
 have hg:t.gaveWay=false:=by unfold gaveWay;rcases g.M with h | h<;>rw [h]<;>rfl
 unfold setSearch setSearchFrom
 refine wpAny_bind (wpAny_setState_of ho hd hf ?_)
 dsimp only
 rw [hg]
 rw [if_neg (by decide)]
 generalize hp:t.probe _ h _=r
 have er:r=some (.empty j none):=hp.symm.trans e
 subst er
 exact wpAny_pure (q j hj ej)
end
section
variable {prog:Program} {w:World} {A:Around} {E:Value→Shared→Prop} {s:Shared}
theorem Ol {a:Addr} {x:Value} {h:Int} {o:Obj} {es:Array (Int×Value)} {ep:Nat} {t:SetTable} {Q:Bool→Shared→Prop} (ho:s.heap.get? a=some o) (hex:o.ExactSet) (hd:o.data= .set es ep t) (hf:t.fits es.size=true) (g:TG t es.size) (nf:es.size * 5 < t.mask * 3) (hn:es.size≤17) (hh:∀ e∈es.toList,e.1≠h) (hs:x.scannable=false)
  (hv:∀ {Q:Bool→Shared→Prop},Q true s→wpAny (model prog w) A (hashByValue 8 x) Q E s)
  (q:∀ (h':Heap) (o':Obj) (es':Array (Int×Value)) (ep':Nat) (t':SetTable),Heap.SameBut a s.heap h'→h'.get? a=some o'→o'.ExactSet→o'.data= .set es' ep' t'→t'.fits es'.size=true→TG t' es'.size→es'.size * 5 < t'.mask * 3→es'.toList.Perm (es.toList++[(h,x)])→Q true {s with heap:=h'}):wpAny (model prog w) A (setAddHashed a x h) Q E s:=by
 have hm:es.size≤t.mask:=by omega
 have hbs:byScan x es=false:=by unfold byScan;rw [hs];rfl
 unfold setAddHashed setAddHashedIn
 refine wpAny_holding (wpAny_bind (wpAny_setState_of ho hd hf ?_))
 dsimp only
 rw [hbs,if_neg (by decide)]
 refine wpAny_bind (IT ho hd hf g hm hh fun j hj ej=>?_)
 dsimp only
 refine wpAny_bind (wpAny_setState_of ho hd hf ?_)
 dsimp only
 obtain ⟨g1,m1,l1,p1⟩:=g.put hj ej
 obtain ⟨t1,et1⟩:∃ t1,t1=(t.put j).1:=⟨_,rfl⟩
 obtain ⟨e1,ee1⟩:∃ e1,e1=insertAt es (t.put j).2 (h,x):=⟨_,rfl⟩
 rw [← et1] at g1 m1 l1 p1 ⊢
 rw [← ee1]
 have pe:e1.toList.Perm (es.toList++[(h,x)]):=by
  rw [ee1]
  have:=SetTable.insertAt_perm es (t.put j).2 (h,x)
  rw [Array.toList_push] at this
  exact this
 have sz:e1.size=es.size + 1:=by have:=pe.length_eq;rw [List.length_append,Array.length_toList,Array.length_toList] at this;exact this
 have f1:t1.fits e1.size=true:=by
  have h1:=g1.sz
  rw [Array.length_toList] at h1
  unfold SetTable.fits SetTable.fill
  rw [g1.dm,h1,sz]
  simp only [Array.size_empty,Nat.add_zero,beq_self_eq_true,Bool.true_and,decide_eq_true_eq]
  omega
 have fin:wpAny (model prog w) A (storeSet a e1 t1 >>=fun _=>if (!false&&t1.tooFull)=true then (do setRelay a (grown (es.size + 1));pure true) else pure true) Q E s:=by
  refine wpAny_bind (wpAny_storeSet_of ho hd ?_ (by rw [sz,sizeLine_eq];omega))
  have hu:=Heap.get?_update_self (Obj.putSet e1 t1) ho (by rw [putSet_of e1 t1 hd];rfl)
  rw [putSet_of e1 t1 hd] at hu
  have sb:Heap.SameBut a s.heap (s.heap.update a (Obj.putSet e1 t1)):=Heap.SameBut.update _ a _
  have fl:t1.fill=es.size + 1:=by
   have h1:=g1.sz
   rw [Array.length_toList] at h1
   unfold SetTable.fill
   rw [g1.dm,h1];rfl
  split
  ·rename_i htf
   have h5:(es.size + 1) * 5≥t.mask * 3:=by
    rw [Bool.not_false,Bool.true_and] at htf
    unfold SetTable.tooFull at htf
    rw [fl,m1] at htf
    exact of_decide_eq_true htf
   have h4:es.size=4:=by rcases g.M with h | h<;>omega
   rw [h4]
   refine wpAny_bind ?_
   unfold setRelay
   refine wpAny_bind (wpAny_setState_of (s:={s with heap:=s.heap.update a (Obj.putSet e1 t1)}) hu rfl f1 ?_)
   obtain ⟨t2,od,hr,g2,m2,l2,p2,po⟩:=TG.relay (t:=t1) (n:=e1.size) (hs:=e1.map (·.1)) (wanted:=grown (4 + 1)) (by decide) (by rw [Array.length_toList,Array.size_map]) (by omega)
   dsimp only
   rw [hr]
   rw [if_neg (by rw [sizeLine_eq];decide)]
   have p3:(od.filterMap (e1[·]?)).toList.Perm e1.toList:=by
    rw [Array.toList_filterMap]
    refine (po.filterMap _).trans ?_
    have:=List.filterMap_getElem?_range_length e1.toList
    rw [Array.length_toList] at this
    simp only [Array.getElem?_toList] at this
    rw [this]
   have s3:(od.filterMap (e1[·]?)).size=e1.size:=by have:=p3.length_eq;rw [Array.length_toList,Array.length_toList] at this;exact this
   refine wpAny_bind ?_
   show wpAny _ _ (do
    let es':=od.filterMap (e1[·]?)
    if es'.size != e1.size then unsupported "internal:set-table-lost-an-element"
    pure (es',t2)) _ _ _
   dsimp only
   rw [if_neg (by rw [s3];simp)]
   refine wpAny_pure ?_
   generalize od.filterMap (e1[·]?)=e2 at p3 s3
   refine wpAny_storeSet_of (s:={s with heap:=s.heap.update a (Obj.putSet e1 t1)}) hu rfl ?_ (by rw [s3,sz,sizeLine_eq];omega)
   have hu2:=Heap.get?_update_self (Obj.putSet e2 t2) hu (by rw [putSet_of e2 t2 rfl];rfl)
   rw [putSet_of e2 t2 rfl] at hu2
   have f2:t2.fits e2.size=true:=by
    have h1:=g2.sz
    rw [Array.length_toList] at h1
    unfold SetTable.fits SetTable.fill
    rw [g2.dm,h1,s3]
    simp only [Array.size_empty,Nat.add_zero,beq_self_eq_true,Bool.true_and,decide_eq_true_eq]
    omega
   exact wpAny_pure (q _ _ e2 _ t2 (sb.trans (Heap.SameBut.update _ a _)) hu2 hex rfl f2 (by rw [s3];exact g2) (by rw [s3,sz,h4,m2];decide) (p3.trans pe))
  ·rename_i hnf
   refine wpAny_pure (q _ _ e1 _ t1 sb hu hex rfl f1 (by rw [sz];exact g1) ?_ pe)
   rw [Bool.not_false,Bool.true_and] at hnf
   unfold SetTable.tooFull at hnf
   rw [fl] at hnf
   rw [sz]
   have h6:¬ ((es.size + 1) * 5≥t1.mask * 3):=fun z=>hnf (decide_eq_true z)
   omega
 split
 ·exact wpAny_bind (hv fin)
 ·exact wpAny_bind (wpAny_pure fin)
end
section
variable {prog:Program} {w:World} {A:Around} {E:Value→Shared→Prop} {s:Shared}
theorem PB {n:Nat} {v:Value} {k:Int} (h:(intKind prog w).is k v=true):hashByValue n v=pure true:=by
 obtain ⟨t,rfl⟩:=Value.isInt_shape h
 unfold hashByValue
 rfl
theorem KB {ks:List Int} {a:Addr} {Q:Bool→Shared→Prop} (hk:IsTupleKey (intKind prog w) s.heap ks a) (h:Q true s):wpAny (model prog w) A (hashByValue 8 (.ref a)) Q E s:=by
 have hT:=hk.typeIs
 obtain ⟨o,items,n,ho,_,hd,hi⟩:=hk
 unfold hashByValue
 refine wpAny_bind (wpAny_specialOf hT F.slot_tuple_hash.lookup ?_)
 show wpAny _ _ (seqItems? (.ref a) >>=_) _ _ s
 refine wpAny_bind (wpAny_seqItems ho hd ?_)
 refine wpAny_bind ?_
 show wpAny _ _ (forIn items _ _) _ _ s
 rw [← Array.forIn_toList]
 refine wpAny_forIn_list _ (fun rest r s'=>r.1=none∧s'=s∧∃ left,ItemsAre (intKind prog w) left rest) _ ?_ ?_ _ _ ⟨rfl,rfl,ks,hi⟩
 ·rintro v rest r s' ⟨hr,rfl,left,hl⟩
  cases hl with
  | @cons k _ ks' _ h1 hl'=>
  rw [PB h1]
  refine wpAny_bind (wpAny_pure ?_)
  simp only [Bool.not_true,Bool.false_eq_true,if_false]
  exact wpAny_pure ⟨rfl,rfl,ks',hl'⟩
 ·rintro ⟨r1,r2⟩ s' ⟨hr,rfl,_⟩
  simp only at hr
  subst hr
  exact wpAny_pure h
theorem Om (a b:Nat):tupleKeyHash (intKind prog w) [(a:Int),(b:Int)]=phs a b:=rfl
noncomputable def PS (h:Heap) (S:Addr) (hs:List Int):Prop:=∃ o es ep t,h.get? S=some o∧o.ExactSet∧o.data= .set es ep t∧t.fits es.size=true∧TG t es.size∧es.size * 5 < t.mask * 3∧(es.toList.map (·.1)).Perm hs
theorem PS.at' {h h':Heap} {a:Addr} {hs:List Int} (S:PS h a hs) (hk:∀ o,h.get? a=some o→h'.get? a=some o):PS h' a hs:=by
 obtain ⟨o,es,ep,t,ho,rest⟩:=S
 exact ⟨o,es,ep,t,hk _ ho,rest⟩
theorem PS.new {h:Heap} {a:Addr} (e:h.get? a=some (nso w)):PS h a []:=
 ⟨_,_,_,_,e,⟨rfl,rfl,rfl⟩,rfl,rfl,TG.fresh _ _ _,(by show 0 * 5 < 7 * 3;decide),by simp⟩
end
section
variable {prog:Program} {w:World} {A:Around} {R:Result→Shared→Prop} {I:Addr} {fp wr:List Addr} {G:Array GenState→Array GenState→Prop} {P:Nat→Value→Prop} {St:Nat→Shared→Prop}
noncomputable abbrev phq (q:Nat×Nat):Int:=phs q.1 q.2
theorem Ke {qs:List (Nat×Nat)} {ps:List Addr} {h0:Heap} (W:WalksS prog w A.in1 I fp wr G qs.length P St) (S:Addr) (hu:A.units + 8 < cLine) (hSf:S∉fp) (hv:∀ i v,P i v→∃ p,ps[i]? =some p∧v= .ref p)
  (hk:∀ (i:Nat) (p:Addr) (q:Nat×Nat),ps[i]? =some p→qs[i]? =some q→IsTupleKey (intKind prog w) h0 [(q.1:Int),(q.2:Int)] p) (hw:∀ b o,h0.get? b=some o→b≠S∧b∉wr) (nd:(qs.map phq).Nodup) (hl:qs.length≤18):
  ∀ (k i:Nat) (s:Shared),qs.length - i=k→i≤qs.length→St i s→(∀ b o,h0.get? b=some o→s.heap.get? b=some o)→PS s.heap S ((qs.take i).map phq)→
    (∀ s',Moved (S::wr) G s s'→PS s'.heap S (qs.map phq)→R (.ok (.ret .none)) s')→
    codeAny (model prog w) A (.builtin "set.update.loop" ⟨[.ref S,.ref I],[]⟩) R s:=by
 have hSw:S∉wr:=fun z=>hSf (W.sub _ z)
 have up:∀ b∈wr,b∈S::wr:=fun _ z=>List.mem_cons_of_mem _ z
 intro k
 induction k with
 | zero=>
   intro i s e1 e2 st h0s hS hR
   obtain rfl:i=qs.length:=by omega
   rw [List.take_length] at hS
   refine codeAny_builtin F.entry_set_update_loop ?_
   rw [Around.under_plainId F.plain_set_update_loop _]
   exact wpAny_bind (m:=pyNext (.ref I)) (W.done s _ _ st fun s' mv=>wpAny_pure (hR s' (mv.mono up) (hS.at' fun o e=>mv.heap S _ hSw e)))
 | succ k ih=>
   intro i s e1 e2 st h0s hS hR
   have lt:i < qs.length:=by omega
   refine codeAny_builtin F.entry_set_update_loop ?_
   rw [Around.under_plainId F.plain_set_update_loop _]
   refine wpAny_bind (m:=pyNext (.ref I)) (W.item i s _ _ lt st fun v s' hP st' mv=>?_)
   obtain ⟨p,hn,rfl⟩:=hv i v hP
   have hS':=hS.at' (h':=s'.heap) fun o e=>mv.heap S _ hSw e
   have h0s':∀ b o,h0.get? b=some o→s'.heap.get? b=some o:=fun b o e=>mv.heap b o (hw b o e).2 (h0s b o e)
   have hq:=List.getElem?_eq_getElem lt
   have kq:=hk i p _ hn hq
   have kq':IsTupleKey (intKind prog w) s'.heap [(qs[i].1:Int),(qs[i].2:Int)] p:=by
    obtain ⟨o,its,n,ho,rest⟩:=kq
    exact ⟨o,its,n,h0s' _ _ ho,rest⟩
   refine wpAny_bind (m:=holding [Value.ref p] (setAdd S (.ref p))) (wpAny_holding ?_)
   unfold setAdd
   refine wpAny_holding (wpAny_bind (wpAny_pyHash_tuple (by show A.units + 1 < _;omega) kq' ?_))
   rw [Om]
   obtain ⟨o,es,ep,t,ho,hex,hd,hf,g,nf,pm⟩:=id hS'
   have sz:es.size=i:=by
    have:=pm.length_eq
    rw [List.length_map,List.length_map,List.length_take,Array.length_toList] at this
    omega
   have hne:∀ e∈es.toList,e.1≠phs qs[i].1 qs[i].2:=fun e he z=>by
    have hm:=pm.mem_iff.mp (List.mem_map.mpr ⟨e,he,z⟩)
    obtain ⟨q',hq',ee⟩:=List.mem_map.mp hm
    obtain ⟨j,hj,e⟩:=List.mem_iff_getElem.mp hq'
    rw [List.length_take] at hj
    rw [List.getElem_take] at e
    have:=List.pairwise_iff_getElem.mp nd j i (by rw [List.length_map];omega) (by rw [List.length_map];omega) (by omega)
    rw [List.getElem_map,List.getElem_map,e] at this
    exact this ee
   refine Ol (s:={s' with toks:=s'.toks + ([(qs[i].1:Int),(qs[i].2:Int)].length + 1)}) ho hex hd hf g nf (by omega) hne rfl (fun {Q} q=>KB (ks:=[(qs[i].1:Int),(qs[i].2:Int)]) kq' q) fun h' o' es' ep' t' sb ho' hex' hd' hf' g' nf' pm'=>?_
   have hS3:PS h' S ((qs.take (i + 1)).map phq):=by
    refine ⟨o',es',ep',t',ho',hex',hd',hf',g',nf',?_⟩
    have:=pm'.map (·.1)
    refine this.trans ?_
    rw [List.map_append,List.take_add_one,hq,Option.toList_some,List.map_append]
    exact pm.append_right _
   refine wpAny_pure ⟨plainId_quiet F.plain_set_update_loop _,ih (i + 1) _ (by omega) lt (W.frame _ s' _ _ st' (by show s'.toks≤s'.toks + _;omega) fun b hb o e=>?_) (fun b o e=>?_) hS3 fun s'' mv' hS4=>?_⟩
   ·rw [sb.2 b (fun z=>hSf (z ▸ hb))];exact e
   ·rw [sb.2 b (hw b o e).1];exact h0s' b o e
   ·refine hR s'' (Moved.trans W.gtrans ((mv.mono up).then_heap (by show s'.toks≤s'.toks + _;omega) fun b o hb e=>?_) mv') hS4
    rw [sb.2 b (fun z=>hb (by rw [z];exact List.mem_cons_self))];exact e
end
section
variable {prog:Program} {w:World} {A:Around} {E:Value→Shared→Prop} {s:Shared}
theorem call_setP {l:Addr} {items:Array Value} {qs:List (Nat×Nat)} {ps:List Addr} {Q:Value→Shared→Prop} (hh:A.handled=none) (hu:A.units + 64 < cLine) (hl:s.heap.IsList l items) (hi:items.toList=ps.map Value.ref) (hlp:ps.length=qs.length)
  (hk:∀ (i:Nat) (p:Addr) (q:Nat×Nat),ps[i]? =some p→qs[i]? =some q→IsTupleKey (intKind prog w) s.heap [(q.1:Int),(q.2:Int)] p) (nd:(qs.map phq).Nodup) (hl10:qs.length≤18)
  (h:∀ (h':Heap) (tk:Nat),PS h' s.heap.objs.size (qs.map phq)→s.heap.objs.size < h'.objs.size→(∀ b o,s.heap.get? b=some o→h'.get? b=some o)→Q (.ref s.heap.objs.size) {s with heap:=h',toks:=tk}):
  wpAny (model prog w) A (call (.type "set") [.ref l]) Q E s:=by
 obtain ⟨c,tl,hmro⟩:=F.called_set.mro
 have hmade:=F.called_set.made
 have hsub:=F.called_set.sub
 have hsz:items.size=qs.length:=by rw [← Array.length_toList,hi,List.length_map,hlp]
 refine wpAny_call (codeAny_of_tree (show wpAny _ _ (callAny (.type "set") _) _ _ _ from ?_))
 refine wpAny_pure ⟨Code.quiet_builtin _ (by decide +kernel),codeAny_builtin F.entry_type_call ?_⟩
 rw [Around.under_plain (weight_type_call_type "set" [.ref l] []) rfl]
 have h1:=F.called_set.notType
 have h2:=F.called_set.canCreate
 have hct:=F.typeCall_set_1 (.ref l)
 repeat (any_goals (first | assumption | wp_step))
 refine codeAny_mono (Nd (.ref l) (E:=E) (Q:=fun obj s₁=>obj= .ref s.heap.objs.size∧s₁={s with heap:=s.heap.push (nso w)}) ⟨rfl,rfl⟩) fun r s₁ hr=>?_
 rcases r with e | fl
 ·exact hr
 cases fl with
 | ret obj=>
   obtain ⟨rfl,rfl⟩:=hr
   have hS:(s.heap.push (nso w)).get? s.heap.objs.size=some (nso w):=Heap.get?_push_size _ rfl
   have hT:Shared.TypeIs {s with heap:=s.heap.push (nso w)} (.ref s.heap.objs.size) "set":=⟨_,hS,rfl⟩
   have hli:=F.called_set.init.lookup
   have hbi:=F.called_set.init.bind (.ref s.heap.objs.size)
   repeat (any_goals (first | assumption | wp_step))
   refine codeAny_mono (codeAny_call_builtin (R:=wants (fun r s₂=>r= .none∧∃ h' tk,s₂={s with heap:=h',toks:=tk}∧PS h' s.heap.objs.size (qs.map phq)∧s.heap.objs.size < h'.objs.size∧(∀ b o,s.heap.get? b=some o→h'.get? b=some o)) E) F.called_set.init.plain F.entry_set_init (check_set_init_1 hT ?_)) fun r₂ s₂ hr₂=>?_
   ·have hl':=hl
    obtain ⟨ol,hol,hcl,nl,hdl⟩:=hl
    obtain ⟨ocls,odict,odata,oslots⟩:=ol
    dsimp only at hcl hdl
    subst hcl hdl
    have hol':=Heap.get?_push_of_some (nso w) hol
    have hsls:=F.sub_list_set
    have hslf:=F.sub_list_frozenset
    have hne:(Value.type "list" == Value.type "dict")=false:=by decide
    have hl1:(s.heap.push (nso w)).IsList l items:=⟨_,hol',rfl,nl,rfl⟩
    unfold Builtin.«set.__init__» noKeywords Builtin.Frozenset.updateFrom
    generalize hPI:pyIter=PI
    wp_walk
    subst hPI
    refine wpAny_pyIter_list hl1 (wpAny_bind (wpAny_runValue ?_))
    have hlS:l < s.heap.objs.size:=Heap.lt_size hol
    have hne2:l≠(s.heap.push (nso w)).objs.size:=by rw [Heap.size_push];exact Nat.ne_of_lt (Nat.lt_succ_of_lt hlS)
    have W:=(Walks.list (prog:=prog) (w:=w) (A:=A.in1.in1.in1) (by simp [hh]) (s.heap.push (nso w)).objs.size l hne2 items).toS
    rw [hsz] at W
    have hSf:s.heap.objs.size∉[(s.heap.push (nso w)).objs.size,l]:=by
     rw [Heap.size_push];simp only [List.mem_cons,List.not_mem_nil,or_false,not_or]
     exact ⟨Nat.ne_of_lt (Nat.lt_succ_self _),Nat.ne_of_gt hlS⟩
    refine Ke (h0:=s.heap) W s.heap.objs.size (by show A.units + 1 + 1 + 8 < _;omega) hSf (fun i v hv=>?_) hk (fun b o e=>?_) nd hl10 (qs.length - 0) 0 _ (by omega) (Nat.zero_le _) ⟨⟨_,Heap.get?_push_size _ rfl,rfl,rfl⟩,hl1.push _⟩ (fun b o e=>Heap.get?_push_of_some _ (Heap.get?_push_of_some _ e)) (PS.new (Heap.get?_push_of_some _ hS)) fun s' mv hS'=>?_
    ·have hv:items[i]? =some v:=hv
     rw [← Array.getElem?_toList,hi,List.getElem?_map,Option.map_eq_some_iff] at hv
     obtain ⟨p,hp,e⟩:=hv
     exact ⟨p,hp,e.symm⟩
    ·have hb:=Heap.lt_size e
     refine ⟨Nat.ne_of_lt hb,?_⟩
     rw [Heap.size_push,List.mem_singleton]
     exact Nat.ne_of_lt (Nat.lt_succ_of_lt hb)
    obtain ⟨h',g',d',tk',os'⟩:=s'
    obtain rfl:g'=s.gens:=mv.gens
    obtain rfl:d'=s.drawn:=mv.drawn
    obtain rfl:os'=s.os:=mv.os
    obtain ⟨oS,_,_,_,hoS,_⟩:=id hS'
    refine wpAny_pure (wpAny_pure ⟨rfl,h',tk',rfl,hS',Heap.lt_size hoS,fun b o e=>?_⟩)
    have hb:=Heap.lt_size e
    exact mv.heap b o (by rw [Heap.size_push];simp only [List.mem_cons,List.not_mem_nil,or_false,not_or];exact ⟨Nat.ne_of_lt hb,Nat.ne_of_lt (Nat.lt_succ_of_lt hb)⟩) (Heap.get?_push_of_some _ (Heap.get?_push_of_some _ e))
   ·rcases r₂ with e | fl₂
    ·exact hr₂
    cases fl₂ with
    | ret r=>
      obtain ⟨rfl,h',tk,rfl,a1,a2,a3⟩:=hr₂
      repeat (any_goals (first | assumption | wp_step))
      exact h _ _ a1 a2 a3
    | _=>exact hr₂.elim
 | _=>exact hr.elim
end
end ST
namespace L2
open PySem PySem.Spec PyProof.Rows
section
variable {X:Cx}
noncomputable def Am (Q:VK) (x:V) (H1:Hp):Prop:=∃ (p:Addr) (ps:List Addr) (qs:List (Nat×Nat)),x= .ref p∧H1 p=some (.lst (ps.map V.ref))∧ps.length=qs.length∧(∀ (i:Nat) (a:Addr) (q:Nat×Nat),ps[i]? =some a→qs[i]? =some q→H1 a=some (.tup [.int (q.1:Nat),.int (q.2:Nat)]))∧qs.Nodup∧(∀ q∈qs,q.1 < 41∧q.2 < 7)∧qs.length≤18∧Q (.int qs.length) H1
noncomputable def Ny (t:TE):TE:=fun σ H Q=>t σ H (Am Q)
theorem OK {t:TE} {σ:St} {H:Hp} {Q:VK} (h:t σ H (Am Q)):Ny t σ H Q:=h
theorem xO:∀ {ps:List Addr} {its:List Value},Vals (ps.map V.ref) its→its=ps.map Value.ref
 | [],_,.nil=>rfl
 | _::_,_,.cons r t=>by rw [xO t];exact congrArg (·::_) r
theorem GR {e:Expr} {t:TE} {p1 p2 q1 q2:Pos} (hc:X.calm=true) (hu:X.A.units + 100 < cLine) (g1:Gl X "len") (g2:Gl X "set") (n1:X.mg "len"=none) (n2:X.mg "set"=none) (he:PE X e t)
  (h1:starEach [Expr.Call (.Name "set" p1) [e] [] p2] X.env=[(false,eval (.Call (.Name "set" p1) [e] [] p2) X.env)]:=by rfl) (h2:starEach [e] X.env=[(false,eval e X.env)]:=by rfl):
  PE X (.Call (.Name "len" q1) [.Call (.Name "set" p1) [e] [] p2] [] q2) (Ny t):=by
 intro pins s σ H Q I h
 refine wpAny_Call_Name_kw (my I g1 n1 boot_len (callWith_builtin1 (Q:=EP X pins σ Q) ?_ h1 rfl))
 rw [h1]
 refine Calls.spliced_cons ?_
 refine Call_ (my I g2 n2 boot_set (callWith_type1 (thn (aa he ae h2 p2 pins s σ H (fun vs H1=>match vs with | [x]=>Am Q x H1 | _=>False) I h) fun us s1 ⟨vs,H1,I1,r1,q1⟩=>?_) h2 rfl))
 cases vs with
 | nil=>exact False.elim q1
 | cons x vs=>
 cases vs with
 | cons _ _=>exact False.elim q1
 | nil=>
 have q1:Am Q x H1:=q1
 obtain ⟨p,ps,qs,rfl,hp,lp,ht,nd,sm,hl,q⟩:=q1
 cases r1 with
 | cons r rr=>
 cases rr
 cases r
 obtain ⟨z,its,nl,rv,hll,el⟩:=I1.lstM hp
 have hi:its.toArray.toList=ps.map Value.ref:=by rw [List.toList_toArray];exact xO rv
 have ndh:(qs.map ST.phq).Nodup:=by
  refine List.pairwise_map.mpr (List.Pairwise.imp_of_mem (fun {a b} ha hb hne e=>?_) nd)
  obtain ⟨e1,e2⟩:=ST.phs_inj (sm a ha).1 (sm a ha).2 (sm b hb).1 (sm b hb).2 e
  exact hne (Prod.ext e1 e2)
 refine ST.call_setP (qs:=qs) (ps:=ps) (I1.ok.hd hc) (by omega) ⟨_,el,rfl,_,rfl⟩ hi lp (fun i a q' h1 h2=>?_) ndh hl fun h' tk hS hsz hk=>?_
 ·obtain ⟨_,its2,rv2,ob,eo,ec,n,ed⟩:=I1.hok a _ (ht i a q' h1 h2)
  refine ⟨ob,its2.toArray,n,eo,ec,ed,?_⟩
  rw [List.toList_toArray]
  cases rv2 with
  | cons ra rb=>
  cases rb with
  | cons rb rc=>
  cases rc
  obtain ⟨t1,rfl⟩:=ra
  obtain ⟨t2,rfl⟩:=rb
  exact .cons (intKind_is _ _ _ _) (.cons (intKind_is _ _ _ _) .nil)
 refine Calls.spliced_nil ?_
 obtain ⟨oS,es,ep,tb,hoS,hex,hd,hf,_,_,pm⟩:=hS
 have hn:es.size=qs.length:=by
  have:=pm.length_eq
  rw [List.length_map,List.length_map,Array.length_toList] at this
  exact this
 have I2:∀ tk',Inv X pins σ H1 {s1 with heap:=h',toks:=tk'}:=fun tk'=>I1.kept (t':=tk') hk
 refine call_len_set (s:={s1 with heap:=h',toks:=tk}) hoS hex hd hf (by omega) ?_
 exact ⟨.int qs.length,H1,I2 _,⟨_,by rw [hn]⟩,q⟩
end
end L2
set_option autoImplicit false
namespace M
theorem PD (a b:Nat):(a||| b) / 2=a / 2||| b / 2:=by
 apply Nat.eq_of_testBit_eq;intro i
 simp [Nat.testBit_div_two,Nat.testBit_or]
theorem MX (a b:Nat):(a&&&b) / 2=a / 2&&&b / 2:=by
 apply Nat.eq_of_testBit_eq;intro i
 simp [Nat.testBit_div_two,Nat.testBit_and]
theorem FY (a b:Nat):(a^^^b) / 2=a / 2^^^b / 2:=by
 apply Nat.eq_of_testBit_eq;intro i
 simp [Nat.testBit_div_two,Nat.testBit_xor]
theorem or_sum (a:Nat):∀ b:Nat,a||| b=(a^^^b) + (a&&&b):=by
 induction a using Nat.strongRecOn with
 | ind a ih=>
   intro b
   by_cases ha:a=0
   ·subst ha;simp
   ·have h:=ih (a / 2) (by omega) (b / 2)
    have e1:=Nat.div_add_mod (a||| b) 2
    have e2:=Nat.div_add_mod (a^^^b) 2
    have e3:=Nat.div_add_mod (a&&&b) 2
    rw [PD] at e1
    rw [FY] at e2
    rw [MX] at e3
    have m1:(a||| b) % 2=(a % 2||| b % 2):=by have:=@Nat.or_mod_two_pow a b 1;simpa using this
    have m2:(a^^^b) % 2=(a % 2^^^b % 2):=by have:=@Nat.xor_mod_two_pow a b 1;simpa using this
    have m3:(a&&&b) % 2=(a % 2&&&b % 2):=by have:=@Nat.and_mod_two_pow a b 1;simpa using this
    have c:(a % 2||| b % 2)=(a % 2^^^b % 2) + (a % 2&&&b % 2):=by
     rcases Nat.mod_two_eq_zero_or_one a with h1 | h1<;>rcases Nat.mod_two_eq_zero_or_one b with h2 | h2<;>rw [h1,h2]<;>decide
    omega
noncomputable def pb:Nat→Nat→Bool
 | 0,_=>false
 | w + 1,m=>(m.testBit w)^^(pb w m)
theorem NO (w a b:Nat):pb w (a^^^b)=(pb w a^^pb w b):=by
 induction w with
 | zero=>rfl
 | succ w ih=>
   simp only [pb,Nat.testBit_xor,ih]
   cases a.testBit w<;>cases b.testBit w<;>cases pb w a<;>cases pb w b<;>rfl
theorem yU (h j m:Nat):pb (h + j) m=(pb h m^^pb j (m>>>h)):=by
 induction j with
 | zero=>simp [pb]
 | succ j ih=>
   rw [Nat.add_succ]
   simp only [pb,ih,Nat.testBit_shiftRight]
   cases m.testBit (h + j)<;>cases pb h m<;>cases pb j (m>>>h)<;>rfl
theorem NQ (h m:Nat):pb h (m % 2 ^ h)=pb h m:=by
 suffices ∀ j,j≤h→pb j (m % 2 ^ h)=pb j m from this h (Nat.le_refl h)
 intro j
 induction j with
 | zero=>intro _;rfl
 | succ j ih=>
   intro hj
   simp only [pb]
   rw [ih (by omega),Nat.testBit_mod_two_pow]
   simp [show j < h by omega]
theorem O9 (w j m:Nat) (hm:m < 2 ^ w):pb (w + j) m=pb w m:=by
 rw [yU,Nat.shiftRight_eq_div_pow,Nat.div_eq_of_lt hm]
 have:∀ j,pb j 0=false:=by intro j;induction j with
  | zero=>rfl
  | succ j ih=>simp [pb,ih]
 rw [this];simp
theorem pb_up {w w' m:Nat} (hm:m < 2 ^ w) (h:w≤w'):pb w' m=pb w m:=by
 obtain ⟨j,rfl⟩:=Nat.exists_eq_add_of_le h
 exact O9 w j m hm
theorem pb_fold (w h m:Nat) (hw:h≤w) (hm:m < 2 ^ w) (h2:w≤2 * h):pb h ((m>>>h)^^^(m&&&(2 ^ h - 1)))=pb w m:=by
 rw [Nat.and_two_pow_sub_one_eq_mod,NO,NQ]
 obtain ⟨j,rfl⟩:=Nat.exists_eq_add_of_le hw
 rw [yU]
 have hlt:m>>>h < 2 ^ j:=by
  rw [Nat.shiftRight_eq_div_pow]
  exact Nat.div_lt_of_lt_mul (by rw [← Nat.pow_add];exact hm)
 rw [pb_up hlt (show j≤h by omega)]
 cases pb j (m>>>h)<;>cases pb h m<;>rfl
theorem fold_lt (w h m:Nat) (hm:m < 2 ^ w) (h2:w≤2 * h):(m>>>h)^^^(m&&&(2 ^ h - 1)) < 2 ^ h:=by
 apply Nat.xor_lt_two_pow
 ·rw [Nat.shiftRight_eq_div_pow]
  refine Nat.div_lt_of_lt_mul ?_
  rw [← Nat.pow_add]
  exact Nat.lt_of_lt_of_le hm (Nat.pow_le_pow_right (by decide) (by omega))
 ·rw [Nat.and_two_pow_sub_one_eq_mod]
  exact Nat.mod_lt _ (Nat.two_pow_pos h)
noncomputable def pl (w m:Nat):List Nat:=(List.range w).filter m.testBit
theorem pl_up {w w' m:Nat} (hm:m < 2 ^ w) (h:w≤w'):pl w' m=pl w m:=by
 obtain ⟨j,rfl⟩:=Nat.exists_eq_add_of_le h
 unfold pl
 rw [List.range_add,List.filter_append]
 have:List.filter m.testBit (List.map (fun x=>w + x) (List.range j))=[]:=by
  rw [List.filter_eq_nil_iff]
  intro a ha
  obtain ⟨k,_,rfl⟩:=List.mem_map.mp ha
  rw [Nat.testBit_lt_two_pow (Nat.lt_of_lt_of_le hm (Nat.pow_le_pow_right (by decide) (Nat.le_add_right w k)))]
  simp
 rw [this,List.append_nil]
noncomputable def xm (ps:List Nat):Nat:=ps.foldl (fun a p=>a^^^2 ^ p) 0
theorem Oh (ps:List Nat):∀ (a k:Nat),(ps.foldl (fun a p=>a^^^2 ^ p) a).testBit k=(a.testBit k^^(ps.count k % 2 == 1)):=by
 induction ps with
 | nil=>intro a k;simp
 | cons p ps ih=>
   intro a k
   rw [List.foldl_cons,ih,Nat.testBit_xor,Nat.testBit_two_pow,List.count_cons]
   by_cases h:p=k
   ·subst h
    simp only [decide_true,beq_self_eq_true,if_true]
    rcases Nat.mod_two_eq_zero_or_one (List.count p ps) with z | z
    ·have e:(List.count p ps + 1) % 2=1:=by omega
     rw [z,e];cases a.testBit p<;>rfl
    ·have e:(List.count p ps + 1) % 2=0:=by omega
     rw [z,e];cases a.testBit p<;>rfl
   ·have hb:(p == k)=false:=beq_eq_false_iff_ne.mpr h
    simp [hb,h]
theorem Qj (ps:List Nat) (k:Nat):(xm ps).testBit k=(ps.count k % 2 == 1):=by
 unfold xm;rw [Oh];simp
theorem ot (w k:Nat) (p:Nat→Bool):((List.range w).filter p).count k=if k < w∧p k=true then 1 else 0:=by
 have nd:((List.range w).filter p).Nodup:=List.Pairwise.filter p List.nodup_range
 by_cases h:k < w∧p k=true
 ·rw [if_pos h]
  have hm:k∈(List.range w).filter p:=List.mem_filter.mpr ⟨List.mem_range.mpr h.1,h.2⟩
  exact List.Nodup.count nd |>.trans (by rw [if_pos hm])
 ·rw [if_neg h]
  refine List.count_eq_zero.mpr fun hm=>h ?_
  obtain ⟨a,b⟩:=List.mem_filter.mp hm
  exact ⟨List.mem_range.mp a,b⟩
theorem Mt (w m k:Nat):(pl w m).count k=if k < w∧m.testBit k=true then 1 else 0:=ot w k m.testBit
theorem xm_ext {w m:Nat} {ps:List Nat} (hm:m < 2 ^ w) (h:∀ k,ps.count k % 2=(pl w m).count k % 2):xm ps=m:=by
 apply Nat.eq_of_testBit_eq;intro k
 rw [Qj,h,Mt]
 by_cases hk:k < w
 ·cases e:m.testBit k<;>simp [hk,e]
 ·rw [Nat.testBit_lt_two_pow (Nat.lt_of_lt_of_le hm (Nat.pow_le_pow_right (by decide) (Nat.not_lt.mp hk)))]
  simp [hk]
noncomputable def Span:List Nat→Nat→Prop
 | [],x=>x=0
 | r::rs,x=>Span rs x∨Span rs (x^^^r)
theorem span_zero:∀ rs:List Nat,Span rs 0
 | []=>rfl
 | _::rs=> .inl (span_zero rs)
theorem aO (x r:Nat):x^^^r^^^r=x:=by rw [Nat.xor_assoc,Nat.xor_self,Nat.xor_zero]
theorem cE (a b c:Nat):a^^^b^^^c=a^^^c^^^b:=by rw [Nat.xor_assoc,Nat.xor_comm b c,← Nat.xor_assoc]
theorem cV:∀ (rs:List Nat) (r x:Nat),Span (rs++[r]) x↔Span rs x∨Span rs (x^^^r)
 | [],r,x=>Iff.rfl
 | q::rs,r,x=>by
   show Span (rs++[r]) x∨Span (rs++[r]) (x^^^q)↔(Span rs x∨Span rs (x^^^q))∨(Span rs (x^^^r)∨Span rs (x^^^r^^^q))
   rw [cV rs r x,cV rs r (x^^^q),cE x q r]
   constructor
   ·rintro ((h | h) | (h | h))
    ·exact .inl (.inl h)
    ·exact .inr (.inl h)
    ·exact .inl (.inr h)
    ·exact .inr (.inr h)
   ·rintro ((h | h) | (h | h))
    ·exact .inl (.inl h)
    ·exact .inr (.inl h)
    ·exact .inl (.inr h)
    ·exact .inr (.inr h)
theorem span_xor:∀ {rs:List Nat} {x y:Nat},Span rs x→Span rs y→Span rs (x^^^y)
 | [],x,y,h,k=>by
   have h:x=0:=h
   have k:y=0:=k
   subst h;subst k;exact rfl
 | r::rs,x,y,h,k=>by
   rcases h with h | h<;>rcases k with k | k
   ·exact .inl (span_xor h k)
   ·refine .inr ?_
    have:=span_xor h k
    rwa [← Nat.xor_assoc] at this
   ·refine .inr ?_
    have:=span_xor h k
    rwa [cE] at this
   ·refine .inl ?_
    have:=span_xor h k
    rwa [← Nat.xor_assoc,cE x r y,aO] at this
noncomputable def sm:List Nat→Nat→Nat
 | [],_=>0
 | r::rs,p=>(if p.testBit 0 then r else 0)^^^sm rs (p / 2)
theorem sm_zero:∀ rs:List Nat,sm rs 0=0
 | []=>rfl
 | r::rs=>by show (if (0:Nat).testBit 0 then r else 0)^^^sm rs (0 / 2)=0;rw [show (0:Nat) / 2=0 from rfl,sm_zero rs];simp
theorem xor4 (a b c d:Nat):a^^^b^^^(c^^^d)=a^^^c^^^(b^^^d):=by
 rw [Nat.xor_assoc,← Nat.xor_assoc b c d,Nat.xor_comm b c,Nat.xor_assoc c b d,← Nat.xor_assoc a c]
theorem sm_xor:∀ (rs:List Nat) (p q:Nat),sm rs (p^^^q)=sm rs p^^^sm rs q
 | [],p,q=>by show (0:Nat)=0^^^0;simp
 | r::rs,p,q=>by
   show (if (p^^^q).testBit 0 then r else 0)^^^sm rs ((p^^^q) / 2)=((if p.testBit 0 then r else 0)^^^sm rs (p / 2))^^^((if q.testBit 0 then r else 0)^^^sm rs (q / 2))
   rw [FY,sm_xor rs,Nat.testBit_xor,xor4]
   congr 1
   cases p.testBit 0<;>cases q.testBit 0<;>simp
theorem g7:∀ (rs:List Nat) (r p:Nat),sm (rs++[r]) p=sm rs p^^^(if p.testBit rs.length then r else 0)
 | [],r,p=>by show (if p.testBit 0 then r else 0)^^^0=0^^^_;rw [Nat.xor_zero,Nat.zero_xor];rfl
 | q::rs,r,p=>by
   show (if p.testBit 0 then q else 0)^^^sm (rs++[r]) (p / 2)=((if p.testBit 0 then q else 0)^^^sm rs (p / 2))^^^_
   rw [g7 rs r (p / 2),Nat.testBit_div_two,Nat.xor_assoc]
   rfl
theorem fz {rs:List Nat} {r p:Nat} (h:p < 2 ^ rs.length):sm (rs++[r]) p=sm rs p:=by
 rw [g7,Nat.testBit_lt_two_pow h];simp
theorem NC (rs:List Nat) (r:Nat):sm (rs++[r]) (2 ^ rs.length)=r:=by
 rw [g7]
 have e:sm rs (2 ^ rs.length)=0:=by
  have:∀ (rs:List Nat) (k:Nat),rs.length≤k→sm rs (2 ^ k)=0:=by
   intro rs
   induction rs with
   | nil=>intro k _;rfl
   | cons q rs ih=>
     intro k hk
     have hk:rs.length + 1≤k:=hk
     obtain ⟨j,rfl⟩:∃ j,k=j + 1:=⟨k - 1,by omega⟩
     show (if (2 ^ (j + 1)).testBit 0 then q else 0)^^^sm rs (2 ^ (j + 1) / 2)=0
     have e1:(2 ^ (j + 1)) / 2=2 ^ j:=by rw [Nat.pow_succ];omega
     have e2:(2 ^ (j + 1)).testBit 0=false:=by rw [Nat.testBit_two_pow];simp
     rw [e1,e2,ih j (by omega)]
     simp
  exact this rs _ (Nat.le_refl _)
 rw [e,Nat.testBit_two_pow_self];simp
theorem sm_span:∀ (rs:List Nat) (p:Nat),Span rs (sm rs p)
 | [],p=>rfl
 | r::rs,p=>by
   show Span rs _∨Span rs _
   have ih:=sm_span rs (p / 2)
   cases h:p.testBit 0 with
   | true=>refine .inr ?_;rw [show sm (r::rs) p=r^^^sm rs (p / 2) from by show (if p.testBit 0 then r else 0)^^^_=_;rw [h];rfl,Nat.xor_comm r,aO];exact ih
   | false=>refine .inl ?_;rw [show sm (r::rs) p=sm rs (p / 2) from by show (if p.testBit 0 then r else 0)^^^_=_;rw [h];simp];exact ih
theorem oX:∀ {rs:List Nat} {x:Nat},Span rs x→∃ p,p < 2 ^ rs.length∧sm rs p=x
 | [],x,h=>⟨0,Nat.one_pos,(show x=0 from h).symm⟩
 | r::rs,x,h=>by
   rcases h with h | h
   ·obtain ⟨p,hp,e⟩:=oX h
    refine ⟨2 * p,by rw [List.length_cons,Nat.pow_succ];omega,?_⟩
    show (if (2 * p).testBit 0 then r else 0)^^^sm rs (2 * p / 2)=x
    rw [show 2 * p / 2=p by omega,show (2 * p).testBit 0=false by simp [Nat.testBit_zero],e];simp
   ·obtain ⟨p,hp,e⟩:=oX h
    refine ⟨2 * p + 1,by rw [List.length_cons,Nat.pow_succ];omega,?_⟩
    show (if (2 * p + 1).testBit 0 then r else 0)^^^sm rs ((2 * p + 1) / 2)=x
    rw [show (2 * p + 1) / 2=p by omega,show (2 * p + 1).testBit 0=true by simp [Nat.testBit_zero],e]
    show r^^^(x^^^r)=x
    rw [Nat.xor_comm,aO]
theorem Kg {x t:Nat} (h1:2 ^ t≤x) (h2:x < 2 ^ (t + 1)):x.log2=t:=by
 have hx:x≠0:=by have:=Nat.two_pow_pos t;omega
 have a:=(Nat.log2_lt hx).mpr h2
 have b:t≤x.log2:=(Nat.le_log2 hx).mpr h1
 omega
theorem d0 {x:Nat} (h:x≠0):x.testBit x.log2=true:=by
 have:=Nat.testBit_log2 h
 exact this
theorem xor_lt_pow {x y t:Nat} (h1:x < 2 ^ t) (h2:y < 2 ^ t):x^^^y < 2 ^ t:=Nat.xor_lt_two_pow h1 h2
theorem Ft {x y:Nat} (hx:x≠0) (hy:y≠0) (h:x.log2=y.log2):x^^^y < 2 ^ x.log2:=by
 have h1:x^^^y < 2 ^ (x.log2 + 1):=xor_lt_pow Nat.lt_log2_self (by rw [h];exact Nat.lt_log2_self)
 have hb:(x^^^y).testBit x.log2=false:=by
  rw [Nat.testBit_xor,d0 hx,show y.testBit x.log2=true by rw [h];exact d0 hy];rfl
 apply Nat.lt_pow_two_of_testBit
 intro i hi
 rcases Nat.lt_or_eq_of_le hi with hi | hi
 ·exact Nat.testBit_lt_two_pow (Nat.lt_of_lt_of_le h1 (Nat.pow_le_pow_right (by decide) hi))
 ·rw [← hi];exact hb
theorem xor_less {x y:Nat} (hx:x≠0) (hy:y≠0) (h:x.log2=y.log2):x^^^y < x:=
 Nat.lt_of_lt_of_le (Ft hx hy h) (Nat.log2_self_le hx)
theorem mV {x y:Nat} (hy:y≠0) (h:x < 2 ^ y.log2):(x^^^y).log2=y.log2:=by
 have h1:x^^^y < 2 ^ (y.log2 + 1):=xor_lt_pow (Nat.lt_of_lt_of_le h (Nat.pow_le_pow_right (by decide) (by omega))) Nat.lt_log2_self
 have hb:(x^^^y).testBit y.log2=true:=by rw [Nat.testBit_xor,Nat.testBit_lt_two_pow h,d0 hy];rfl
 exact Kg (Nat.ge_two_pow_of_testBit hb) h1
theorem uL {x y:Nat} (hx:x≠0) (hy:y≠0) (h:x.log2≠y.log2):(x^^^y).log2=x.log2∨(x^^^y).log2=y.log2:=by
 rcases Nat.lt_or_gt_of_ne h with h | h
 ·exact .inr (mV hy (Nat.lt_of_lt_of_le Nat.lt_log2_self (Nat.pow_le_pow_right (by decide) h)))
 ·refine .inl ?_
  rw [Nat.xor_comm]
  exact mV hx (Nat.lt_of_lt_of_le Nat.lt_log2_self (Nat.pow_le_pow_right (by decide) h))
noncomputable def Fre (rows:List Nat) (i:Nat):Prop:=i < rows.length∧¬ Span (rows.take i) (rows.getD i 0)
theorem Fre.snoc {rows:List Nat} {i:Nat} (r:Nat) (h:Fre rows i):Fre (rows++[r]) i:=by
 obtain ⟨hi,hn⟩:=h
 refine ⟨by rw [List.length_append];omega,?_⟩
 rw [List.take_append_of_le_length (Nat.le_of_lt hi),List.getD_eq_getElem?_getD,List.getElem?_append_left hi,← List.getD_eq_getElem?_getD]
 exact hn
theorem Fre.last {rows:List Nat} {r:Nat} (h:¬ Span rows r):Fre (rows++[r]) rows.length:=by
 refine ⟨by rw [List.length_append];simp,?_⟩
 rw [List.take_left,List.getD_eq_getElem?_getD,List.getElem?_append_right (Nat.le_refl _),Nat.sub_self]
 exact h
noncomputable def Frs (rows:List Nat) (q:Nat):Prop:=∀ i,q.testBit i=true→Fre rows i
theorem Frs.zero (rows:List Nat):Frs rows 0:=fun i h=>by rw [Nat.zero_testBit] at h;cases h
theorem Frs.xor {rows:List Nat} {p q:Nat} (hp:Frs rows p) (hq:Frs rows q):Frs rows (p^^^q):=fun i h=>by
 rw [Nat.testBit_xor] at h
 cases h1:p.testBit i with
 | true=>exact hp i h1
 | false=>rw [h1] at h;exact hq i (by simpa using h)
theorem Frs.snoc {rows:List Nat} {q:Nat} (r:Nat) (h:Frs rows q):Frs (rows++[r]) q:=fun i hi=>(h i hi).snoc r
theorem Frs.more {rows:List Nat} {q r:Nat} (h:Frs rows q) (hr:¬ Span rows r):Frs (rows++[r]) (q^^^2 ^ rows.length):=(h.snoc r).xor fun i hi=>by
 rw [Nat.testBit_two_pow] at hi
 have e:rows.length=i:=by simpa using hi
 rw [← e];exact Fre.last hr
structure Ech (es:List (Nat×Nat)) (rows:List Nat):Prop where
 nz:∀ e∈es,e.1≠0
 lt:∀ e∈es,e.2 < 2 ^ rows.length
 sm:∀ e∈es,sm rows e.2=e.1
 nd:(es.map fun e=>e.1.log2).Nodup
 all:∀ y,Span rows y→y≠0→∃ e∈es,e.1.log2=y.log2
 sub:∀ e∈es,Frs rows e.2
theorem Ech.nil:Ech [] []:=⟨fun _ h=>absurd h (by simp),fun _ h=>absurd h (by simp),fun _ h=>absurd h (by simp),.nil,fun y h n=>absurd h n,fun _ h=>absurd h (by simp)⟩
theorem Ech.span {es:List (Nat×Nat)} {rows:List Nat} (I:Ech es rows) {e:Nat×Nat} (h:e∈es):Span rows e.1:=by
 rw [← I.sm e h];exact sm_span _ _
theorem yy {rows:List Nat} {r p:Nat} (h:p < 2 ^ rows.length):sm (rows++[r]) (p^^^2 ^ rows.length)=sm rows p^^^r:=by
 rw [sm_xor,fz h,NC]
theorem zi {n p:Nat} (h:p < 2 ^ n):p^^^2 ^ n < 2 ^ (n + 1):=
 xor_lt_pow (Nat.lt_of_lt_of_le h (Nat.pow_le_pow_right (by decide) (by omega))) (Nat.pow_lt_pow_right (by decide) (by omega))
theorem Ech.null {es:List (Nat×Nat)} {rows:List Nat} (I:Ech es rows) {r q:Nat} (hq:q < 2 ^ rows.length) (e:r^^^M.sm rows q=0):Span rows r∧Ech es (rows++[r]):=by
 have hr:r=M.sm rows q:=by
  have:=congrArg (·^^^M.sm rows q) e
  simpa [aO] using this
 have hs:Span rows r:=by rw [hr];exact sm_span _ _
 refine ⟨hs,I.nz,fun e h=>?_,fun e h=>?_,I.nd,fun y hy n=>?_,fun e h=>(I.sub e h).snoc r⟩
 ·rw [List.length_append];exact Nat.lt_of_lt_of_le (I.lt e h) (Nat.pow_le_pow_right (by decide) (by simp))
 ·rw [fz (I.lt e h)];exact I.sm e h
 ·rcases (cV rows r y).mp hy with hy | hy
  ·exact I.all y hy n
  ·have:=span_xor hy hs
   rw [aO] at this
   exact I.all y this n
theorem Ech.more {es:List (Nat×Nat)} {rows:List Nat} (I:Ech es rows) {r q:Nat} (hq:q < 2 ^ rows.length) (e:r^^^M.sm rows q≠0) (hn:∀ e∈es,e.1.log2≠(r^^^M.sm rows q).log2) (hf:Frs rows q):
  ¬ Span rows r∧Ech (es++[(r^^^M.sm rows q,q^^^2 ^ rows.length)]) (rows++[r]):=by
 have hns:¬ Span rows r:=fun hs=>by
  obtain ⟨x,hx,ex⟩:=I.all _ (span_xor hs (sm_span rows q)) e
  exact hn x hx ex
 refine ⟨hns,fun x h=>?_,fun x h=>?_,fun x h=>?_,?_,fun y hy n=>?_,fun x h=>(List.mem_append.mp h).elim (fun h=>(I.sub x h).snoc r) fun h=>by rw [List.mem_singleton] at h;subst h;exact hf.more hns⟩
 ·rcases List.mem_append.mp h with h | h
  ·exact I.nz x h
  ·rw [List.mem_singleton] at h;subst h;exact e
 ·rw [List.length_append]
  rcases List.mem_append.mp h with h | h
  ·exact Nat.lt_of_lt_of_le (I.lt x h) (Nat.pow_le_pow_right (by decide) (by simp))
  ·rw [List.mem_singleton] at h;subst h;exact zi hq
 ·rcases List.mem_append.mp h with h | h
  ·rw [fz (I.lt x h)];exact I.sm x h
  ·rw [List.mem_singleton] at h;subst h
   show M.sm _ (q^^^_)=r^^^M.sm rows q
   rw [yy hq,Nat.xor_comm]
 ·rw [List.map_append,List.nodup_append]
  refine ⟨I.nd,by simp,fun a ha b hb=>?_⟩
  obtain ⟨x,hx,rfl⟩:=List.mem_map.mp ha
  rw [List.map_singleton,List.mem_singleton] at hb
  subst hb
  exact hn x hx
 ·rcases (cV rows r y).mp hy with hy | hy
  ·obtain ⟨x,hx,ex⟩:=I.all y hy n
   exact ⟨x,List.mem_append_left _ hx,ex⟩
  ·
   have hz:=span_xor hy (sm_span rows q)
   have ey:y=(y^^^r^^^M.sm rows q)^^^(r^^^M.sm rows q):=by
    rw [xor4,Nat.xor_self,Nat.xor_zero,aO]
   generalize hz':y^^^r^^^M.sm rows q=z at hz ey
   by_cases z0:z=0
   ·refine ⟨_,List.mem_append_right _ (List.mem_singleton.mpr rfl),?_⟩
    show (r^^^M.sm rows q).log2=y.log2
    rw [ey,z0,Nat.zero_xor]
   ·obtain ⟨x,hx,ex⟩:=I.all z hz z0
    have ne:z.log2≠(r^^^M.sm rows q).log2:=by rw [← ex];exact hn x hx
    rcases uL z0 e ne with h | h
    ·exact ⟨x,List.mem_append_left _ hx,by rw [ex,ey,h]⟩
    ·refine ⟨_,List.mem_append_right _ (List.mem_singleton.mpr rfl),?_⟩
     show (r^^^M.sm rows q).log2=y.log2
     rw [ey,h]
noncomputable def tt (p:Prop):Bool:=@decide p (Classical.propDecidable p)
theorem Nu {p:Prop} (h:p):tt p=true:=@decide_eq_true _ (Classical.propDecidable _) h
theorem Qk {p:Prop} (h:¬ p):tt p=false:=@decide_eq_false _ (Classical.propDecidable _) h
noncomputable def fr (rows:List Nat):List Nat:=(List.range rows.length).filter fun i=> !tt (Span (rows.take i) (rows.getD i 0))
theorem KO (rows:List Nat) (r:Nat):fr (rows++[r])=fr rows++(if tt (Span rows r)=true then [] else [rows.length]):=by
 unfold fr
 rw [List.length_append,List.length_singleton,List.range_succ,List.filter_append]
 have e1:(List.range rows.length).filter (fun i=> !tt (Span ((rows++[r]).take i) ((rows++[r]).getD i 0)))=(List.range rows.length).filter (fun i=> !tt (Span (rows.take i) (rows.getD i 0))):=by
  apply List.filter_congr
  intro i hi
  have hi:=List.mem_range.mp hi
  have a:(rows++[r]).take i=rows.take i:=List.take_append_of_le_length (Nat.le_of_lt hi)
  have b:(rows++[r]).getD i 0=rows.getD i 0:=by
   rw [List.getD_eq_getElem?_getD,List.getD_eq_getElem?_getD,List.getElem?_append_left hi]
  rw [a,b]
 rw [e1]
 congr 1
 have a:(rows++[r]).take rows.length=rows:=List.take_left
 have b:(rows++[r]).getD rows.length 0=r:=by
  rw [List.getD_eq_getElem?_getD,List.getElem?_append_right (Nat.le_refl _),Nat.sub_self];rfl
 rw [List.filter_cons,a,b]
 cases tt (Span rows r)<;>rfl
theorem fr_len (rows:List Nat):(fr rows).length≤rows.length:=by
 have:=List.length_filter_le (fun i=> !tt (Span (rows.take i) (rows.getD i 0))) (List.range rows.length)
 rw [List.length_range] at this
 exact this
theorem fr_in {rows:List Nat} {r:Nat} (h:Span rows r):fr (rows++[r])=fr rows:=by rw [KO,Nu h];simp
theorem fr_out {rows:List Nat} {r:Nat} (h:¬ Span rows r):fr (rows++[r])=fr rows++[rows.length]:=by rw [KO,Qk h];rfl
structure Nul (nms rows:List Nat):Prop where
 lt:∀ x∈nms,x < 2 ^ rows.length
 nz:∀ x∈nms,x≠0
 sm:∀ x∈nms,sm rows x=0
 pw:nms.Pairwise fun a b=>a.log2 < b.log2
 len:nms.length + (fr rows).length=rows.length
theorem Nul.nil:Nul [] []:=⟨fun _ h=>absurd h (by simp),fun _ h=>absurd h (by simp),fun _ h=>absurd h (by simp),.nil,rfl⟩
theorem Nul.keep {nms rows:List Nat} (I:Nul nms rows) {r:Nat} (h:¬ Span rows r):Nul nms (rows++[r]) where
 lt:=fun x hx=>by rw [List.length_append];exact Nat.lt_of_lt_of_le (I.lt x hx) (Nat.pow_le_pow_right (by decide) (by simp))
 nz:=I.nz
 sm:=fun x hx=>by rw [fz (I.lt x hx)];exact I.sm x hx
 pw:=I.pw
 len:=by rw [fr_out h,List.length_append,List.length_append,← I.len];simp;omega
theorem kM {n q:Nat} (h:q < 2 ^ n):q^^^2 ^ n≠0∧(q^^^2 ^ n).log2=n:=by
 have e:(2 ^ n:Nat).log2=n:=Kg (Nat.le_refl _) (Nat.pow_lt_pow_right (by decide) (by omega))
 have h0:(2 ^ n:Nat)≠0:=by have:=Nat.two_pow_pos n;omega
 have hl:=mV (x:=q) h0 (by rw [e];exact h)
 refine ⟨fun z=>?_,by rw [hl,e]⟩
 have hb:(q^^^2 ^ n).testBit n=true:=by rw [Nat.testBit_xor,Nat.testBit_lt_two_pow h,Nat.testBit_two_pow_self];rfl
 rw [z] at hb
 simp at hb
theorem log2_under {n q:Nat} (h0:q≠0) (h:q < 2 ^ n):q.log2 < n:=(Nat.log2_lt h0).mpr h
theorem Nul.snoc {nms rows:List Nat} (I:Nul nms rows) {r q:Nat} (hq:q < 2 ^ rows.length) (e:r^^^M.sm rows q=0) (hs:Span rows r):Nul (nms++[q^^^2 ^ rows.length]) (rows++[r]) where
 lt:=fun x hx=>by
  rw [List.length_append]
  rcases List.mem_append.mp hx with hx | hx
  ·exact Nat.lt_of_lt_of_le (I.lt x hx) (Nat.pow_le_pow_right (by decide) (by simp))
  ·rw [List.mem_singleton] at hx;subst hx;exact zi hq
 nz:=fun x hx=>by
  rcases List.mem_append.mp hx with hx | hx
  ·exact I.nz x hx
  ·rw [List.mem_singleton] at hx;subst hx;exact (kM hq).1
 sm:=fun x hx=>by
  rcases List.mem_append.mp hx with hx | hx
  ·rw [fz (I.lt x hx)];exact I.sm x hx
  ·rw [List.mem_singleton] at hx;subst hx;rw [yy hq,Nat.xor_comm];exact e
 pw:=by
  rw [List.pairwise_append]
  refine ⟨I.pw,List.pairwise_singleton _ _,fun a ha b hb=>?_⟩
  rw [List.mem_singleton] at hb
  subst hb
  rw [(kM hq).2]
  exact log2_under (I.nz a ha) (I.lt a ha)
 len:=by rw [fr_in hs,List.length_append,List.length_append,← I.len];simp;omega
structure NulF (nms rows:List Nat):Prop extends Nul nms rows where
 frs:∀ x∈nms,Frs rows (x^^^2 ^ x.log2)
theorem NulF.nil:NulF [] []:=⟨Nul.nil,fun _ h=>absurd h (by simp)⟩
theorem NulF.keep {nms rows:List Nat} (I:NulF nms rows) {r:Nat} (h:¬ Span rows r):NulF nms (rows++[r]):=⟨I.toNul.keep h,fun x hx=>(I.frs x hx).snoc r⟩
theorem NulF.snoc {nms rows:List Nat} (I:NulF nms rows) {r q:Nat} (hq:q < 2 ^ rows.length) (e:r^^^M.sm rows q=0) (hs:Span rows r) (hf:Frs rows q):NulF (nms++[q^^^2 ^ rows.length]) (rows++[r]):=⟨I.toNul.snoc hq e hs,fun x hx=>by
 rcases List.mem_append.mp hx with hx | hx
 ·exact (I.frs x hx).snoc r
 ·rw [List.mem_singleton] at hx
  subst hx
  rw [(kM hq).2,Nat.xor_assoc,Nat.xor_self,Nat.xor_zero]
  exact hf.snoc r⟩
noncomputable def Inj (ws:List Nat):Prop:=∀ p,p < 2 ^ ws.length→sm ws p=0→p=0
theorem Qy {t:Nat}:∀ {ws:List Nat} (p:Nat),(∀ x∈ws,x < 2 ^ t)→sm ws p < 2 ^ t
 | [],p,_=>Nat.two_pow_pos t
 | w::ws,p,h=>by
   refine xor_lt_pow ?_ (Qy _ fun x hx=>h x (List.mem_cons_of_mem _ hx))
   split
   ·exact h w (List.mem_cons_self ..)
   ·exact Nat.two_pow_pos t
theorem Inj.nil:Inj []:=fun p h _=>by
 have:p < 1:=h
 omega
theorem Inj.snoc {ws:List Nat} {w t:Nat} (I:Inj ws) (h:∀ x∈ws,x < 2 ^ t) (hw:2 ^ t≤w):Inj (ws++[w]):=by
 intro p hp e
 rw [g7] at e
 rw [List.length_append,List.length_singleton] at hp
 cases hb:p.testBit ws.length with
 | true=>
   rw [hb] at e
   have e:sm ws p^^^w=0:=e
   have l:=Qy p h
   have:sm ws p=w:=by
    have:=congrArg (·^^^w) e
    simpa [aO] using this
   omega
 | false=>
   rw [hb] at e
   have e:sm ws p^^^0=0:=e
   rw [Nat.xor_zero] at e
   refine I p ?_ e
   apply Nat.lt_pow_two_of_testBit
   intro i hi
   rcases Nat.lt_or_eq_of_le hi with hi | hi
   ·exact Nat.testBit_lt_two_pow (Nat.lt_of_lt_of_le hp (Nat.pow_le_pow_right (by decide) hi))
   ·rw [← hi];exact hb
theorem FR:∀ (n:Nat) (l:List Nat),l.Nodup→(∀ x∈l,x < n)→l.length≤n
 | 0,l,_,h=>by
   cases l with
   | nil=>exact Nat.le_refl _
   | cons x r=>exact absurd (h x (List.mem_cons_self ..)) (Nat.not_lt_zero _)
 | n + 1,l,nd,h=>by
   have ih:=FR n (l.erase n) (nd.erase n) fun x hx=>by
    have hm:=(nd.mem_erase_iff).mp hx
    have:=h x hm.2
    have:=hm.1
    omega
   by_cases hm:n∈l
   ·rw [List.length_erase_of_mem hm] at ih;omega
   ·rw [List.erase_of_not_mem hm] at ih;omega
theorem span_lt {t:Nat}:∀ {rs:List Nat} {x:Nat},(∀ r∈rs,r < 2 ^ t)→Span rs x→x < 2 ^ t
 | [],x,_,h=>by have h:x=0:=h;rw [h];exact Nat.two_pow_pos t
 | r::rs,x,b,h=>by
   have ih:=fun x=>span_lt (rs:=rs) (x:=x) fun y hy=>b y (List.mem_cons_of_mem _ hy)
   rcases h with h | h
   ·exact ih x h
   ·have:=xor_lt_pow (ih _ h) (b r (List.mem_cons_self ..))
    rwa [aO] at this
structure Sums (ks rows:List Nat):Prop where
 nd:ks.Nodup
 all:∀ x,x∈ks↔Span rows x
theorem Sums.zero:Sums [0] []:=⟨by simp,fun x=>by rw [List.mem_singleton];exact Iff.rfl⟩
theorem Of {a b r:Nat} (h:a^^^r=b^^^r):a=b:=by
 have:=congrArg (·^^^r) h
 simpa [aO] using this
theorem Sums.step {ks rows:List Nat} (S:Sums ks rows) {r:Nat} (h:¬ Span rows r):Sums (ks++ks.map (·^^^r)) (rows++[r]):=by
 refine ⟨?_,fun x=>?_⟩
 ·rw [List.nodup_append]
  refine ⟨S.nd,?_,fun a ha b hb e=>?_⟩
  ·exact List.Pairwise.map _ (fun a b hab e=>hab (Of e)) S.nd
  ·obtain ⟨c,hc,rfl⟩:=List.mem_map.mp hb
   subst e
   have:=span_xor ((S.all _).mp ha) ((S.all _).mp hc)
   rw [cE,Nat.xor_self,Nat.zero_xor] at this
   exact h this
 ·rw [List.mem_append,cV,S.all,List.mem_map]
  constructor
  ·rintro (h | ⟨y,hy,rfl⟩)
   ·exact .inl h
   ·refine .inr ?_;rw [aO];exact (S.all _).mp hy
  ·rintro (h | h)
   ·exact .inl h
   ·exact .inr ⟨x^^^r,(S.all _).mpr h,aO x r⟩
theorem Sums.keep {ks rows:List Nat} (S:Sums ks rows) {r:Nat} (h:Span rows r):Sums ks (rows++[r]):=
 ⟨S.nd,fun x=>by
  rw [S.all,cV]
  refine ⟨.inl,fun q=>q.elim id fun q=>?_⟩
  have:=span_xor q h
  rwa [aO] at this⟩
theorem Sums.few {ks rows:List Nat} (S:Sums ks rows) {t:Nat} (h:∀ r∈rows,r < 2 ^ t):ks.length≤2 ^ t:=FR _ _ S.nd fun x hx=>span_lt h ((S.all x).mp hx)
end M
namespace Sx
open PySem L2
noncomputable abbrev nat (k:Nat):V:= .int (k:Int)
theorem tS {k:Nat} {A:Around} (r:Room k A):A.units + 100 < cLine:=by have:=r.un;omega
theorem iteB {c:Bool} {A B:Prop} (h1:c=true→A) (h2:c=false→B):if c=true then A else B:=by
 cases c
 ·rw [if_neg Bool.false_ne_true];exact h2 rfl
 ·rw [if_pos rfl];exact h1 rfl
theorem sX (h:Nat):(2:Int) ^ h=((2 ^ h:Nat):Int):=by norm_cast
theorem shl1 (k:Nat):(1:Int) * 2 ^ ((k:Int).toNat)=((2 ^ k:Nat):Int):=by rw [Int.toNat_natCast,Int.one_mul];norm_cast
theorem Ll (a b:Nat):Builtin.bitOr (a:Int) (b:Int)=((a||| b:Nat):Int):=by
 have e1:Builtin.bitNot (a:Int)= -(a:Int) - 1:=by first | rfl | (unfold Builtin.bitNot;omega)
 have e2:Builtin.bitNot (b:Int)= -(b:Int) - 1:=by first | rfl | (unfold Builtin.bitNot;omega)
 unfold Builtin.bitOr Builtin.bitAnd
 rw [decide_eq_false (show ¬ (0:Int)≤Builtin.bitNot (a:Int) by rw [e1];omega),decide_eq_false (show ¬ (0:Int)≤Builtin.bitNot (b:Int) by rw [e2];omega)]
 have n:∀ x:Int,Builtin.bitNot (Builtin.bitNot x)=x:=fun x=>by unfold Builtin.bitNot;omega
 simp only [n,Int.toNat_natCast]
theorem bw (a b:Nat):Builtin.bitXor (a:Int) (b:Int)=((a^^^b:Nat):Int):=by
 unfold Builtin.bitXor
 rw [Ll,bR]
 have:=M.or_sum a b
 omega
theorem CB:Builtin.Int.intBits ((0:Nat):Int)=0:=by decide
theorem lW {m:Nat} (h:m≠0):Builtin.Int.intBits (m:Int)=m.log2 + 1:=by
 unfold Builtin.Int.intBits
 have e:((m:Int) == 0)=false:=by rw [beq_eq_false_iff_ne];omega
 rw [e,if_neg Bool.false_ne_true,Int.natAbs_natCast]
theorem F5 (m i:Nat):Builtin.bitAnd ((m:Int) / 2 ^ ((0 + (i:Int)).toNat)) 1=if m.testBit i then 1 else 0:=by
 have e0:(0 + (i:Int)).toNat=i:=by omega
 rw [e0,sX]
 have e1:(m:Int) / ((2 ^ i:Nat):Int)=((m>>>i:Nat):Int):=by rw [Nat.shiftRight_eq_div_pow];norm_cast
 rw [e1,show (1:Int)=((1:Nat):Int) from rfl,bR,Nat.and_one_is_mod]
 have:m.testBit i=(m>>>i % 2 == 1):=by
  rw [Nat.testBit_eq_decide_div_mod_eq,Nat.shiftRight_eq_div_pow]
  rcases Nat.mod_two_eq_zero_or_one (m / 2 ^ i) with h | h<;>rw [h]<;>rfl
 rw [this]
 rcases Nat.mod_two_eq_zero_or_one (m>>>i) with h | h<;>rw [h]<;>rfl
structure En where
 a:Addr
 m:Nat
 p:Nat
noncomputable def n6 (es:List En):List (Key×V):=es.map fun e=>(Sum.inl ((e.m.log2:Nat):Int),V.ref e.a)
theorem tu:∀ (es:List En) (z:Int),(∃ e∈es,((e.m.log2:Nat):Int)=z∧valV (n6 es) (Sum.inl z)=some (.ref e.a))∨((∀ e∈es,((e.m.log2:Nat):Int)≠z)∧valV (n6 es) (Sum.inl z)=none)
 | [],z=> .inr ⟨fun _ h=>absurd h (by simp),rfl⟩
 | e::es,z=>by
   by_cases h:((e.m.log2:Nat):Int)=z
   ·exact .inl ⟨e,List.mem_cons_self ..,h,sT (by show (Sum.inl _:Key)=_;rw [h])⟩
   ·have hv:valV (n6 (e::es)) (Sum.inl z)=valV (n6 es) (Sum.inl z):=sU (by show ¬ (Sum.inl _:Key)=_;intro q;exact h (Sum.inl.inj q))
    rcases tu es z with ⟨x,hx,e1,e2⟩ | ⟨h1,h2⟩
    ·exact .inl ⟨x,List.mem_cons_of_mem _ hx,e1,by rw [hv];exact e2⟩
    ·refine .inr ⟨fun x hx=>?_,by rw [hv];exact h2⟩
     rcases List.mem_cons.mp hx with rfl | hx
     ·exact h
     ·exact h1 x hx
theorem Mq {kvs:List (Key×V)} {k:Key} {v:V} (h:valV kvs k=none):putK kvs k v=kvs++[(k,v)]:=by
 unfold putK
 rw [yu,h]
 rfl
structure StA (H:Hp) (C p d f n:Addr) (rows:List Nat):Prop where
 ho:∃ dx,H p=some (.ins C dx [("by_top",.ref d),("free_places",.ref f),("null_masks",.ref n)])
 he:∃ es:List En,H d=some (.dK (n6 es))∧(∀ e∈es,H e.a=some (.tup [nat e.m,nat e.p]))∧M.Ech (es.map fun e=>(e.m,e.p)) rows∧es.length=(M.fr rows).length
 hf:H f=some (.lst ((M.fr rows).map nat))
 hn:∃ nms,H n=some (.lst (nms.map nat))∧M.NulF nms rows
 ne:f≠n
theorem StA.same {H H2:Hp} {C p d f n:Addr} {rows:List Nat} (x:StA H C p d f n rows) (s:Same H H2):StA H2 C p d f n rows where
 ho:=let ⟨dx,h⟩:=x.ho;⟨dx,s _ _ h⟩
 he:=let ⟨es,h,t,g,l⟩:=x.he;⟨es,s _ _ h,fun e he=>s _ _ (t e he),g,l⟩
 hf:=s _ _ x.hf
 hn:=let ⟨nms,h,g⟩:=x.hn;⟨nms,s _ _ h,g⟩
 ne:=x.ne
theorem StA.null {H H2:Hp} {C p d f n:Addr} {rows:List Nat} (x:StA H C p d f n rows) {r q:Nat} (hq:q < 2 ^ rows.length) (e:r^^^M.sm rows q=0) (hf:M.Frs rows q) {nms:List Nat} (hn:M.NulF nms rows) (hl:H n=some (.lst (nms.map nat)))
  (u:Upd H H2 n (.lst (nms.map nat++[nat (q^^^2 ^ rows.length)]))):StA H2 C p d f n (rows++[r]):=by
 obtain ⟨dx,ho⟩:=x.ho
 obtain ⟨es,hd,ht,g,l⟩:=x.he
 obtain ⟨hs,g2⟩:=g.null hq e
 refine ⟨⟨dx,u.oth _ _ (ig ho hl (by simp)) ho⟩,⟨es,u.oth _ _ (ig hd hl (by simp)) hd,fun e he=>u.oth _ _ (ig (ht e he) hl (by simp)) (ht e he),g2,by rw [M.fr_in hs];exact l⟩,?_,⟨nms++[q^^^2 ^ rows.length],?_,hn.snoc hq e hs hf⟩,x.ne⟩
 ·rw [M.fr_in hs];exact u.oth _ _ x.ne x.hf
 ·rw [List.map_append];exact u.at'
theorem StA.more {H H2 H3 H4:Hp} {C p d f n t:Addr} {rows:List Nat} (x:StA H C p d f n rows) {r q:Nat} (hq:q < 2 ^ rows.length) (e:r^^^M.sm rows q≠0) (hn:∀ y,M.Span rows y→y≠0→y.log2≠(r^^^M.sm rows q).log2) (hf:M.Frs rows q)
  (u:Upd H H2 f (.lst ((M.fr rows).map nat++[nat rows.length]))) (s:Same H2 H3) (ht:H3 t=some (.tup [nat (r^^^M.sm rows q),nat (q^^^2 ^ rows.length)])) {es:List En} (hd:H d=some (.dK (n6 es))) (ht':∀ e∈es,H e.a=some (.tup [nat e.m,nat e.p])) (g:M.Ech (es.map fun e=>(e.m,e.p)) rows) (l:es.length=(M.fr rows).length)
  (u':Upd H3 H4 d (.dK (putK (n6 es) (Sum.inl (((r^^^M.sm rows q).log2:Nat):Int)) (.ref t)))):StA H4 C p d f n (rows++[r]):=by
 obtain ⟨dx,ho⟩:=x.ho
 obtain ⟨nms,hnn,gn⟩:=x.hn
 have hn':∀ e∈es.map (fun e=>(e.m,e.p)),e.1.log2≠(r^^^M.sm rows q).log2:=fun e he=>hn e.1 (g.span he) (g.nz e he)
 obtain ⟨hs,g2⟩:=g.more hq e hn' hf
 have hd2:=s _ _ (u.oth _ _ (ig hd x.hf (by simp)) hd)
 have hv:valV (n6 es) (Sum.inl (((r^^^M.sm rows q).log2:Nat):Int))=none:=by
  rcases tu es (((r^^^M.sm rows q).log2:Nat):Int) with ⟨z,hz,e1,_⟩ | ⟨_,h⟩
  ·exact absurd (Int.ofNat_inj.mp e1) (hn' (z.m,z.p) (List.mem_map.mpr ⟨z,hz,rfl⟩))
  ·exact h
 have go:∀ (b:Addr) (ob:HO),H b=some ob→b≠f→b≠d→H4 b=some ob:=fun b ob h h1 h2=>u'.oth _ _ h2 (s _ _ (u.oth _ _ h1 h))
 refine ⟨⟨dx,go _ _ ho (ig ho x.hf (by simp)) (ig ho hd (by simp))⟩,⟨es++[⟨t,r^^^M.sm rows q,q^^^2 ^ rows.length⟩],?_,fun e he=>?_,?_,?_⟩,?_,⟨nms,go _ _ hnn (Ne.symm x.ne) (ig hnn hd (by simp)),gn.keep hs⟩,x.ne⟩
 ·rw [u'.at',Mq hv]
  unfold n6
  rw [List.map_append]
  rfl
 ·rcases List.mem_append.mp he with he | he
  ·exact go _ _ (ht' e he) (ig (ht' e he) x.hf (by simp)) (ig (ht' e he) hd (by simp))
  ·rw [List.mem_singleton] at he;subst he
   exact u'.oth _ _ (ig ht hd2 (by simp)) ht
 ·rw [List.map_append];exact g2
 ·rw [M.fr_out hs,List.length_append,List.length_append,l];rfl
 ·rw [M.fr_out hs,List.map_append]
  exact u'.oth _ _ (fun z=>by rw [z] at x;have:=x.hf;rw [hd] at this;cases this) (s _ _ u.at')
noncomputable def Qt (C:Addr):Sp:=fun vs H Q _=>∃ p d f n rows x,vs=[.ref p,nat x]∧StA H C p d f n rows∧
 ∀ t H2 q,H t=none→Same H H2→H2 t=some (.tup [nat (x^^^M.sm rows q),nat q])→q < 2 ^ rows.length→(x^^^M.sm rows q≠0→∀ y,M.Span rows y→y≠0→y.log2≠(x^^^M.sm rows q).log2)→M.Frs rows q→Q (.ref t) H2
noncomputable def Qu (C:Addr):Sp:=fun vs H Q _=>∃ p d f n rows r,vs=[.ref p,nat rows.length,nat r]∧StA H C p d f n rows∧rows.length≤1000∧
 ∀ H2,(∀ b o,b≠d→b≠f→b≠n→H b=some o→H2 b=some o)→StA H2 C p d f n (rows++[r])→Q .non H2
noncomputable def Ot (C:Addr):Sp:=fun vs H Q _=>∃ x dx r rows,vs=[.ref x,.ref r]∧H r=some (.lst (rows.map nat))∧rows.length≤1000∧H x=some (.ins C dx [])∧
 ∀ H2 d f n,(∀ b o,b≠x→H b=some o→H2 b=some o)→StA H2 C x d f n rows→Q .non H2
theorem bH {α:Type} {f:α→V} {ws:List α} {i:Nat} {x:V} (h:(ws.map f)[i]? =some x):∃ k,ws[i]? =some k∧x=f k:=by
 rw [List.getElem?_map] at h
 cases e:ws[i]? with
 | none=>rw [e] at h;cases h
 | some k=>rw [e] at h;exact ⟨k,rfl,(Option.some.inj h).symm⟩
theorem take_succ {α:Type} {ws:List α} {i:Nat} {w:α} (h:ws[i]? =some w):ws.take (i + 1)=ws.take i++[w]:=by rw [List.take_succ,h];rfl
theorem sV {α:Type} {ws:List α} {i:Nat} {w:α} (h:ws[i]? =some w):(ws.take i).length=i:=by
 rw [List.length_take]
 have:=(List.getElem?_eq_some_iff.mp h).1
 omega
theorem vi (ns:List Nat):(ns.map nat).all jK=true:=by simp [jK]
theorem QR {K:PySem.W.Frag} {H:Hp} {Q:VK} {neg:Bool} {p q:Addr} {ns:List Nat} (e:SqL K H p (ns.map nat)) (e':SqL K H q (ns.map nat)) (h:Q (.bl (!neg)) H):rEqL K neg (.ref p) (.ref q) H Q:=by
 refine ⟨p,q,_,_,rfl,rfl,e,e',vi ns,vi ns,?_⟩
 rw [KS (vi ns)]
 cases neg<;>exact h
theorem N0 {A:Around} {k:Nat} (hr:Room k A):A.units < cLine:=by have:=hr.un;omega
noncomputable def NB:Sp:=fun vs H Q _=>∃ c k,vs=[.int c,.int k]∧0≤k∧k < 100000∧∀ r:Nat,r < 2147483587→Q (nat r) H
noncomputable def FA (K:PySem.W.Frag):Sp:=fun vs H Q _=>∃ (a:Addr) (ns:List Int),vs=[.ref a]∧SqL K H a (ns.map V.int)∧ns.length≤63∧∀ H',Q (.bl true) H'
theorem P2 {H:Hp} {Q:VK} {E:XK} {c k:Int} (h0:0≤k) (h1:k < 100000) (q:∀ r:Nat,r < 2147483587→Q (nat r) H):NB [.int c,.int k] H Q E:=⟨c,k,rfl,h0,h1,q⟩
structure Prs (H:Hp) (ws:List Nat) (D:Addr) (ps:List (Addr×Nat)):Prop where
 l:H D=some (.lst (ps.map fun q=>V.ref q.1))
 t:∀ q∈ps,H q.1=some (.tup [nat q.2,nat (M.sm ws q.2)])
 b:∀ q∈ps,q.2 < 2 ^ ws.length
end Sx
namespace M
theorem Jp:∀ (l:List Nat) (p:Nat),sm l (p % 2 ^ l.length)=sm l p
 | [],p=>rfl
 | r::l,p=>by
   show (if (p % 2 ^ (l.length + 1)).testBit 0 then r else 0)^^^sm l (p % 2 ^ (l.length + 1) / 2)=(if p.testBit 0 then r else 0)^^^sm l (p / 2)
   have e1:(p % 2 ^ (l.length + 1)).testBit 0=p.testBit 0:=by rw [Nat.testBit_mod_two_pow];simp
   have e2:p % 2 ^ (l.length + 1) / 2=(p / 2) % 2 ^ l.length:=by
    apply Nat.eq_of_testBit_eq
    intro i
    rw [Nat.testBit_div_two,Nat.testBit_mod_two_pow,Nat.testBit_mod_two_pow,Nat.testBit_div_two]
    congr 1
    simp
   rw [e1,e2,Jp l]
theorem nF:∀ (a b:List Nat) (p:Nat),sm (a++b) p=sm a p^^^sm b (p / 2 ^ a.length)
 | [],b,p=>by show sm b p=0^^^sm b (p / 1);rw [Nat.zero_xor,Nat.div_one]
 | r::a,b,p=>by
   show (if p.testBit 0 then r else 0)^^^sm (a++b) (p / 2)=((if p.testBit 0 then r else 0)^^^sm a (p / 2))^^^sm b (p / 2 ^ (a.length + 1))
   rw [nF a b (p / 2),Nat.xor_assoc,Nat.div_div_eq_div_mul,Nat.pow_succ,Nat.mul_comm 2]
theorem xQ {m:Nat} (c:Nat→Bool):∀ (l:List Nat) (p:Nat),∃ β:Bool,sm (l.map fun x=>if c x then x^^^m else x) p=sm l p^^^(if β then m else 0)
 | [],p=>⟨false,by show (0:Nat)=0^^^0;simp⟩
 | r::l,p=>by
   obtain ⟨β,e⟩:=xQ c l (p / 2)
   refine ⟨β^^(p.testBit 0&&c r),?_⟩
   show (if p.testBit 0 then (if c r then r^^^m else r) else 0)^^^sm (l.map fun x=>if c x then x^^^m else x) (p / 2)=((if p.testBit 0 then r else 0)^^^sm l (p / 2))^^^_
   rw [e]
   cases p.testBit 0<;>cases c r<;>cases β<;>simp
   ·rw [Nat.xor_assoc]
   ·rw [Nat.xor_assoc,Nat.xor_comm m,← Nat.xor_assoc]
   ·rw [← Nat.xor_assoc,cE (r^^^m) _ m,aO]
theorem Inj.elim {a b:List Nat} {m:Nat} (I:Inj (a++m::b)) (c:Nat→Bool):Inj ((a++b).map fun x=>if c x then x^^^m else x):=by
 intro p hp e
 rw [List.length_map,List.length_append] at hp
 obtain ⟨β,e1⟩:=xQ (m:=m) c (a++b) p
 rw [e1,nF] at e
 have ha:=Nat.two_pow_pos a.length
 have hlow:p % 2 ^ a.length < 2 ^ a.length:=Nat.mod_lt _ ha
 have hhi:p / 2 ^ a.length < 2 ^ b.length:=by
  rw [Nat.div_lt_iff_lt_mul ha,← Nat.pow_add,Nat.add_comm];exact hp
 have hq1:(p % 2 ^ a.length + 2 ^ a.length * ((if β then 1 else 0) + 2 * (p / 2 ^ a.length))) % 2 ^ a.length=p % 2 ^ a.length:=by
  rw [Nat.add_mul_mod_self_left,Nat.mod_mod]
 have hq2:(p % 2 ^ a.length + 2 ^ a.length * ((if β then 1 else 0) + 2 * (p / 2 ^ a.length))) / 2 ^ a.length=(if β then 1 else 0) + 2 * (p / 2 ^ a.length):=by
  rw [Nat.add_mul_div_left _ _ ha,Nat.div_eq_of_lt hlow,Nat.zero_add]
 have key:=I (p % 2 ^ a.length + 2 ^ a.length * ((if β then 1 else 0) + 2 * (p / 2 ^ a.length))) ?_ ?_
 ·have k1:p % 2 ^ a.length=0:=by omega
  have k2:2 ^ a.length * ((if β then 1 else 0) + 2 * (p / 2 ^ a.length))=0:=by omega
  have k3:(if β then 1 else 0) + 2 * (p / 2 ^ a.length)=0:=by
   rcases Nat.mul_eq_zero.mp k2 with h | h
   ·omega
   ·exact h
  have k4:p / 2 ^ a.length=0:=by omega
  have:=Nat.div_add_mod p (2 ^ a.length)
  rw [k1,k4] at this
  omega
 ·rw [List.length_append,List.length_cons]
  have e2:2 ^ (a.length + (b.length + 1))=2 ^ a.length * (2 * 2 ^ b.length):=by rw [Nat.pow_add,Nat.pow_succ,Nat.mul_comm (2 ^ b.length)]
  rw [e2]
  have h1:(if β then 1 else 0) + 2 * (p / 2 ^ a.length) + 1≤2 * 2 ^ b.length:=by cases β<;>simp<;>omega
  have h2:=Nat.mul_le_mul_left (2 ^ a.length) h1
  rw [Nat.mul_add (2 ^ a.length),Nat.mul_one] at h2
  omega
 ·rw [nF,← Jp a,hq1,Jp,hq2]
  show sm a p^^^((if ((if β then 1 else 0) + 2 * (p / 2 ^ a.length)).testBit 0 then m else 0)^^^sm b (((if β then 1 else 0) + 2 * (p / 2 ^ a.length)) / 2))=0
  have t0:((if β then 1 else 0) + 2 * (p / 2 ^ a.length)).testBit 0=β:=by
   cases β<;>simp [Nat.testBit_zero]<;>omega
  have t1:((if β then 1 else 0) + 2 * (p / 2 ^ a.length)) / 2=p / 2 ^ a.length:=by
   cases β<;>simp<;>omega
  rw [t0,t1,Nat.xor_comm (if β=true then m else 0),← Nat.xor_assoc]
  exact e
theorem i8:∀ (l:List Nat) (j:Nat),sm l (2 ^ j)=l.getD j 0
 | [],j=>by simp [sm]
 | r::l,0=>by
   show (if (2 ^ 0).testBit 0 then r else 0)^^^sm l (2 ^ 0 / 2)=r
   rw [show (2 ^ 0:Nat) / 2=0 from rfl,sm_zero]
   simp
 | r::l,j + 1=>by
   show (if (2 ^ (j + 1)).testBit 0 then r else 0)^^^sm l (2 ^ (j + 1) / 2)=l.getD j 0
   have e1:(2 ^ (j + 1)) / 2=2 ^ j:=by rw [Nat.pow_succ];omega
   have e2:(2 ^ (j + 1)).testBit 0=false:=by rw [Nat.testBit_two_pow];simp
   rw [e1,e2,i8 l j]
   simp
theorem Inj.erase {l:List Nat} (I:Inj l) {j m:Nat} (h:l[j]? =some m) (c:Nat→Bool):Inj ((l.eraseIdx j).map fun x=>if c x then x^^^m else x):=by
 obtain ⟨hj,ej⟩:=List.getElem?_eq_some_iff.mp h
 have e:l=l.take j++m::l.drop (j + 1):=by rw [← ej,List.getElem_cons_drop,List.take_append_drop]
 rw [List.eraseIdx_eq_take_drop_succ]
 rw [e] at I
 exact I.elim c
theorem dX {P:List Nat→Prop} (h0:P []) (hs:∀ l w,P l→P (l++[w])):∀ l,P l:=by
 intro l
 rw [← List.reverse_reverse l]
 generalize l.reverse=k
 induction k with
 | nil=>exact h0
 | cons a k ih=>rw [List.reverse_cons];exact hs _ _ ih
theorem jm:∀ (l:List Nat),(∀ x∈l,x≠0)→l.Pairwise (fun a b=>a.log2 < b.log2)→Inj l:=by
 refine dX (fun _ _=>Inj.nil) fun l w ih=>?_
 ·intro nz pw
  rw [List.pairwise_append] at pw
  have hw:w≠0:=nz w (by simp)
  refine (ih (fun x hx=>nz x (List.mem_append_left _ hx)) pw.1).snoc (t:=w.log2) (fun x hx=>?_) (Nat.log2_self_le hw)
  have h1:=pw.2.2 x hx w (by simp)
  exact Nat.lt_of_lt_of_le Nat.lt_log2_self (Nat.pow_le_pow_right (by decide) h1)
theorem pl_next (i m:Nat):pl (i + 1) m=pl i m++(if m.testBit i then [i] else []):=by
 unfold pl
 rw [List.range_succ,List.filter_append]
 congr 1
 by_cases h:m.testBit i=true
 ·rw [if_pos h];simp [h]
 ·rw [if_neg h];simp [h]
theorem pl_le (i m:Nat):(pl i m).length≤i:=by
 have:=List.length_filter_le m.testBit (List.range i)
 rw [List.length_range] at this
 exact this
theorem pl_rise (w m:Nat):(pl w m).Pairwise (· < ·):=List.Pairwise.filter _ List.pairwise_lt_range
theorem pl_lt {w m n:Nat} (h:m < 2 ^ n):∀ x∈pl w m,x < n:=by
 intro x hx
 have hb:=(List.mem_filter.mp hx).2
 refine Nat.lt_of_not_le fun hn=>?_
 rw [Nat.testBit_lt_two_pow (Nat.lt_of_lt_of_le h (Nat.pow_le_pow_right (by decide) hn))] at hb
 cases hb
noncomputable def xs (rows ps:List Nat):Nat:=ps.foldl (fun a k=>a^^^rows.getD k 0) 0
theorem F2 {m:Nat}:∀ {l:List Nat},m∈l→∃ j:Nat,l[j]? =some m∧∀ i,i < j→l[i]? ≠some m
 | [],h=>absurd h (by simp)
 | x::l,h=>by
   by_cases e:x=m
   ·exact ⟨0,by rw [e];rfl,fun i hi=>absurd hi (Nat.not_lt_zero _)⟩
   ·have hm:m∈l:=by
     rcases List.mem_cons.mp h with h | h
     ·exact absurd h.symm e
     ·exact h
    obtain ⟨j,hj,hn⟩:=F2 hm
    refine ⟨j + 1,hj,fun i hi=>?_⟩
    cases i with
    | zero=>simpa using e
    | succ i=>exact hn i (by omega)
end M
namespace Sx
open PySem L2
theorem Pl (l:List Nat):l.map nat=(l.map fun (k:Nat)=>(k:Int)).map V.int:=by rw [List.map_map];rfl
theorem E5 (m:Nat):m < 2 ^ Builtin.Int.intBits (m:Int):=by
 by_cases h:m=0
 ·subst h;decide
 ·rw [lW h];exact Nat.lt_log2_self
theorem E6 {m w:Nat} (hm:m < 2 ^ w):Builtin.Int.intBits (m:Int)≤w:=by
 by_cases h:m=0
 ·subst h;rw [CB];exact Nat.zero_le _
 ·rw [lW h];exact (Nat.log2_lt h).mpr hm
noncomputable def OA:Sp:=fun vs H Q _=>∃ m:Nat,vs=[nat m]∧m < 2 ^ 1000∧∀ D H2,H D=none→Same H H2→H2 D=some (.lst ((M.pl 1000 m).map nat))→Q (.ref D) H2
theorem E7 {rows:List Nat} {k:Nat} (h:k < rows.length):atI (rows.map nat) (k:Int)=some (nat (rows.getD k 0)):=E8 (by rw [List.getElem?_map,List.getElem?_eq_getElem h,List.getD_eq_getElem?_getD,List.getElem?_eq_getElem h];rfl)
end Sx
namespace M
noncomputable abbrev od (m:Nat):Bool:=pb 1000 m
theorem gR (a b:Nat):od (a^^^b)=(od a^^od b):=NO 1000 a b
theorem lF (m a b:Nat):m&&&(a^^^b)=(m&&&a)^^^(m&&&b):=by
 apply Nat.eq_of_testBit_eq;intro i
 simp only [Nat.testBit_and,Nat.testBit_xor]
 cases m.testBit i<;>simp
theorem kE (m a b:Nat):(a^^^b)&&&m=(a&&&m)^^^(b&&&m):=by
 apply Nat.eq_of_testBit_eq;intro i
 simp only [Nat.testBit_and,Nat.testBit_xor]
 cases m.testBit i<;>simp
theorem yT:∀ w:Nat,pb w 0=false
 | 0=>rfl
 | w + 1=>by show ((0:Nat).testBit w^^pb w 0)=false;rw [yT w];simp
theorem pb_pow {w t:Nat} (h:t < w):pb w (2 ^ t)=true:=by
 rw [pb_up (w:=t + 1) (Nat.pow_lt_pow_right (by decide) (by omega)) h]
 show ((2 ^ t).testBit t^^pb t (2 ^ t))=true
 have e:pb t (2 ^ t)=false:=by
  rw [← NQ,Nat.mod_self,yT]
 rw [e,Nat.testBit_two_pow_self];rfl
theorem O1 (t y:Nat):2 ^ t&&&y=if y.testBit t then 2 ^ t else 0:=by
 apply Nat.eq_of_testBit_eq;intro i
 rw [Nat.testBit_and,Nat.testBit_two_pow]
 by_cases h:t=i
 ·subst h
  cases y.testBit t<;>simp
 ·cases y.testBit t<;>simp [h,Nat.testBit_two_pow]
theorem FQ {t:Nat} (h:t < 1000) (y:Nat):od (2 ^ t&&&y)=y.testBit t:=by
 rw [O1]
 cases y.testBit t with
 | true=>rw [if_pos rfl];exact pb_pow h
 | false=>rw [if_neg Bool.false_ne_true];exact yT 1000
theorem od_zero:od 0=false:=yT 1000
theorem J9 {y k:Nat} (h:y < 2 ^ k):y.testBit k=false:=Nat.testBit_lt_two_pow h
theorem Fz {y t k:Nat} (h:y≠0) (e:y.log2=t) (l:t < k):y < 2 ^ k:=Nat.lt_of_lt_of_le (by rw [← e];exact Nat.lt_log2_self) (Nat.pow_le_pow_right (by decide) l)
structure Bar (rows:List Nat) (b m:Nat):Prop where
 ev:∀ y,Span rows y→od (m&&&y)=false
 bit:m.testBit b=true
 low:∀ k,k < b→m.testBit k=false
 oth:∀ k,k≠b→(∀ y,Span rows y→y≠0→y.log2≠k)→m.testBit k=false
 lt:∀ W,(∀ r∈rows,r < 2 ^ W)→b < W→m < 2 ^ W
structure BarI (es:List (Nat×Nat)) (ts:List Nat) (b m:Nat):Prop where
 ev:∀ e∈es,e.1.log2∈ts→od (m&&&e.1)=false
 bit:m.testBit b=true
 low:∀ k,k < b→m.testBit k=false
 oth:∀ k,k≠b→(∀ e∈es,e.1.log2≠k)→m.testBit k=false
 lt:∀ W,(∀ e∈es,e.1 < 2 ^ W)→b < W→m < 2 ^ W
theorem BarI.zero (es:List (Nat×Nat)) (b:Nat):BarI es [] b (2 ^ b) where
 ev:=fun _ _ h=>absurd h (by simp)
 bit:=Nat.testBit_two_pow_self
 low:=fun k h=>by rw [Nat.testBit_two_pow];simp;omega
 oth:=fun k h _=>by rw [Nat.testBit_two_pow];simp;omega
 lt:=fun W _ h=>Nat.pow_lt_pow_right (by decide) h
theorem MM {m y b:Nat} (h:∀ k,k < b→m.testBit k=false) (hy:y < 2 ^ b):m&&&y=0:=by
 apply Nat.eq_of_testBit_eq;intro i
 rw [Nat.testBit_and,Nat.zero_testBit]
 by_cases hi:i < b
 ·rw [h i hi];rfl
 ·rw [Nat.testBit_lt_two_pow (Nat.lt_of_lt_of_le hy (Nat.pow_le_pow_right (by decide) (by omega)))];simp
theorem Fw {es:List (Nat×Nat)} (nd:(es.map fun e=>e.1.log2).Nodup) {e f:Nat×Nat} (he:e∈es) (hf:f∈es) (h:e.1.log2=f.1.log2):e=f:=by
 obtain ⟨i,hi,rfl⟩:=List.mem_iff_getElem.mp he
 obtain ⟨j,hj,rfl⟩:=List.mem_iff_getElem.mp hf
 have key:∀ i j (hi:i < es.length) (hj:j < es.length),i < j→es[i].1.log2≠es[j].1.log2:=fun i j hi hj hij=>by
  have:=List.pairwise_iff_getElem.mp nd i j (by rw [List.length_map];exact hi) (by rw [List.length_map];exact hj) hij
  rw [List.getElem_map,List.getElem_map] at this
  exact this
 rcases Nat.lt_trichotomy i j with h1 | h1 | h1
 ·exact absurd h (key i j hi hj h1)
 ·subst h1;rfl
 ·exact absurd h.symm (key j i hj hi h1)
theorem BarI.keep {es:List (Nat×Nat)} {ts:List Nat} {b m:Nat} (I:BarI es ts b m) {e:Nat×Nat} (nd:(es.map fun e=>e.1.log2).Nodup) (he:e∈es) (h:od (m&&&e.1)=false):BarI es (ts++[e.1.log2]) b m where
 ev:=fun f hf hm=>by
  rcases List.mem_append.mp hm with hm | hm
  ·exact I.ev f hf hm
  ·rw [List.mem_singleton] at hm
   rw [Fw nd hf he hm];exact h
 bit:=I.bit
 low:=I.low
 oth:=I.oth
 lt:=I.lt
theorem BarI.flip {es:List (Nat×Nat)} {ts:List Nat} {b m:Nat} (I:BarI es ts b m) {e:Nat×Nat} (nd:(es.map fun e=>e.1.log2).Nodup) (nz:∀ e∈es,e.1≠0) (he:e∈es) (h:od (m&&&e.1)=true) (up:∀ t∈ts,t < e.1.log2) (hb:e.1.log2≠b) (h1000:e.1.log2 < 1000):BarI es (ts++[e.1.log2]) b (m^^^2 ^ e.1.log2):=by
 have hgt:b < e.1.log2:=by
  refine Nat.lt_of_le_of_ne (Nat.le_of_not_lt fun hlt=>?_) (Ne.symm hb)
  rw [MM I.low (Fz (nz e he) rfl hlt),od_zero] at h
  cases h
 have e0:=nz e he
 refine ⟨fun f hf hm=>?_,?_,fun k hk=>?_,fun k hk hn=>?_,fun W hW hbW=>?_⟩
 ·rw [kE,gR,FQ h1000]
  rcases List.mem_append.mp hm with hm | hm
  ·rw [I.ev f hf hm,J9 (Fz (nz f hf) rfl (up _ hm))];rfl
  ·rw [List.mem_singleton] at hm
   rw [Fw nd hf he hm,h,d0 e0];rfl
 ·rw [Nat.testBit_xor,I.bit,Nat.testBit_two_pow];simp;omega
 ·rw [Nat.testBit_xor,I.low k hk,Nat.testBit_two_pow];simp;omega
 ·rw [Nat.testBit_xor,I.oth k hk hn,Nat.testBit_two_pow]
  have:=hn e he
  simp;omega
 ·exact xor_lt_pow (I.lt W hW hbW) (Nat.lt_of_le_of_lt (Nat.log2_self_le e0) (hW e he))
theorem Ech.even_all {es:List (Nat×Nat)} {rows:List Nat} (g:Ech es rows) {m:Nat} (h:∀ e∈es,od (m&&&e.1)=false):∀ y,Span rows y→od (m&&&y)=false:=by
 intro y
 induction y using Nat.strongRecOn with
 | ind y ih=>
   intro hy
   by_cases y0:y=0
   ·subst y0;rw [Nat.and_zero,od_zero]
   ·obtain ⟨e,he,el⟩:=g.all y hy y0
    have e0:=g.nz e he
    have hl:=xor_less y0 e0 el.symm
    have h1:=ih _ hl (span_xor hy (g.span he))
    have h2:=h e he
    have h3:od (m&&&(y^^^e.1))=(od (m&&&y)^^od (m&&&e.1)):=by rw [lF,gR]
    rw [h1,h2] at h3
    simpa using h3.symm
theorem BarI.done {es:List (Nat×Nat)} {rows:List Nat} (g:Ech es rows) {ts:List Nat} {b m:Nat} (I:BarI es ts b m) (all:∀ e∈es,e.1.log2∈ts):Bar rows b m where
 ev:=g.even_all fun e he=>I.ev e he (all e he)
 bit:=I.bit
 low:=I.low
 oth:=fun k hk h=>I.oth k hk fun e he=>h e.1 (g.span he) (g.nz e he)
 lt:=fun W hW hb=>I.lt W (fun e he=>span_lt hW (g.span he)) hb
theorem Bar.odd {rows:List Nat} {b m x q:Nat} (B:Bar rows b m) (h0:x^^^sm rows q≠0) (hb:(x^^^sm rows q).log2=b) (h1000:b < 1000):od (m&&&x)=true:=by
 have e1:m&&&x=(m&&&(x^^^sm rows q))^^^(m&&&sm rows q):=by rw [← lF,aO]
 rw [e1,gR,B.ev _ (sm_span rows q)]
 have e2:m&&&(x^^^sm rows q)=2 ^ b:=by
  apply Nat.eq_of_testBit_eq;intro i
  rw [Nat.testBit_and,Nat.testBit_two_pow]
  rcases Nat.lt_trichotomy i b with h | h | h
  ·rw [B.low i h];simp;omega
  ·subst h;rw [B.bit,← hb,d0 h0];simp
  ·rw [J9 (Fz h0 hb h)];simp;omega
 rw [e2]
 show (pb 1000 (2 ^ b)^^false)=true
 rw [pb_pow h1000];rfl
theorem kK:∀ (a b:List Nat),a.Nodup→(∀ x∈a,x∈b)→a.length≤b.length
 | [],b,_,_=>Nat.zero_le _
 | x::a,b,nd,h=>by
   have hx:=h x (List.mem_cons_self ..)
   have nd':=List.nodup_cons.mp nd
   have ih:=kK a (b.erase x) nd'.2 fun y hy=>by
    have hne:y≠x:=fun e=>nd'.1 (e ▸ hy)
    exact (List.mem_erase_of_ne hne).mpr (h y (List.mem_cons_of_mem _ hy))
   rw [List.length_erase_of_mem hx] at ih
   have:=List.length_pos_of_mem hx
   rw [List.length_cons];omega
theorem i6:∀ rows:List Nat,∃ ks,Sums ks rows∧ks.length=2 ^ (fr rows).length:=by
 refine dX ⟨[0],Sums.zero,rfl⟩ fun rows r ih=>?_
 obtain ⟨ks,S,e⟩:=ih
 by_cases h:Span rows r
 ·exact ⟨ks,S.keep h,by rw [fr_in h];exact e⟩
 ·refine ⟨_,S.step h,?_⟩
  rw [fr_out h,List.length_append,List.length_append,List.length_map,e,List.length_singleton,Nat.pow_succ]
  omega
theorem OY {rows:List Nat} {t:Nat} (h:∀ r∈rows,r < 2 ^ t):(fr rows).length≤t:=by
 obtain ⟨ks,S,e⟩:=i6 rows
 have:=S.few h
 rw [e] at this
 exact (Nat.pow_le_pow_iff_right (by decide)).mp this
theorem pb_half (w m:Nat):pb (w + 1) m=(m.testBit 0^^pb w (m / 2)):=by
 rw [Nat.add_comm,yU 1 w m,Nat.shiftRight_eq_div_pow]
 congr 1
 show (m.testBit 0^^false)=_
 simp
theorem sum_uniq {rows:List Nat} {p q:Nat} (hp:Frs rows p) (hq:Frs rows q) (e:sm rows p=sm rows q):p=q:=by
 refine Classical.byContradiction fun hne=>?_
 have hf:=hp.xor hq
 have hz:sm rows (p^^^q)=0:=by rw [sm_xor,e,Nat.xor_self]
 have h0:p^^^q≠0:=fun z=>hne (by have:=congrArg (·^^^q) z;simpa [aO] using this)
 generalize p^^^q=z at hf hz h0
 obtain ⟨hi,hn⟩:=hf z.log2 (d0 h0)
 apply hn
 have ez:z=(z^^^2 ^ z.log2)^^^2 ^ z.log2:=(aO _ _).symm
 have hlt:z^^^2 ^ z.log2 < 2 ^ z.log2:=by
  have:=Ft h0 (show 2 ^ z.log2≠0 from Nat.ne_of_gt (Nat.two_pow_pos _)) (by rw [Nat.log2_two_pow])
  exact this
 generalize hy:z^^^2 ^ z.log2=y at ez hlt
 generalize z.log2=t at ez hlt hi
 have esplit:rows=rows.take t++(rows.getD t 0::rows.drop (t + 1)):=by
  rw [List.getD_eq_getElem?_getD,List.getElem?_eq_getElem hi]
  show rows=rows.take t++(rows[t]::rows.drop (t + 1))
  rw [← List.drop_eq_getElem_cons hi,List.take_append_drop]
 have hsm:∀ (as bs:List Nat) (s:Nat),s < 2 ^ as.length→sm (as++bs) s=sm as s:=by
  intro as bs
  induction as with
  | nil=>
    intro s hs
    have e0:s=0:=by have:s < 1:=hs;omega
    rw [e0,sm_zero,sm_zero]
  | cons a as ih=>
    intro s hs
    show (if s.testBit 0 then a else 0)^^^sm (as++bs) (s / 2)=(if s.testBit 0 then a else 0)^^^sm as (s / 2)
    rw [ih (s / 2) (by rw [List.length_cons,Nat.pow_succ] at hs;omega)]
 have lt_t:(rows.take t).length=t:=by rw [List.length_take];omega
 have h1:sm rows y=sm (rows.take t) y:=by
  conv=>lhs;rw [esplit]
  exact hsm _ _ y (by rw [lt_t];exact hlt)
 have h2:sm rows (2 ^ t)=rows.getD t 0:=by
  have e3:rows=(rows.take t++[rows.getD t 0])++rows.drop (t + 1):=by rw [List.append_assoc];exact esplit
  conv=>lhs;rw [e3]
  rw [hsm _ _ (2 ^ t) (by rw [List.length_append,lt_t,List.length_singleton];exact Nat.pow_lt_pow_right (by decide) (by omega))]
  have:=NC (rows.take t) (rows.getD t 0)
  rw [lt_t] at this
  exact this
 rw [ez,sm_xor,h1,h2] at hz
 have:rows.getD t 0=sm (rows.take t) y:=by
  have:=congrArg (sm (rows.take t) y^^^·) hz
  simp only [← Nat.xor_assoc,Nat.xor_self,Nat.zero_xor,Nat.xor_zero] at this
  exact this
 rw [this]
 exact sm_span _ _
theorem Bar.uniq {rows:List Nat} {b m m':Nat} (hlt:∀ r∈rows,r < 2 ^ 1000) (B:Bar rows b m) (B':Bar rows b m'):m=m':=by
 refine Classical.byContradiction fun hne=>?_
 have h0:m^^^m'≠0:=fun z=>hne (by have:=congrArg (·^^^m') z;simpa [aO] using this)
 have hev:∀ y,Span rows y→od ((m^^^m')&&&y)=false:=fun y hy=>by rw [kE,gR,B.ev y hy,B'.ev y hy];rfl
 have hoth:∀ k,(∀ y,Span rows y→y≠0→y.log2≠k)→(m^^^m').testBit k=false:=fun k hk=>by
  rw [Nat.testBit_xor]
  by_cases e:k=b
  ·rw [e,B.bit,B'.bit];rfl
  ·rw [B.oth k e hk,B'.oth k e hk];rfl
 generalize m^^^m'=z at h0 hev hoth
 have hex:∃ k,z.testBit k=true:=⟨_,d0 h0⟩
 obtain ⟨k,hk,hmin⟩:∃ k,z.testBit k=true∧∀ j,j < k→z.testBit j=false:=by
  obtain ⟨n,hn⟩:=hex
  induction n using Nat.strongRecOn with
  | ind n ih=>
    by_cases h:∃ j,j < n∧z.testBit j=true
    ·obtain ⟨j,hj,hz⟩:=h;exact ih j hj hz
    ·exact ⟨n,hn,fun j hj=>by
      cases e:z.testBit j with
      | false=>rfl
      | true=>exact absurd ⟨j,hj,e⟩ h⟩
 have htop:∃ y,Span rows y∧y≠0∧y.log2=k:=Classical.byContradiction fun hn=>by
  rw [hoth k fun y hy y0 e=>hn ⟨y,hy,y0,e⟩] at hk;cases hk
 obtain ⟨y,hy,y0,ey⟩:=htop
 have ezy:z&&&y=2 ^ k:=by
  apply Nat.eq_of_testBit_eq;intro i
  rw [Nat.testBit_and,Nat.testBit_two_pow]
  rcases Nat.lt_trichotomy i k with h | h | h
  ·rw [hmin i h];simp;omega
  ·subst h;rw [hk,← ey,d0 y0];simp
  ·rw [J9 (Fz y0 ey h)];simp;omega
 have hk1:k < 1000:=by rw [← ey];exact log2_under y0 (span_lt hlt hy)
 have:=hev y hy
 rw [ezy,show od (2 ^ k)=true from pb_pow hk1] at this
 cases this
theorem rest_uniq {rows:List Nat} {x y z:Nat} (hy:Span rows y) (hz:Span rows z) (y0:x^^^y≠0) (z0:x^^^z≠0) (ny:∀ w,Span rows w→w≠0→w.log2≠(x^^^y).log2) (nz:∀ w,Span rows w→w≠0→w.log2≠(x^^^z).log2):(x^^^y).log2=(x^^^z).log2:=by
 refine Classical.byContradiction fun hne=>?_
 have hs:Span rows ((x^^^y)^^^(x^^^z)):=by
  rw [xor4,Nat.xor_self,Nat.zero_xor]
  exact span_xor hy hz
 rcases uL y0 z0 hne with h | h
 ·refine ny _ hs (fun e=>?_) h
  rw [e] at h
  have:x^^^y=x^^^z:=by have:=congrArg (·^^^(x^^^z)) e;simpa [aO] using this
  exact hne (by rw [this])
 ·refine nz _ hs (fun e=>?_) h
  have:x^^^y=x^^^z:=by have:=congrArg (·^^^(x^^^z)) e;simpa [aO] using this
  exact hne (by rw [this])
theorem lH {l:List Nat} {m:Nat} (h:m∈l):Span l m:=by
 obtain ⟨j,hj,rfl⟩:=List.mem_iff_getElem.mp h
 have:=sm_span l (2 ^ j)
 rw [i8,List.getD_eq_getElem?_getD,List.getElem?_eq_getElem hj] at this
 exact this
end M
namespace Sx
open PySem L2
noncomputable def cell (ns:List Int) (k:Int):Int:=if k < ns.length then ns.getD k.toNat 0 else 41 * k + 3
noncomputable def FC (K:PySem.W.Frag):Sp:=fun vs H Q _=>∃ (p:Addr) (ns:List Int) (k:Int),vs=[.ref p,.int k]∧SqL K H p (ns.map V.int)∧0≤k∧Q (.int (cell ns k)) H
theorem EW {K:PySem.W.Frag} {H:Hp} {Q:VK} {E:XK} {p:Addr} {ns:List Int} {k:Int} (e:SqL K H p (ns.map V.int)) (h0:0≤k) (q:Q (.int (cell ns k)) H):FC K [.ref p,.int k] H Q E:=⟨p,ns,k,rfl,e,h0,q⟩
noncomputable def Oy:Sp:=fun vs H Q _=>∃ m:Nat,vs=[nat m]∧m < 2 ^ 1000∧Q (.bl (!M.od m)) H
theorem KR (n h:Nat):Builtin.bitXor ((n:Int) / 2 ^ ((h:Int).toNat)) (Builtin.bitAnd (n:Int) (1 * 2 ^ ((h:Int).toNat) - 1))=(((n>>>h)^^^(n&&&(2 ^ h - 1)):Nat):Int):=by
 rw [Int.toNat_natCast,Int.one_mul,sX]
 have e1:(n:Int) / ((2 ^ h:Nat):Int)=((n>>>h:Nat):Int):=by rw [Nat.shiftRight_eq_div_pow];norm_cast
 have e2:((2 ^ h:Nat):Int) - 1=((2 ^ h - 1:Nat):Int):=by have:=Nat.two_pow_pos h;omega
 rw [e1,e2,bR,bw]
theorem KD (wd:Nat):((wd:Int) + 1) / 2=(((wd + 1) / 2:Nat):Int):=by omega
theorem MD {n:Nat} (h:n < 2):decide (nat n=V.int 0)= !M.od n:=by
 have:n=0∨n=1:=by omega
 rcases this with rfl | rfl
 ·rw [M.od_zero];decide
 ·rw [show M.od 1=true from M.pb_pow (t:=0) (by decide)];decide
noncomputable def Sg (rows:List Nat) (b:Nat):Prop:=∀ y,M.Span rows y→y≠0→y.log2≠b
noncomputable def Qw (C:Addr):Sp:=fun vs H Q _=>∃ (p d f n:Addr) (rows:List Nat) (b:Nat),vs=[.ref p,nat b]∧StA H C p d f n rows∧b < 1000∧(∀ r∈rows,r < 2 ^ 1000)∧(M.fr rows).length < 64∧Sg rows b∧
 ∀ m H2,Same H H2→M.Bar rows b m→Q (nat m) H2
structure Acr (rows:List Nat) (wd:Nat) (ms:List Nat):Prop where
 len:ms.length + (M.fr rows).length=wd
 inj:M.Inj ms
 lt:∀ m∈ms,m < 2 ^ wd
 ev:∀ m∈ms,∀ y,M.Span rows y→M.od (m&&&y)=false
 all:∀ z,z < 2 ^ wd→(∀ y,M.Span rows y→M.od (z&&&y)=false)→M.Span ms z
theorem MQ (es:List En):(n6 es).map (·.1)=(es.map fun e=>((e.m.log2:Nat):Int)).map Sum.inl:=by unfold n6;rw [List.map_map,List.map_map];rfl
theorem Dh {es:List En} {ns:List Int} (hp:ns.Perm (es.map fun e=>((e.m.log2:Nat):Int))) (hw:ns.Pairwise (·≤·)) (nd:(es.map fun e=>e.m.log2).Nodup):
  ∃ ts:List Nat,ns=ts.map (fun (k:Nat)=>(k:Int))∧ts.Pairwise (· < ·)∧(∀ t,t∈ts↔∃ e∈es,e.m.log2=t):=by
 have hn:∀ x∈ns,((x.toNat:Nat):Int)=x:=fun x hx=>by
  obtain ⟨e,_,rfl⟩:=List.mem_map.mp (hp.mem_iff.mp hx)
  omega
 have e1:ns=(ns.map Int.toNat).map (fun (k:Nat)=>(k:Int)):=by
  rw [List.map_map]
  exact (List.map_id ns).symm.trans (List.map_congr_left fun x hx=>(hn x hx).symm)
 have hp2:(ns.map Int.toNat).Perm (es.map fun e=>e.m.log2):=by
  have:=hp.map Int.toNat
  rw [List.map_map] at this
  exact this
 refine ⟨ns.map Int.toNat,e1,?_,fun t=>?_⟩
 ·have nd2:(ns.map Int.toNat).Nodup:=hp2.nodup_iff.mpr nd
  have hle:(ns.map Int.toNat).Pairwise (·≤·):=by
   rw [List.pairwise_map]
   exact hw.imp fun h=>by omega
  exact List.Pairwise.imp (R:=fun a b=>a≤b∧a≠b) (fun h=>by omega) (List.Pairwise.and hle nd2)
 ·rw [hp2.mem_iff,List.mem_map]
end Sx
namespace M
noncomputable def cm (a b:Nat):Nat:=if b=0 then 0 else (if b % 2=1 then a else 0)^^^2 * cm a (b / 2)
termination_by b
decreasing_by omega
noncomputable def Dv (d x:Nat):Prop:=∃ q,cm q d=x
structure Rm (d x r:Nat):Prop where
 lt:r < 2 ^ d.log2
 dv:Dv d (x^^^r)
end M
namespace Sx
open PySem L2
noncomputable def dg (m:Nat):Int:=(Builtin.Int.intBits (m:Int):Int) - 1
end Sx
namespace M
structure Ord (d e:Nat):Prop where
 pos:1≤e
 one:Rm d (2 ^ e) 1
 least:∀ j,1≤j→j < e→¬ Rm d (2 ^ j) 1
 le:e≤2 ^ d.log2
end M
namespace Sx
open PySem L2
noncomputable def IU (k:String):Bool:=subB k "int"&& !subB k "bool"
noncomputable def dM (x:V) (w:Int):Bool:=match x with
 | .int i=>decide (0≤i)&&decide (((Builtin.Int.intBits i:Nat):Int)≤w)
 | _=>false
noncomputable def sW (K:PySem.W.Frag):Sp:=fun vs H Q _=>∃ x k,vs=[x]∧jl K H x k∧Q (.bl (IU k)) H
noncomputable def yx (K:PySem.W.Frag):Sp:=fun vs H Q _=>∃ x k w,vs=[x,.int w]∧jl K H x k∧Q (.bl (dM x w)) H
theorem qD {K:PySem.W.Frag} {H:Hp} {Q:VK} {E:XK} {x:V} {k:String} (hk:jl K H x k) (q:Q (.bl (IU k)) H):sW K [x] H Q E:=⟨x,k,rfl,hk,q⟩
theorem yq {K:PySem.W.Frag} {H:Hp} {Q:VK} {E:XK} {x:V} {k:String} {i:Int} (hk:jl K H x k) (q:Q (.bl (dM x i)) H):yx K [x,.int i] H Q E:=⟨x,k,i,rfl,hk,q⟩
theorem iF {c m:Int} (h:0 < m):∃ k:Nat,c % m=(k:Int)∧(k:Int) < m:=by
 obtain ⟨k,hk⟩:=Int.eq_ofNat_of_zero_le (Int.emod_nonneg c (Int.ne_of_gt h))
 exact ⟨k,hk,by rw [← hk];exact Int.emod_lt_of_pos c h⟩
theorem OH {H:Hp} {Q:VK} {l:Addr} {k:Int} {xs:List V} (e:H l=some (.lst xs)) (h0: -(2 ^ 63)≤k) (h1:k < 2 ^ 63) (hz:xs.length * k.toNat≤sizeLine) (h:∀ p H2,H p=none→Same H H2→H2 p=some (.lst (List.replicate k.toNat xs).flatten)→Q (.ref p) H2):rRep (.ref l) (.int k) H Q:=
 ⟨l,k,xs,rfl,rfl,e,h0,h1,hz,mJ h⟩
end Sx
namespace M
noncomputable def bn (b:Bool):Nat:=if b then 1 else 0
noncomputable def pk (s:Nat→Bool) (t:Nat):Nat→Nat
 | 0=>0
 | L + 1=>pk s t L^^^(if s (t + L) then 2 ^ L else 0)
theorem Re (s:Nat→Bool) (t:Nat):∀ L,pk s t L < 2 ^ L
 | 0=>Nat.one_pos
 | L + 1=>by
   have ih:=Re s t L
   refine xor_lt_pow (Nat.lt_of_lt_of_le ih (Nat.pow_le_pow_right (by decide) (by omega))) ?_
   split
   ·exact Nat.pow_lt_pow_right (by decide) (by omega)
   ·exact Nat.two_pow_pos _
theorem NL (s:Nat→Bool) (t:Nat):∀ L p,(pk s t L).testBit p=(decide (p < L)&&s (t + p))
 | 0,p=>by simp [pk]
 | L + 1,p=>by
   rw [pk,Nat.testBit_xor,NL s t L p]
   rcases Nat.lt_trichotomy p L with h | h | h
   ·have e:(if s (t + L)=true then 2 ^ L else 0:Nat).testBit p=false:=by
     cases s (t + L)<;>simp [Nat.testBit_two_pow];omega
    rw [e];simp [h,show p < L + 1 by omega]
   ·subst h
    cases hs:s (t + p)<;>simp [Nat.testBit_two_pow_self]
   ·have e:(if s (t + L)=true then 2 ^ L else 0:Nat).testBit p=false:=by
     cases s (t + L)<;>simp [Nat.testBit_two_pow];omega
    rw [e];simp [show ¬ p < L by omega,show ¬ p < L + 1 by omega]
theorem FL {s u:Nat→Bool} {t v:Nat}:∀ {L:Nat},(∀ p,p < L→s (t + p)=u (v + p))→pk s t L=pk u v L
 | 0,_=>rfl
 | L + 1,h=>by rw [pk,pk,FL fun p hp=>h p (by omega),h L (by omega)]
noncomputable def lf (G:Nat):Nat→(Nat→Bool)→Nat→Bool
 | 0,_,_=>false
 | L + 1,s,t=>lf G L s t^^(G.testBit L&&s (t + L))
noncomputable def tr (as:List Nat) (x:Nat):Nat:=pk (fun k=>od (as.getD k 0&&&x)) 0 as.length
noncomputable def stt (as:List Nat) (x:Nat):Nat→Nat
 | 0=>x
 | t + 1=>tr as (stt as x t)
noncomputable def ans (as:List Nat) (o x t:Nat):Bool:=od (o&&&stt as x t)
noncomputable def lm (L G:Nat):List Nat:=(List.range (L - 1)).map (fun p=>2 ^ (p + 1))++(if 0 < L then [G] else [])
end M
namespace Sx
open PySem L2
noncomputable abbrev Pr3:=Addr×Nat×Nat
noncomputable def refs (ps:List Pr3):List V:=ps.map fun q=>V.ref q.1
noncomputable def Prt (H:Hp) (ps:List Pr3):Prop:=∀ q∈ps,H q.1=some (.tup [nat q.2.1,nat q.2.2])
theorem Prt.same {H H2:Hp} {ps:List Pr3} (x:Prt H ps) (s:Same H H2):Prt H2 ps:=fun q h=>s _ _ (x q h)
structure MaA (H:Hp) (C p:Addr) (m:Nat) (nx os:List Pr3):Prop where
 ho:∃ dx tn to,H p=some (.ins C dx [("inputs",nat m),("nexts",.ref tn),("outs",.ref to)])∧H tn=some (.tup (refs nx))∧H to=some (.tup (refs os))
 hn:Prt H nx
 hs:Prt H os
theorem MaA.same {H H2:Hp} {C p:Addr} {m:Nat} {nx os:List Pr3} (x:MaA H C p m nx os) (s:Same H H2):MaA H2 C p m nx os:=
 ⟨let ⟨dx,tn,to,a,b,c⟩:=x.ho;⟨dx,tn,to,s _ _ a,s _ _ b,s _ _ c⟩,x.hn.same s,x.hs.same s⟩
noncomputable def sq (bs:List Bool):Nat→Bool:=fun i=>bs.getD i false
noncomputable def Jh:Sp:=fun vs H Q _=>∃ (r:Addr) (ps:List Nat),vs=[.ref r]∧H r=some (.lst (ps.map nat))∧(∀ p∈ps,p < 1000)∧Q (nat (M.xm ps)) H
noncomputable def LS:Sp:=fun vs H Q _=>∃ (t:Addr) (x y n m:Nat),vs=[.ref t,nat n,nat m]∧H t=some (.tup [nat x,nat y])∧x < 2 ^ n∧y < 2 ^ m∧Q (.bl true) H
structure Tab (H:Hp) (n o:Addr) (m:Nat) (nx os:List Pr3):Prop where
 m6:m≤6
 n:H n=some (.lst (refs nx))
 o:H o=some (.lst (refs os))
 pn:Prt H nx
 po:Prt H os
 ln:nx.length≤120
 lo:os.length≤6
 bn:∀ q∈nx++os,q.2.1 < 2 ^ nx.length∧q.2.2 < 2 ^ m
noncomputable def Oz:Sp:=fun vs H Q _=>∃ (n o:Addr) (m:Nat) (nx os:List Pr3),vs=[nat m,.ref n,.ref o]∧Tab H n o m nx os∧∀ H2,Same H H2→Q .non H2
noncomputable def Ov (C:Addr):Sp:=fun vs H Q _=>∃ (x dx n o:Addr) (m:Nat) (nx os:List Pr3),vs=[.ref x,nat m,.ref n,.ref o]∧H x=some (.ins C dx [])∧Tab H n o m nx os∧∀ H2,(∀ b ob,b≠x→H b=some ob→H2 b=some ob)→MaA H2 C x m nx os→Q .non H2
noncomputable def Jg (C:Addr):Sp:=fun vs H Q _=>∃ (p:Addr) (m:Nat) (nx os:List Pr3),vs=[.ref p]∧MaA H C p m nx os∧Q (nat nx.length) H
structure Lfsr (nx os:List Pr3) (L G:Nat):Prop where
 nx:nx.map (fun q=>q.2.1)=M.lm L G
 os:∃ t,os=[(t,(if 0 < L then 1 else 0),0)]
theorem ik {a n:Nat} (h:a < 2 ^ n):dM (nat a) (n:Int)=true:=by
 have:=E6 h
 show (decide ((0:Int)≤(a:Int))&&decide (((Builtin.Int.intBits (a:Int):Nat):Int)≤(n:Int)))=true
 rw [decide_eq_true (by omega),decide_eq_true (by omega)];rfl
theorem Og {ps:List Nat} {i k:Nat} (h:ps[i]? =some k):M.xm (ps.take (i + 1))=M.xm (ps.take i)^^^2 ^ k:=by rw [take_succ h];unfold M.xm;rw [List.foldl_append];rfl
theorem Qi {w m:Nat} (h:m < 2 ^ w):M.xm (M.pl w m)=m:=M.xm_ext h fun k=>rfl
noncomputable abbrev ms (nx:List Pr3):List Nat:=nx.map fun q=>q.2.1
theorem Py {n j:Nat} (h:j < n):ixN n (j:Int)=some j:=by unfold ixN;rw [if_pos (Int.natCast_nonneg j),if_pos (by omega),Int.toNat_natCast]
theorem QE {H:Hp} {Q:Hp→Prop} {p:Addr} {xs:List V} {j:Nat} {v:V} (e:H p=some (.lst xs)) (hj:j < xs.length) (h:∀ H2,Upd H H2 p (.lst (xs.set j v))→Q H2):Q3 (.ref p) (.int (j:Int)) v H Q:=
 ⟨p,xs,j,j,rfl,rfl,e,Py hj,h _ Upd.of⟩
theorem QP {σ:St} {H:Hp} {to ti:TE} {t:TSet} {v:V} {Q:St→Hp→Prop} (h:to σ H fun o H1=>ti σ H1 fun i H2=>t o i v H2 fun H3=>Q σ H3):gSub to ti t v σ H Q:=h
end Sx
namespace M
noncomputable def tr2 (ps:List (Nat×Nat)) (x r:Nat):Nat:=pk (fun k=>od ((ps.getD k (0,0)).1&&&x)^^od ((ps.getD k (0,0)).2&&&r)) 0 ps.length
theorem mE (ps:List (Nat×Nat)) (x r k:Nat):(tr2 ps x r).testBit k=(decide (k < ps.length)&&(od ((ps.getD k (0,0)).1&&&x)^^od ((ps.getD k (0,0)).2&&&r))):=by unfold tr2;rw [NL,Nat.zero_add]
theorem Jb (ps:List (Nat×Nat)) (x r:Nat):tr2 ps x r < 2 ^ ps.length:=Re _ _ _
theorem tr2_snoc (ps:List (Nat×Nat)) (p:Nat×Nat) (x r:Nat):tr2 (ps++[p]) x r=tr2 ps x r^^^(if (od (p.1&&&x)^^od (p.2&&&r)) then 2 ^ ps.length else 0):=by
 unfold tr2
 rw [List.length_append,List.length_singleton,pk,Nat.zero_add]
 have e1:(ps++[p]).getD ps.length (0,0)=p:=by rw [List.getD_eq_getElem?_getD,List.getElem?_append_right (Nat.le_refl _),Nat.sub_self];rfl
 rw [e1]
 have e2:pk (fun k=>od (((ps++[p]).getD k (0,0)).1&&&x)^^od (((ps++[p]).getD k (0,0)).2&&&r)) 0 ps.length=pk (fun k=>od ((ps.getD k (0,0)).1&&&x)^^od ((ps.getD k (0,0)).2&&&r)) 0 ps.length:=FL fun k hk=>by
  rw [Nat.zero_add,List.getD_eq_getElem?_getD,List.getD_eq_getElem?_getD,List.getElem?_append_left hk]
 rw [e2]
theorem Jc (ps:List (Nat×Nat)) (x y r s:Nat):tr2 ps (x^^^y) (r^^^s)=tr2 ps x r^^^tr2 ps y s:=by
 apply Nat.eq_of_testBit_eq;intro i
 rw [Nat.testBit_xor,mE,mE,mE,lF,gR,lF,gR]
 cases decide (i < ps.length)<;>cases od ((ps.getD i (0,0)).1&&&x)<;>cases od ((ps.getD i (0,0)).1&&&y)<;>cases od ((ps.getD i (0,0)).2&&&r)<;>cases od ((ps.getD i (0,0)).2&&&s)<;>rfl
theorem Fy (ps:List (Nat×Nat)):tr2 ps 0 0=0:=by
 apply Nat.eq_of_testBit_eq;intro i
 rw [mE,Nat.and_zero,Nat.and_zero,od_zero];simp
noncomputable def wst (ps:List (Nat×Nat)):Nat→List Nat→Nat
 | x,[]=>x
 | x,r::rs=>wst ps (tr2 ps x r) rs
noncomputable def wan (ps os:List (Nat×Nat)):Nat→List Nat→List Nat
 | _,[]=>[]
 | x,r::rs=>tr2 os x r::wan ps os (tr2 ps x r) rs
theorem wst_snoc (ps:List (Nat×Nat)) (r:Nat):∀ (rs:List Nat) (x:Nat),wst ps x (rs++[r])=tr2 ps (wst ps x rs) r
 | [],_=>rfl
 | _::rs,_=>wst_snoc ps r rs _
theorem wan_snoc (ps os:List (Nat×Nat)) (r:Nat):∀ (rs:List Nat) (x:Nat),wan ps os x (rs++[r])=wan ps os x rs++[tr2 os (wst ps x rs) r]
 | [],_=>rfl
 | _::rs,_=>congrArg (_::·) (wan_snoc ps os r rs _)
theorem wan_len (ps os:List (Nat×Nat)):∀ (rs:List Nat) (x:Nat),(wan ps os x rs).length=rs.length
 | [],_=>rfl
 | _::rs,_=>congrArg (· + 1) (wan_len ps os rs _)
theorem wan_lt (ps os:List (Nat×Nat)):∀ (rs:List Nat) (x:Nat),∀ y∈wan ps os x rs,y < 2 ^ os.length
 | [],_,_,h=>absurd h (by simp [wan])
 | r::rs,x,y,h=>by
   rcases List.mem_cons.mp h with h | h
   ·rw [h];exact Jb _ _ _
   ·exact wan_lt ps os rs _ y h
theorem wst_lt {ps:List (Nat×Nat)}:∀ {rs:List Nat} {x:Nat},x < 2 ^ ps.length→wst ps x rs < 2 ^ ps.length
 | [],_,h=>h
 | r::rs,x,_=>wst_lt (rs:=rs) (Jb ps x r)
theorem xm_snoc (qs:List Nat) (k:Nat):xm (qs++[k])=xm qs^^^2 ^ k:=by unfold xm;rw [List.foldl_append];rfl
theorem OV {α:Type} {P:List α→Prop} (h0:P []) (h1:∀ l x,P l→P (l++[x])) (l:List α):P l:=by
 have:∀ l:List α,P l.reverse:=fun l=>by
  induction l with
  | nil=>exact h0
  | cons x l ih=>rw [List.reverse_cons];exact h1 _ _ ih
 have:=this l.reverse
 rwa [List.reverse_reverse] at this
theorem Ph (s x r:Nat) (ps:List (Nat×Nat)) (h:ps.length≤1000):od (s&&&tr2 ps x r)=(od (sm (ps.map (·.1)) s&&&x)^^od (sm (ps.map (·.2)) s&&&r)):=by
 induction ps using OV with
 | h0=>show od (s&&&0)=(od (0&&&x)^^od (0&&&r));rw [Nat.and_zero,Nat.zero_and,Nat.zero_and,od_zero];rfl
 | h1 ps p ih=>
   rw [List.length_append,List.length_singleton] at h
   have ih:=ih (by omega)
   rw [tr2_snoc,lF,gR,ih,List.map_append,List.map_append,List.map_singleton,List.map_singleton,g7,g7,List.length_map,List.length_map]
   generalize hb:(od (p.1&&&x)^^od (p.2&&&r))=b
   have e1:od (s&&&(if b=true then 2 ^ ps.length else 0))=(b&&s.testBit ps.length):=by
    cases b with
    | true=>rw [if_pos rfl,Nat.and_comm,FQ (by omega)];simp
    | false=>rw [if_neg Bool.false_ne_true,Nat.and_zero,od_zero];simp
   rw [e1]
   have e2:∀ u v t:Nat,od ((u^^^v)&&&t)=(od (u&&&t)^^od (v&&&t)):=fun u v t=>by rw [Nat.and_comm,lF,gR,Nat.and_comm,Nat.and_comm t v]
   rw [e2,e2]
   cases s.testBit ps.length with
   | true=>rw [if_pos rfl,if_pos rfl,← hb];cases od (sm (ps.map (·.1)) s&&&x)<;>cases od (sm (ps.map (·.2)) s&&&r)<;>cases od (p.1&&&x)<;>cases od (p.2&&&r)<;>rfl
   | false=>rw [if_neg Bool.false_ne_true,if_neg Bool.false_ne_true,Nat.zero_and,Nat.zero_and,od_zero];cases b<;>simp
theorem Oe {f k:Nat} (h:f < 2 ^ k):f^^^2 ^ k=f + 2 ^ k:=by
 have h1:=or_sum f (2 ^ k)
 have h2:f&&&2 ^ k=0:=by
  apply Nat.eq_of_testBit_eq;intro i
  rw [Nat.testBit_and,Nat.testBit_two_pow]
  by_cases hi:k=i
  ·subst hi;rw [Nat.testBit_lt_two_pow h];simp
  ·simp [hi]
 have h3:=Nat.two_pow_add_eq_or_of_lt h 1
 rw [Nat.mul_one,Nat.or_comm] at h3
 omega
theorem tr2_step {ps:List (Nat×Nat)} {i:Nat} {q:Nat×Nat} (x r:Nat) (h:ps[i]? =some q):tr2 (ps.take (i + 1)) x r=tr2 (ps.take i) x r + (if (od (q.1&&&x)^^od (q.2&&&r)) then 2 ^ i else 0):=by
 have hi:=(List.getElem?_eq_some_iff.mp h).1
 have hl:(ps.take i).length=i:=by rw [List.length_take];omega
 have e:ps.take (i + 1)=ps.take i++[q]:=by rw [List.take_add_one,h];rfl
 rw [e,tr2_snoc,hl]
 have ht:=Jb (ps.take i) x r
 rw [hl] at ht
 split
 ·exact Oe ht
 ·rw [Nat.xor_zero,Nat.add_zero]
theorem sm_step {rows:List Nat} {i r:Nat} (s:Nat) (h:rows[i]? =some r):sm (rows.take (i + 1)) s=sm (rows.take i) s^^^(if s.testBit i then r else 0):=by
 have hi:=(List.getElem?_eq_some_iff.mp h).1
 have e:rows.take (i + 1)=rows.take i++[r]:=by rw [List.take_add_one,h];rfl
 rw [e,g7,List.length_take,Nat.min_eq_left (by omega)]
end M
namespace Sx
open PySem L2
structure MaG (m:Nat) (nx os:List Pr3):Prop where
 m6:m≤6
 ln:nx.length≤120
 lo:os.length≤6
 bn:∀ q∈nx++os,q.2.1 < 2 ^ nx.length∧q.2.2 < 2 ^ m
theorem Tab.g {H:Hp} {n o:Addr} {m:Nat} {nx os:List Pr3} (t:Tab H n o m nx os):MaG m nx os:=⟨t.m6,t.ln,t.lo,t.bn⟩
theorem Tab.same {H H2:Hp} {n o:Addr} {m:Nat} {nx os:List Pr3} (t:Tab H n o m nx os) (s:Same H H2):Tab H2 n o m nx os:=⟨t.m6,s.get t.n,s.get t.o,t.pn.same s,t.po.same s,t.ln,t.lo,t.bn⟩
noncomputable abbrev prs (nx:List Pr3):List (Nat×Nat):=nx.map (·.2)
theorem aW (nx:List Pr3):(prs nx).length=nx.length:=List.length_map ..
theorem O0 {nx:List Pr3} {i:Nat} {q:Pr3} (h:nx[i]? =some q):(prs nx)[i]? =some q.2:=by rw [List.getElem?_map,h];rfl
theorem dJ (nx:List Pr3):(refs nx).length=nx.length:=List.length_map ..
theorem cn {x n:Nat} (h:x < 2 ^ n) (hn:n≤1000):x < 2 ^ 1000:=Nat.lt_of_lt_of_le h (Nat.pow_le_pow_right (by decide) hn)
theorem MaG.b1 {m:Nat} {nx os:List Pr3} (g:MaG m nx os):∀ q∈nx,q.2.1 < 2 ^ 1000∧q.2.2 < 2 ^ 1000:=fun q h=>have:=g.ln;have:=g.m6;have b:=g.bn q (List.mem_append_left _ h);⟨cn b.1 (by omega),cn b.2 (by omega)⟩
theorem MaG.b2 {m:Nat} {nx os:List Pr3} (g:MaG m nx os):∀ q∈os,q.2.1 < 2 ^ 1000∧q.2.2 < 2 ^ 1000:=fun q h=>have:=g.ln;have:=g.m6;have b:=g.bn q (List.mem_append_right _ h);⟨cn b.1 (by omega),cn b.2 (by omega)⟩
theorem OX {H H2:Hp} {a:Addr} {u:HO} (h:Rd H a u) (s:Same H H2):Rd H2 a u:=h.imp (s _ _) fun ⟨o,e⟩=>⟨o,s _ _ e⟩
theorem n9 {K:PySem.W.Frag} {H H2:Hp} {x:V} {k:String} (h:jl K H x k) (s:Same H H2):jl K H2 x k:=by
 cases x with
 | ref p=>exact Or.imp (fun ⟨a,xs,e⟩=>⟨a,xs,Same.seq s e⟩) (Or.imp (fun ⟨a,xs,e⟩=>⟨a,xs,Same.tup s e⟩) fun ⟨a,xs,e⟩=>⟨a,xs,OX e s⟩) h
 | _=>exact h
noncomputable def dW (K:PySem.W.Frag) (H:Hp) (xs:List V):Prop:=∀ x∈xs,∃ k,jl K H x k
theorem dW.same {K:PySem.W.Frag} {H H2:Hp} {xs:List V} (h:dW K H xs) (s:Same H H2):dW K H2 xs:=fun x hx=>let ⟨k,e⟩:=h x hx;⟨k,n9 e s⟩
theorem dW.nats (K:PySem.W.Frag) (H:Hp) (rs:List Nat):dW K H (rs.map nat):=fun x hx=>by
 obtain ⟨r,_,rfl⟩:=List.mem_map.mp hx
 exact ⟨"int",rfl⟩
theorem nW {x:V} {n:Nat} (h:dM x (n:Int)=true):∃ a:Nat,x=nat a∧a < 2 ^ n:=by
 cases x with
 | int i=>
   have h:(decide ((0:Int)≤i)&&decide (((Builtin.Int.intBits i:Nat):Int)≤(n:Int)))=true:=h
   simp only [Bool.and_eq_true,decide_eq_true_eq] at h
   obtain ⟨a,rfl⟩:=Int.eq_ofNat_of_zero_le h.1
   exact ⟨a,rfl,Nat.lt_of_lt_of_le (E5 a) (Nat.pow_le_pow_right (by decide) (by omega))⟩
 | _=>cases h
theorem MK {a n:Nat} (h:2 ^ n≤a):dM (nat a) (n:Int)=false:=by
 cases hm:dM (nat a) (n:Int) with
 | false=>rfl
 | true=>
   obtain ⟨b,e,hb⟩:=nW hm
   have e:(a:Int)=(b:Int):=V.int.inj e
   omega
theorem Kd {i:Int} {n:Nat} (h:i < 0):dM (.int i) (n:Int)=false:=by
 show (decide ((0:Int)≤i)&&decide (((Builtin.Int.intBits i:Nat):Int)≤(n:Int)))=false
 rw [decide_eq_false (by omega)];rfl
theorem IQ (x y:Bool):(!decide (V.bl (!x)=V.bl (!y)))=(x^^y):=by cases x<;>cases y<;>rfl
theorem LO {ps:List Pr3} {i:Nat} {q:Pr3} (x y:Nat) (h:ps[i]? =some q):M.tr2 (prs (ps.take (i + 1))) x y=M.tr2 (prs (ps.take i)) x y^^^(if (M.od (q.2.1&&&x)^^M.od (q.2.2&&&y)) then 2 ^ i else 0):=by
 have hl:(prs (ps.take i)).length=i:=by rw [aW];exact sV h
 rw [take_succ h]
 unfold prs at hl ⊢
 rw [List.map_append,List.map_singleton,M.tr2_snoc,hl]
theorem Ja {ps:List Pr3} {i:Nat} {q:Pr3} (x y:Nat) (h:ps[i]? =some q):M.tr2 (prs (ps.take (i + 1))) x y=M.tr2 (prs (ps.take i)) x y + (if (M.od (q.2.1&&&x)^^M.od (q.2.2&&&y)) then 2 ^ i else 0):=by
 have:=M.tr2_step x y (O0 h)
 rw [show (prs ps).take (i + 1)=prs (ps.take (i + 1)) from List.map_take.symm,show (prs ps).take i=prs (ps.take i) from List.map_take.symm] at this
 exact this
theorem ze {a b:Nat} (h:nat a=nat b):a=b:=by
 have h:(a:Int)=(b:Int):=V.int.inj h
 omega
noncomputable def Ma:Sp:=fun vs H Q _=>∃ (t:Addr) (a b x r:Nat),vs=[.ref t,nat x,nat r]∧H t=some (.tup [nat a,nat b])∧a < 2 ^ 1000∧b < 2 ^ 1000∧Q (.bl (M.od (a&&&x)^^M.od (b&&&r))) H
noncomputable def Ou (K:PySem.W.Frag):Sp:=fun vs H Q _=>∃ (r:Addr) (ps:List Pr3) (x y:Nat),vs=[.ref r,nat x,nat y]∧SqT K H r (refs ps)∧Prt H ps∧ps.length≤1000∧(∀ q∈ps,q.2.1 < 2 ^ 1000∧q.2.2 < 2 ^ 1000)∧∀ H2,Same H H2→Q (nat (M.tr2 (prs ps) x y)) H2
noncomputable def Qv (K:PySem.W.Frag) (C B:Addr):Sp:=fun vs H Q E=>∃ (p:Addr) (m:Nat) (nx os:List Pr3) (x:V) (k:String),vs=[.ref p,x]∧MaA H C p m nx os∧jl K H x k∧(dM x nx.length=true→Q .non H)∧(dM x nx.length=false→E (.ref B) none H)
noncomputable def LW (K:PySem.W.Frag) (C B:Addr):Sp:=fun vs H Q E=>∃ (p:Addr) (m:Nat) (nx os:List Pr3) (x y:V) (kx ky:String),vs=[.ref p,x,y]∧MaA H C p m nx os∧MaG m nx os∧jl K H x kx∧jl K H y ky∧
 (∀ a b:Nat,x=nat a→y=nat b→a < 2 ^ nx.length→b < 2 ^ m→∀ (t:Addr) (H2:Hp),Same H H2→H2 t=some (.tup [nat (M.tr2 (prs os) a b),nat (M.tr2 (prs nx) a b)])→Q (.ref t) H2)∧
 (dM x nx.length=false∨dM y m=false→E (.ref B) none H)
structure Sn (K:PySem.W.Frag) (H:Hp) (C p rr:Addr) (m:Nat) (nx os:List Pr3) (x:V) (xs:List V):Prop where
 ma:MaA H C p m nx os
 g:MaG m nx os
 kx:∃ k,jl K H x k
 sq:SqL K H rr xs
 ks:dW K H xs
 ln:xs.length≤1000
noncomputable def Good (m:Nat) (nx:List Pr3) (x:V) (xs:List V) (a:Nat) (rs:List Nat):Prop:=x=nat a∧xs=rs.map nat∧a < 2 ^ nx.length∧∀ r∈rs,r < 2 ^ m
noncomputable def Bad (m:Nat) (nx:List Pr3) (x:V) (xs:List V):Prop:=dM x nx.length=false∨∃ y∈xs,dM y m=false
noncomputable def LR (K:PySem.W.Frag) (C B:Addr):Sp:=fun vs H Q E=>∃ (p rr:Addr) (m:Nat) (nx os:List Pr3) (x:V) (xs:List V),vs=[.ref p,.ref rr,x]∧Sn K H C p rr m nx os x xs∧
 (∀ a rs,Good m nx x xs a rs→∀ (t D:Addr) (H2:Hp),H D=none→Same H H2→H2 t=some (.tup [.ref D,nat (M.wst (prs nx) a rs)])→H2 D=some (.lst ((M.wan (prs nx) (prs os) a rs).map nat))→Q (.ref t) H2)∧
 (Bad m nx x xs→∀ H2,Same H H2→E (.ref B) none H2)
noncomputable def Qr (K:PySem.W.Frag) (C B:Addr):Sp:=fun vs H Q E=>∃ (p rr:Addr) (m:Nat) (nx os:List Pr3) (x:V) (xs:List V),vs=[.ref p,.ref rr,x]∧Sn K H C p rr m nx os x xs∧
 (∀ a rs,Good m nx x xs a rs→∀ (D:Addr) (H2:Hp),H D=none→Same H H2→H2 D=some (.lst ((M.wan (prs nx) (prs os) a rs).map nat))→Q (.ref D) H2)∧
 (Bad m nx x xs→∀ H2,Same H H2→E (.ref B) none H2)
noncomputable def Gr (C:Addr):Sp:=fun vs H Q _=>∃ (p:Addr) (m:Nat) (nx os:List Pr3),vs=[.ref p]∧MaA H C p m nx os∧Q (nat os.length) H
structure TabT (H:Hp) (t n o:Addr) (m:Nat) (nx os:List Pr3):Prop where
 t:H t=some (.tup [nat m,.ref n,.ref o])
 tab:Tab H n o m nx os
theorem TabT.same {H H2:Hp} {t n o:Addr} {m:Nat} {nx os:List Pr3} (x:TabT H t n o m nx os) (s:Same H H2):TabT H2 t n o m nx os:=⟨s.get x.t,x.tab.same s⟩
noncomputable def Jk:Sp:=fun vs H Q _=>∃ (c:Int) (st n w:Nat) (dg:Bool),vs=[.int c,nat st,nat n,nat w,.bl dg]∧st≤900∧n≤64∧w≤16∧
 ∀ (D:Addr) (H2:Hp) (ms:List Nat),H D=none→Same H H2→H2 D=some (.lst (ms.map nat))→ms.length=n→(∀ x∈ms,x < 2 ^ w)→Q (.ref D) H2
noncomputable def LX:Sp:=fun vs H Q _=>∃ (r:Addr) (ms:List Nat) (c:Int) (st wy w:Nat),vs=[.ref r,.int c,nat st,nat wy]∧H r=some (.lst (ms.map nat))∧st≤900∧w≤16∧ms.length≤w∧(∀ x∈ms,x < 2 ^ w)∧
 ∀ (D:Addr) (H2:Hp) (ms2:List Nat),H D=none→Same H H2→H2 D=some (.lst (ms2.map nat))→ms2.length=ms.length→(∀ x∈ms2,x < 2 ^ w)→Q (.ref D) H2
noncomputable def L6 (K:PySem.W.Frag):Sp:=fun vs H Q _=>∃ (p:Addr) (ns:List Int) (st mo:Nat),vs=[.ref p,nat st,nat mo]∧SqL K H p (ns.map V.int)∧st≤900∧mo≤16∧
 ∀ (t n o:Addr) (H2:Hp) (m:Nat) (nx os:List Pr3),Same H H2→H n=none→H o=none→TabT H2 t n o m nx os→nx.length≤16→Q (.ref t) H2
theorem R4 (x y:Bool):(((M.bn x:Nat):Int) + ((M.bn y:Nat):Int)) % 2=((M.bn (x^^y):Nat):Int):=by cases x<;>cases y<;>rfl
theorem R3 (b:Bool) (i:Nat):((M.bn b:Nat):Int) * 2 ^ ((i:Int).toNat)=((if b=true then 2 ^ i else 0:Nat):Int):=by
 cases b
 ·rw [if_neg Bool.false_ne_true];exact Int.zero_mul _
 ·rw [if_pos rfl];exact shl1 i
theorem lV {H H2:Hp} {D:Addr} (s:Same H H2) (f:H2 D=none):H D=none:=by
 cases hx:H D with
 | none=>rfl
 | some v=>have:=s _ _ hx;rw [f] at this;cases this
theorem IH {H:Hp} {ps:List Addr} {m1 m2:List Nat} (l:m1.length=m2.length) (lp:ps.length=(m1.map nat).length) (h:∀ (j:Nat) (p:Addr) (x y:V),ps[j]? =some p→(m1.map nat)[j]? =some x→(m2.map nat)[j]? =some y→H p=some (.tup [x,y])):
  ∃ nx:List Pr3,refs nx=ps.map V.ref∧Prt H nx∧nx.length=m1.length∧∀ q∈nx,q.2.1∈m1∧q.2.2∈m2:=by
 rw [List.length_map] at lp
 refine ⟨ps.zip (m1.zip m2),?_,fun q hq=>?_,?_,fun q hq=>?_⟩
 ·unfold refs
  have:(ps.zip (m1.zip m2)).map (fun q=>V.ref q.1)=((ps.zip (m1.zip m2)).map Prod.fst).map V.ref:=by rw [List.map_map];rfl
  rw [this,List.map_fst_zip (by rw [List.length_zip];omega)]
 ·obtain ⟨j,hj⟩:=List.mem_iff_getElem?.mp hq
  obtain ⟨h1,h2⟩:=List.getElem?_zip_eq_some.mp hj
  obtain ⟨h3,h4⟩:=List.getElem?_zip_eq_some.mp h2
  exact h j q.1 _ _ h1 (by rw [List.getElem?_map,h3];rfl) (by rw [List.getElem?_map,h4];rfl)
 ·rw [List.length_zip,List.length_zip];omega
 ·obtain ⟨j,hj⟩:=List.mem_iff_getElem?.mp hq
  obtain ⟨h1,h2⟩:=List.getElem?_zip_eq_some.mp hj
  obtain ⟨h3,h4⟩:=List.getElem?_zip_eq_some.mp h2
  exact ⟨List.mem_of_getElem? h3,List.mem_of_getElem? h4⟩
noncomputable def wm (q:Pr3):Dt:= .tup [.int q.2.1,.int q.2.2]
theorem rep2 {K:PySem.W.Frag} {H:Hp} {p:Addr} {i j:Int} (e:H p=some (.tup [.int i,.int j])):Rep K H (.ref p) (.tup [.int i,.int j]):=by
 refine .tup (SqT.of e) rfl fun k x d hx hd=>?_
 match k,hx,hd with
 | 0,hx,hd=>cases hx;cases hd;exact .int _
 | 1,hx,hd=>cases hx;cases hd;exact .int _
 | k + 2,hx,_=>simp at hx
theorem nK {K:PySem.W.Frag} {H:Hp} {D:Addr} {l:List Pr3} (e:H D=some (.lst (refs l))) (pt:Prt H l):Rep K H (.ref D) (.lst (l.map wm)):=by
 refine .lst (SqL.of e) (by unfold refs;rw [List.length_map,List.length_map]) fun k x d hx hd=>?_
 obtain ⟨q,hq,rfl⟩:=bH hx
 rw [List.getElem?_map,hq] at hd
 cases hd
 exact rep2 (pt q (List.mem_of_getElem? hq))
theorem BV:∀ l:List Pr3,jM (l.map wm)≤1
 | []=>by simp [jM]
 | q::l=>by
   have:=BV l
   rw [List.map_cons,jM]
   have e:depD (wm q)=1:=by simp [wm,depD,jM]
   omega
theorem OE (m k:Nat):(m:Int) / 2 ^ ((k:Int).toNat)=((m>>>k:Nat):Int):=by rw [Int.toNat_natCast,sX,Nat.shiftRight_eq_div_pow];norm_cast
theorem Lk (m i:Nat):Builtin.bitAnd ((m:Int) / 2 ^ ((i:Int).toNat)) 1=if m.testBit i then 1 else 0:=by
 have:=F5 m i
 rwa [show (0:Int) + (i:Int)=(i:Int) from Int.zero_add _] at this
theorem BK {m:Nat} {nx:List Pr3} {a a':Nat} {rs rs':List Nat} (g:Good m nx (nat a) (rs.map nat) a' rs'):a=a'∧rs=rs':=by
 obtain ⟨h1,h2,_,_⟩:=g
 refine ⟨ze h1,?_⟩
 have h:∀ (l l':List Nat),l.map nat=l'.map nat→l=l':=by
  intro l
  induction l with
  | nil=>intro l' h;cases l' with | nil=>rfl | cons _ _=>cases h
  | cons x l ih=>
    intro l' h
    cases l' with
    | nil=>cases h
    | cons y l'=>
      rw [List.map_cons,List.map_cons] at h
      obtain ⟨h1,h2⟩:=List.cons.inj h
      rw [ih _ h2,ze h1]
 exact h rs rs' h2
theorem J7 {m:Nat} {nx:List Pr3} {a:Nat} {rs:List Nat} (ha:a < 2 ^ nx.length) (hr:∀ r∈rs,r < 2 ^ m) (b:Bad m nx (nat a) (rs.map nat)):False:=by
 rcases b with h | ⟨y,hy,h⟩
 ·rw [ik ha] at h;cases h
 ·obtain ⟨r,hr',rfl⟩:=List.mem_map.mp hy
  rw [ik (hr r hr')] at h;cases h
theorem dW.app {K:PySem.W.Frag} {H:Hp} {xs ys:List V} (a:dW K H xs) (b:dW K H ys):dW K H (xs++ys):=fun x hx=>(List.mem_append.mp hx).elim (a x) (b x)
theorem dW.one {K:PySem.W.Frag} {H:Hp} {x:V} {k:String} (h:jl K H x k):dW K H [x]:=fun y hy=>by rw [List.mem_singleton.mp hy];exact ⟨k,h⟩
end Sx
namespace M
noncomputable def pkw (w:Nat):List Nat→Nat
 | []=>0
 | p::ps=>p^^^(pkw w ps <<< w)
theorem Ju (a b w:Nat):(a^^^b) <<< w=a <<< w^^^b <<< w:=by
 apply Nat.eq_of_testBit_eq;intro i
 simp only [Nat.testBit_xor,Nat.testBit_shiftLeft]
 cases decide (w≤i)<;>simp
theorem pkw_snoc (w p:Nat):∀ ps:List Nat,pkw w (ps++[p])=pkw w ps^^^(p <<< (ps.length * w))
 | []=>by show p^^^(0 <<< w)=0^^^(p <<< (0 * w));simp
 | q::ps=>by
   show q^^^(pkw w (ps++[p]) <<< w)=q^^^(pkw w ps <<< w)^^^(p <<< ((ps.length + 1) * w))
   rw [pkw_snoc w p ps,Ju,Nat.xor_assoc,← Nat.shiftLeft_add,Nat.add_mul,Nat.one_mul]
theorem pkw_lt {w:Nat}:∀ {ps:List Nat},(∀ p∈ps,p < 2 ^ w)→pkw w ps < 2 ^ (ps.length * w)
 | [],_=>Nat.two_pow_pos _
 | p::ps,h=>by
   have ih:=pkw_lt fun x hx=>h x (List.mem_cons_of_mem _ hx)
   have hp:=h p (List.mem_cons_self ..)
   show p^^^(pkw w ps <<< w) < 2 ^ ((ps.length + 1) * w)
   rw [Nat.add_mul,Nat.one_mul]
   refine xor_lt_pow (Nat.lt_of_lt_of_le hp (Nat.pow_le_pow_right (by decide) (by omega))) ?_
   rw [Nat.shiftLeft_eq,Nat.pow_add]
   exact Nat.mul_lt_mul_of_pos_right ih (Nat.two_pow_pos _)
theorem O6 {w p:Nat} {ps:List Nat} (hp:p < 2 ^ w):pkw w (p::ps)=pkw w ps * 2 ^ w + p:=by
 show p^^^(pkw w ps <<< w)=_
 have h1:=or_sum p (pkw w ps <<< w)
 have h2:p&&&(pkw w ps <<< w)=0:=by
  apply Nat.eq_of_testBit_eq;intro i
  rw [Nat.testBit_and,Nat.testBit_shiftLeft]
  by_cases hi:w≤i
  ·rw [Nat.testBit_lt_two_pow (Nat.lt_of_lt_of_le hp (Nat.pow_le_pow_right (by decide) hi))];simp
  ·simp [hi]
 have h3:=Nat.two_pow_add_eq_or_of_lt hp (pkw w ps)
 have h4:pkw w ps <<< w=2 ^ w * pkw w ps:=by rw [Nat.shiftLeft_eq,Nat.mul_comm]
 rw [h4] at h1 h2 ⊢
 rw [Nat.or_comm] at h3
 rw [Nat.mul_comm (pkw w ps)]
 omega
noncomputable def bkI (A:List Nat) (s:Nat):Nat→Nat
 | 0=>s
 | i + 1=>sm A (bkI A s i)
theorem N7 (A:List Nat) (s:Nat):∀ i,bkI A (sm A s) i=bkI A s (i + 1)
 | 0=>rfl
 | i + 1=>congrArg (sm A) (N7 A s i)
theorem yQ {w:Nat}:∀ {ps:List Nat},(∀ p∈ps,p < 2 ^ w)→(pkw w ps=0↔∀ p∈ps,p=0)
 | [],_=>⟨fun _ p h=>absurd h (by simp),fun _=>rfl⟩
 | p::ps,h=>by
   rw [O6 (h p (List.mem_cons_self ..))]
   have ih:=yQ fun x hx=>h x (List.mem_cons_of_mem _ hx)
   have hw:=Nat.two_pow_pos w
   constructor
   ·intro e x hx
    have e1:p=0:=by omega
    have e2:pkw w ps * 2 ^ w=0:=by omega
    have e3:pkw w ps=0:=by
     rcases Nat.mul_eq_zero.mp e2 with h | h
     ·exact h
     ·omega
    rcases List.mem_cons.mp hx with z | z
    ·rw [z,e1]
    ·exact ih.mp e3 x z
   ·intro e
    rw [e p (List.mem_cons_self ..),ih.mpr fun x hx=>e x (List.mem_cons_of_mem _ hx)];simp
end M
namespace Sx
open PySem L2
noncomputable abbrev nA (nx:List Pr3):List Nat:=nx.map fun q=>q.2.1
noncomputable abbrev nB (nx:List Pr3):List Nat:=nx.map fun q=>q.2.2
theorem Mr (nx:List Pr3):(prs nx).map (·.1)=nA nx:=by rw [List.map_map];rfl
noncomputable def LU:Sp:=fun vs H Q _=>∃ (r:Addr) (ps:List Nat) (wd:Nat),vs=[.ref r,nat wd]∧H r=some (.lst (ps.map nat))∧ps.length≤1000∧wd≤1000∧(∀ p∈ps,p < 2 ^ 60)∧∀ H2,Same H H2→Q (nat (M.pkw wd ps)) H2
noncomputable def xH (K:PySem.W.Frag) (H:Hp) (y:V):Option (List V)→Prop
 | some xs=>∃ r,y= .ref r∧SqL K H r xs∧dW K H xs
 | none=>∃ k,jl K H y k∧k≠"list"
theorem xH.same {K:PySem.W.Frag} {H H2:Hp} {y:V} {o:Option (List V)} (h:xH K H y o) (s:Same H H2):xH K H2 y o:=by
 cases o with
 | some xs=>obtain ⟨r,e,q,k⟩:=h;exact ⟨r,e,Same.seq s q,k.same s⟩
 | none=>obtain ⟨k,e,n⟩:=h;exact ⟨k,n9 e s,n⟩
noncomputable def ph (m top:Nat):Option (List V)→Bool
 | some xs=>decide (xs.length≤top)&&xs.all fun x=>dM x m
 | none=>false
noncomputable def Ji:Sp:=fun vs H Q _=>∃ (c:Int) (n w:Nat),vs=[.int c,nat n,nat w]∧n≤64∧w≤16∧∀ (D:Addr) (H2:Hp) (ms:List Nat),H D=none→Same H H2→H2 D=some (.lst (ms.map nat))→ms.length=n→(∀ x∈ms,x < 2 ^ w)→Q (.ref D) H2
noncomputable def LZ:Sp:=fun vs H Q _=>∃ n:Nat,vs=[nat n]∧n < 2 ^ 1000∧Q (nat (M.bn (M.od n))) H
noncomputable def L8 (K:PySem.W.Frag):Sp:=fun vs H Q _=>∃ (r:Addr) (ps:List Pr3) (x y:Nat),vs=[.ref r,nat x,nat y]∧SqL K H r (refs ps)∧Prt H ps∧ps.length≤120∧x < 2 ^ 1000∧y < 2 ^ 1000∧∀ H2,Same H H2→Q (nat (M.tr2 (prs ps) x y)) H2
noncomputable def Gu (K:PySem.W.Frag):Sp:=fun vs H Q _=>∃ (a w:Nat),vs=[nat a,nat w]∧w≤1000∧Q (.bl (decide (a < 2 ^ w))) H
noncomputable def Gv (K:PySem.W.Frag):Sp:=fun vs H Q _=>∃ (r:Addr) (ms:List Nat) (w:Nat),vs=[.ref r,nat w]∧H r=some (.lst (ms.map nat))∧ms.length≤10000∧w≤1000∧(∀ x∈ms,x < 2 ^ w)∧∀ H2,Same H H2→Q (.bl true) H2
theorem Pe {n:Nat} (h:n < 2 ^ 1000):M.od n=(n.testBit 0^^M.od (n / 2)):=by
 show M.pb 1000 n=_
 rw [show 1000=999 + 1 from rfl,M.pb_half]
 congr 1
 exact (M.pb_up (show n / 2 < 2 ^ 999 by rw [Nat.div_lt_iff_lt_mul (by decide)];rw [← Nat.pow_succ];exact h) (by decide)).symm
theorem AK {K:PySem.W.Frag} {H:Hp} {α:Type} (f:α→V) (g:α→Dt) (r:∀ x,Rep K H (f x) (g x)) (xs:List α):∀ (i:Nat) x d,(xs.map f)[i]? =some x→(xs.map g)[i]? =some d→Rep K H x d:=by
 intro i x d h1 h2
 rw [List.getElem?_map] at h1 h2
 cases e:xs[i]? with
 | none=>rw [e] at h1;cases h1
 | some y=>rw [e] at h1 h2;cases h1;cases h2;exact r y
theorem JF {K:PySem.W.Frag} {H:Hp} {D:Addr} {bs:List Bool} (h:H D=some (.lst (bs.map V.bl))):Rep K H (.ref D) (.lst (bs.map Dt.bl)):= .lst (SqL.of h) (by rw [List.length_map,List.length_map]) (AK V.bl Dt.bl (fun b=> .bl b) bs)
theorem IX {H H':Hp} {x:Addr} {o:HO} (n:H x=none) (u:Upd H H' x o):Same H H':=fun b o h=>u.oth b o (fun z=>by rw [z,n] at h;cases h) h
theorem nJ {m top:Nat} {xs:List V} (h:ph m top (some xs)=true):∃ rs:List Nat,xs=rs.map nat∧rs.length≤top∧∀ r∈rs,r < 2 ^ m:=by
 have h:(decide (xs.length≤top)&&xs.all fun x=>dM x m)=true:=h
 rw [Bool.and_eq_true] at h
 obtain ⟨h1,h2⟩:=h
 have h1:=of_decide_eq_true h1
 have key:∀ ys:List V,(ys.all fun x=>dM x m)=true→∃ rs:List Nat,ys=rs.map nat∧∀ r∈rs,r < 2 ^ m:=by
  intro ys
  induction ys with
  | nil=>intro _;exact ⟨[],rfl,fun _ h=>absurd h (by simp)⟩
  | cons y ys ih=>
    intro h
    rw [List.all_cons,Bool.and_eq_true] at h
    obtain ⟨rs,rfl,hb⟩:=ih h.2
    obtain ⟨b,rfl,hb2⟩:=nW h.1
    exact ⟨b::rs,rfl,fun r hr=>by rcases List.mem_cons.mp hr with e | e;· rw [e];exact hb2
                                  ·exact hb r e⟩
 obtain ⟨rs,rfl,hb⟩:=key xs h2
 exact ⟨rs,rfl,by rwa [List.length_map] at h1,hb⟩
theorem jk:∀ {l l':List Nat},l.map nat=l'.map nat→l=l'
 | [],[],_=>rfl
 | [],_::_,h=>by cases h
 | _::_,[],h=>by cases h
 | x::l,y::l',h=>by
   rw [List.map_cons,List.map_cons] at h
   obtain ⟨h1,h2⟩:=List.cons.inj h
   rw [jk h2,ze h1]
theorem lM {m top:Nat} {rs:List Nat} (hl:rs.length≤top) (hb:∀ r∈rs,r < 2 ^ m):ph m top (some (rs.map nat))=true:=by
 show (decide ((rs.map nat).length≤top)&&(rs.map nat).all fun x=>dM x m)=true
 rw [decide_eq_true (by rw [List.length_map];exact hl),Bool.true_and,List.all_map]
 exact List.all_eq_true.mpr fun r hr=>ik (hb r hr)
end Sx
namespace M
noncomputable def stj (ps:List (Nat×Nat)):List Nat→Nat→List Nat
 | S,0=>S
 | S,j + 1=>(stj ps S j).map fun x=>tr2 ps x 0
noncomputable def sg0 (ps:List (Nat×Nat)) (m:Nat):List Nat:=(List.range m).map fun w=>tr2 ps 0 (2 ^ w)
noncomputable def rch (ps:List (Nat×Nat)) (m:Nat):Nat→List Nat
 | 0=>[]
 | T + 1=>stj ps (sg0 ps m) T++rch ps m T
theorem GT {w r P:Nat} (h:r < 2 ^ w):(r^^^(P <<< w))>>>w=P:=by
 apply Nat.eq_of_testBit_eq;intro i
 rw [Nat.testBit_shiftRight,Nat.testBit_xor,Nat.testBit_shiftLeft,Nat.testBit_lt_two_pow (Nat.lt_of_lt_of_le h (Nat.pow_le_pow_right (by decide) (by omega)))]
 simp
noncomputable def zs (ps:List (Nat×Nat)) (x:Nat):Nat→Nat
 | 0=>x
 | n + 1=>tr2 ps (zs ps x n) 0
noncomputable def upk (w q T:Nat):List Nat:=(List.range T).map fun t=>(q>>>(t * w))&&&(2 ^ w - 1)
theorem LM (w q T:Nat):upk w q (T + 1)=(q&&&(2 ^ w - 1))::upk w (q>>>w) T:=by
 unfold upk
 rw [List.range_succ_eq_map,List.map_cons,List.map_map,Nat.zero_mul,Nat.shiftRight_zero]
 congr 1
 apply List.map_congr_left
 intro t _
 show (q>>>((t + 1) * w))&&&_=(q>>>w>>>(t * w))&&&_
 rw [← Nat.shiftRight_add,Nat.add_mul,Nat.one_mul,Nat.add_comm]
theorem MC (ps:List (Nat×Nat)) (hl:ps.length≤1000) (y:Nat):∀ (j s:Nat),od (s&&&zs ps y j)=od (bkI (ps.map (·.1)) s j&&&y)
 | 0,_=>rfl
 | j + 1,s=>by
   show od (s&&&tr2 ps (zs ps y j) 0)=_
   rw [Ph s _ 0 ps hl,Nat.and_zero,od_zero,Bool.xor_false,MC ps hl y j,N7]
end M
namespace Sx
open PySem L2
structure Sumd (rows:List Nat) (x q:Nat):Prop where
 lt:q < 2 ^ rows.length
 sm:M.sm rows q=x
 fr:M.Frs rows q
theorem Sumd.uniq {rows:List Nat} {x p q:Nat} (a:Sumd rows x p) (b:Sumd rows x q):p=q:=M.sum_uniq a.fr b.fr (by rw [a.sm,b.sm])
structure Bard (rows:List Nat) (x m:Nat):Prop where
 ns:¬ M.Span rows x
 bar:∃ y,M.Span rows y∧x^^^y≠0∧Sg rows (x^^^y).log2∧M.Bar rows (x^^^y).log2 m
 ev:∀ y,M.Span rows y→M.od (m&&&y)=false
 odd:M.od (m&&&x)=true
 lt:∀ W,(∀ r∈rows,r < 2 ^ W)→x < 2 ^ W→m < 2 ^ W
theorem Bard.uniq {rows:List Nat} {x m m':Nat} (hlt:∀ r∈rows,r < 2 ^ 1000) (a:Bard rows x m) (b:Bard rows x m'):m=m':=by
 obtain ⟨y,hy,y0,ny,B⟩:=a.bar
 obtain ⟨z,hz,z0,nz,B'⟩:=b.bar
 have e:=M.rest_uniq hy hz y0 z0 ny nz
 rw [← e] at B'
 exact B.uniq hlt B'
theorem Sumd.not {rows:List Nat} {x q m:Nat} (a:Sumd rows x q) (b:Bard rows x m):False:=b.ns (by rw [← a.sm];exact M.sm_span _ _)
noncomputable def Gq:Sp:=fun vs H Q _=>∃ (r:Addr) (rows:List Nat) (x:Nat),vs=[.ref r,nat x]∧H r=some (.lst (rows.map nat))∧rows.length≤1000∧(∀ r∈rows,r < 2 ^ 1000)∧x < 2 ^ 1000∧(M.Span rows x∨(M.fr rows).length < 64)∧
 (∀ (t D:Addr) (H2:Hp) (q:Nat),H D=none→Same H H2→H2 t=some (.tup [.str "sum",.ref D])→H2 D=some (.lst ((M.pl 1000 q).map nat))→Sumd rows x q→Q (.ref t) H2)∧
 (∀ (t:Addr) (H2:Hp) (m:Nat),Same H H2→H2 t=some (.tup [.str "no",nat m])→Bard rows x m→Q (.ref t) H2)
end Sx
namespace L2
open PySem
theorem JR {X:Cx} {K:PySem.W.Frag} (h:X.K=K):OpR X (compareOp .NotIn) (rIn K true):=by subst h;exact A2
theorem Jx {K:PySem.W.Frag} {H:Hp} {Q:VK} {x:V} {p:Addr} {xs:List V} (e:H p=some (.lst xs)) (hx:jK x=true) (hf:xs.all jK=true) (h:Q (.bl (!inV x xs)) H):rIn K true x (.ref p) H Q:=⟨p,xs,rfl,.inl (SqL.of e),hx,hf,h⟩
end L2
namespace Sx
open PySem L2
noncomputable def Jm (K:PySem.W.Frag):Sp:=fun vs H Q _=>∃ (r:Addr) (ps:List Pr3) (a:Nat),vs=[.ref r,nat a]∧SqL K H r (refs ps)∧Prt H ps∧a < 2 ^ ps.length∧∀ (t:Addr) (H2:Hp),Same H H2→H2 t=some (.tup [nat (M.sm (nA ps) a),nat (M.sm (nB ps) a)])→Q (.ref t) H2
noncomputable def natD (n:Nat):Dt:= .int n
theorem iG:∀ ns:List Nat,jM (ns.map natD)=0
 | []=>rfl
 | n::ns=>by rw [List.map_cons,jM,iG ns];rfl
theorem dZ {K:PySem.W.Frag} {H:Hp} {D:Addr} {ns:List Nat} (e:H D=some (.lst (ns.map nat))):Rep K H (.ref D) (.lst (ns.map natD)):= .lst (SqL.of e) (by rw [List.length_map,List.length_map]) (AK nat natD (fun n=> .int n) ns)
noncomputable def TupV (K:PySem.W.Frag) (H:Hp) (y:V):Option (List V)→Prop
 | some xs=>∃ r,y= .ref r∧SqT K H r xs∧dW K H xs
 | none=>∃ k,jl K H y k∧k≠"tuple"
noncomputable def SZ (n m:Nat):Option (List V)→Bool
 | some [x,y]=>dM x n&&dM y m
 | _=>false
noncomputable abbrev It2:=V×Option (List V)
noncomputable def LstV (K:PySem.W.Frag) (H:Hp) (y:V):Option (List It2)→Prop
 | some zs=>∃ r,y= .ref r∧H r=some (.lst (zs.map (·.1)))∧∀ z∈zs,TupV K H z.1 z.2
 | none=>∃ k,jl K H y k∧k≠"list"
noncomputable def tabB (x:V) (on oo:Option (List It2)):Bool:=match x,on,oo with
 | .int i,some zs,some ws=>decide (0≤i)&&decide (i≤6)&&decide (zs.length≤120)&&decide (ws.length≤6)&&(zs++ws).all fun z=>SZ zs.length i.toNat z.2
 | _,_,_=>false
end Sx
namespace L2
open PySem
end L2
namespace Sx
open PySem L2
structure BadT (K:PySem.W.Frag) (H:Hp) (x y z:V):Prop where
 ex:∃ k on oo,jl K H x k∧LstV K H y on∧LstV K H z oo∧tabB x on oo=false
end Sx
namespace L2
open PySem
theorem OB {X:Cx} {K:PySem.W.Frag} (h:X.K=K):SlR X (rSlT K):=by subst h;exact Qz
theorem SK {K:PySem.W.Frag} {H:Hp} {Q:VK} {a:Addr} {xs:List V} {lo hi:Option Int} (ha:SqT K H a xs) (hn:¬ (HT.sIx xs.length 0 lo=0∧HT.sIx xs.length xs.length hi=xs.length)) (h:∀ p H2,H p=none→Same H H2→H2 p=some (.tup (cutV xs lo hi))→Q (.ref p) H2):rSlT K (.ref a) lo hi H Q:=
 ⟨a,xs,rfl,ha,hn,fun p f=>h p _ f (fQ f) bo⟩
end L2
namespace Sx
open PySem L2
end Sx
namespace M
structure Fst (ms:List Nat) (p:Nat):Prop where
 lt:p < ms.length
 out:∀ k,k < p→¬ Span (ms.take k) (ms.getD k 0)
 in_:Span (ms.take p) (ms.getD p 0)
noncomputable def zl (ps:List (Nat×Nat)) (d n:Nat):List Nat:=(List.range (n + 1)).map (zs ps d)
theorem Qf (ps:List (Nat×Nat)) (d:Nat):∀ i,zs ps (tr2 ps d 0) i=zs ps d (i + 1)
 | 0=>rfl
 | i + 1=>by show tr2 ps (zs ps (tr2 ps d 0) i) 0=_;rw [Qf ps d i];rfl
end M
namespace Sx
open PySem L2
noncomputable def cps (p q k:Nat):List Nat:=if k + 1 < p then [k + 1] else M.pl 1000 q
structure ChS (H:Hp) (S:Addr) (p q:Nat) (rs:List Addr):Prop where
 at_:H S=some (.lst (rs.map V.ref))
 len:rs.length=p
 get:∀ (k:Nat) (r:Addr),rs[k]? =some r→H r=some (.lst ((cps p q k).map nat))
structure ChT (H:Hp) (D S:Addr) (ms:List Nat) (p q:Nat):Prop where
 fs:M.Fst ms p
 sd:Sumd (ms.take p) (ms.getD p 0) q
 d:H D=some (.lst ((ms.take p).map nat))
 s:∃ rs,ChS H S p q rs
noncomputable def L9 (K:PySem.W.Frag):Sp:=fun vs H Q _=>∃ (t n o rr:Addr) (m:Nat) (nx os:List Pr3) (rs:List Nat) (a:Nat),vs=[.ref t,nat a,.ref rr]∧TabT H t n o m nx os∧SqL K H rr (rs.map nat)∧rs.length≤900∧a < 2 ^ nx.length∧(∀ r∈rs,r < 2 ^ m)∧
 ∀ (D:Addr) (H2:Hp),H D=none→Same H H2→H2 D=some (.lst ((M.wan (prs nx) (prs os) a rs).map nat))→Q (.ref D) H2
structure LA (K:PySem.W.Frag) (H:Hp) (t n o rr:Addr) (m:Nat) (nx os:List Pr3) (rs:List Nat) (a b:Nat):Prop where
 tt:TabT H t n o m nx os
 sq:SqL K H rr (rs.map nat)
 lr:rs.length=20
 br:∀ r∈rs,r < 2 ^ m
 ln:nx.length≤16
 ha:a < 2 ^ nx.length
 hb:b < 2 ^ nx.length
structure ApA (H:Hp) (f:Addr) (nx os:List Pr3) (d k ans:Nat):Prop where
 f:H f=some (.tup [.str "apart",nat k,nat ans.log2])
 hk:k < nx.length
 an:ans=M.tr2 (prs os) (M.zs (prs nx) d k) 0
 ne:ans≠0
 qu:∀ j,j < k→M.tr2 (prs os) (M.zs (prs nx) d j) 0=0
structure ApL (H:Hp) (f D S:Addr) (nx os:List Pr3) (d p q:Nat):Prop where
 f:H f=some (.tup [.str "alike",.ref D,.ref S])
 ct:ChT H D S (M.zl (prs nx) d nx.length) p q
 qu:∀ j,j < p→M.tr2 (prs os) (M.zs (prs nx) d j) 0=0
theorem JE {K:PySem.W.Frag} {H:Hp} {t:Addr} {v w:V} {d e:Dt} (h:H t=some (.tup [v,w])) (r1:Rep K H v d) (r2:Rep K H w e):Rep K H (.ref t) (.tup [d,e]):= .tup (SqT.of h) rfl fun i x y h1 h2=>by
 match i,h1,h2 with
 | 0,h1,h2=>cases h1;cases h2;exact r1
 | 1,h1,h2=>cases h1;cases h2;exact r2
 | i + 2,h1,_=>simp at h1
theorem JD {K:PySem.W.Frag} {H:Hp} {t:Addr} {u v w:V} {c d e:Dt} (h:H t=some (.tup [u,v,w])) (r0:Rep K H u c) (r1:Rep K H v d) (r2:Rep K H w e):Rep K H (.ref t) (.tup [c,d,e]):= .tup (SqT.of h) rfl fun i x y h1 h2=>by
 match i,h1,h2 with
 | 0,h1,h2=>cases h1;cases h2;exact r0
 | 1,h1,h2=>cases h1;cases h2;exact r1
 | 2,h1,h2=>cases h1;cases h2;exact r2
 | i + 3,h1,_=>simp at h1
end Sx
namespace M
theorem iz {P:Nat→Prop} (h0:P 0) (hx:∀ a b,P a→P b→P (a^^^b)):∀ {rs:List Nat} {x:Nat},(∀ r∈rs,P r)→Span rs x→P x
 | [],x,_,h=>by have h:x=0:=h;rw [h];exact h0
 | r::rs,x,b,h=>by
   have b':∀ r∈rs,P r:=fun y hy=>b y (List.mem_cons_of_mem _ hy)
   rcases h with h | h
   ·exact iz h0 hx b' h
   ·have:=hx _ _ (iz h0 hx b' h) (b r (List.mem_cons_self ..))
    rwa [aO] at this
theorem Inj.front {ws:List Nat} {w:Nat} (I:Inj (ws++[w])):Inj ws:=fun p hp h=>I p (Nat.lt_of_lt_of_le hp (Nat.pow_le_pow_right (by decide) (by rw [List.length_append];omega))) (by rw [fz hp];exact h)
theorem Inj.last {ws:List Nat} {w:Nat} (I:Inj (ws++[w])):¬ Span ws w:=fun h=>by
 obtain ⟨p,hp,e⟩:=oX h
 have:=I (p^^^2 ^ ws.length) (by rw [List.length_append];exact zi hp) (by rw [yy hp,e,Nat.xor_self])
 exact (kM hp).1 this
theorem fr_inj {ws:List Nat}:Inj ws→(fr ws).length=ws.length:=by
 refine dX (P:=fun ws=>Inj ws→(fr ws).length=ws.length) (fun _=>rfl) (fun ws w ih I=>?_) ws
 rw [fr_out I.last,List.length_append,List.length_append,ih I.front];rfl
theorem KN {a b:List Nat} (h:∀ x,Span a x↔Span b x):(fr a).length=(fr b).length:=by
 obtain ⟨ka,Sa,ea⟩:=i6 a
 obtain ⟨kb,Sb,eb⟩:=i6 b
 have h1:=kK _ _ Sa.nd fun x hx=>(Sb.all x).mpr ((h x).mp ((Sa.all x).mp hx))
 have h2:=kK _ _ Sb.nd fun x hx=>(Sa.all x).mpr ((h x).mpr ((Sb.all x).mp hx))
 rw [ea,eb] at h1 h2
 exact Nat.le_antisymm ((Nat.pow_le_pow_iff_right (by decide)).mp h1) ((Nat.pow_le_pow_iff_right (by decide)).mp h2)
theorem Ru:∀ rows:List Nat,∃ nms,Nul nms rows∧∀ x,x < 2 ^ rows.length→sm rows x=0→Span nms x:=by
 refine dX ⟨[],Nul.nil,fun x h _=>?_⟩ fun rows r ih=>?_
 ·have:x < 1:=h
  show x=0
  omega
 obtain ⟨nms,I,hs⟩:=ih
 by_cases h:Span rows r
 ·obtain ⟨q,hq,e⟩:=oX h
  refine ⟨_,I.snoc hq (by rw [e,Nat.xor_self]) h,fun x hx ex=>?_⟩
  rw [cV]
  rw [List.length_append,List.length_singleton] at hx
  by_cases hb:x.testBit rows.length=true
  ·right
   refine hs _ ?_ ?_
   ·refine Nat.lt_pow_two_of_testBit _ fun i hi=>?_
    rw [Nat.testBit_xor,Nat.testBit_xor,Nat.testBit_two_pow,Nat.testBit_lt_two_pow (Nat.lt_of_lt_of_le hq (Nat.pow_le_pow_right (by decide) hi))]
    by_cases e:rows.length=i
    ·subst e;rw [hb];simp
    ·rw [Nat.testBit_lt_two_pow (Nat.lt_of_lt_of_le hx (Nat.pow_le_pow_right (by decide) (by omega)))];simp [e]
   ·have:=g7 rows r x
    rw [ex,hb] at this
    have e2:sm rows (2 ^ rows.length)=0:=by rw [i8,List.getD_eq_getElem?_getD,List.getElem?_eq_none (Nat.le_refl _)];rfl
    rw [sm_xor,sm_xor,e,e2,Nat.xor_zero]
    simpa using this.symm
  ·left
   rw [Bool.not_eq_true] at hb
   refine hs x ?_ ?_
   ·refine Nat.lt_pow_two_of_testBit _ fun i hi=>?_
    by_cases e:rows.length=i
    ·subst e;exact hb
    ·exact Nat.testBit_lt_two_pow (Nat.lt_of_lt_of_le hx (Nat.pow_le_pow_right (by decide) (by omega)))
   ·have:=g7 rows r x
    rw [ex,hb] at this
    simpa using this.symm
 ·refine ⟨nms,I.keep h,fun x hx ex=>?_⟩
  rw [List.length_append,List.length_singleton] at hx
  have e:=g7 rows r x
  rw [ex] at e
  cases hb:x.testBit rows.length with
  | true=>
    exfalso
    rw [hb] at e
    have e':sm rows x=r:=by
     have:=congrArg (·^^^r) e
     simp [Nat.xor_assoc] at this
     exact this.symm
    exact h (e' ▸ sm_span rows x)
  | false=>
    rw [hb] at e
    refine hs x ?_ (by simpa using e.symm)
    refine Nat.lt_pow_two_of_testBit _ fun i hi=>?_
    by_cases e:rows.length=i
    ·subst e;exact hb
    ·exact Nat.testBit_lt_two_pow (Nat.lt_of_lt_of_le hx (Nat.pow_le_pow_right (by decide) (by omega)))
structure Kern (R ms:List Nat):Prop where
 inj:Inj ms
 lt:∀ m∈ms,m < 2 ^ R.length
 ev:∀ m∈ms,sm R m=0
 all:∀ z,z < 2 ^ R.length→sm R z=0→Span ms z
theorem Kern.span {R ms:List Nat} (k:Kern R ms) (z:Nat):Span ms z↔z < 2 ^ R.length∧sm R z=0:=
 ⟨fun h=>⟨span_lt k.lt h,iz (P:=fun z=>sm R z=0) (sm_zero R) (fun a b ha hb=>by rw [sm_xor,ha,hb];rfl) k.ev h⟩,fun h=>k.all z h.1 h.2⟩
theorem Kern.len {R ms:List Nat} (k:Kern R ms):ms.length + (fr R).length=R.length:=by
 obtain ⟨nms,I,hs⟩:=Ru R
 have kn:Kern R nms:=⟨jm _ I.nz I.pw,I.lt,I.sm,hs⟩
 have:=KN (a:=ms) (b:=nms) fun x=>(k.span x).trans (kn.span x).symm
 rw [fr_inj k.inj,fr_inj kn.inj] at this
 rw [this];exact I.len
noncomputable def red (left:List Nat) (x:Nat):Nat:=left.foldl (fun a o=>min a (a^^^o)) x
theorem red_snoc (l:List Nat) (o x:Nat):red (l++[o]) x=min (red l x) (red l x^^^o):=by unfold red;rw [List.foldl_append];rfl
theorem NV (a b:Nat):min a b=a∨min a b=b:=by omega
theorem NW (t:Nat) {x y:Nat} (hx:x.testBit t=false) (hy:y.testBit t=true) (h:∀ j,t < j→x.testBit j=y.testBit j):x < y:=by
 have e:x / 2 ^ (t + 1)=y / 2 ^ (t + 1):=by
  apply Nat.eq_of_testBit_eq;intro i
  rw [Nat.testBit_div_two_pow,Nat.testBit_div_two_pow,h _ (by omega)]
 have h1:x % 2 ^ (t + 1) < 2 ^ t:=by
  refine Nat.lt_pow_two_of_testBit _ fun i hi=>?_
  rw [Nat.testBit_mod_two_pow]
  by_cases e:i=t
  ·subst e;rw [hx,Bool.and_false]
  ·rw [decide_eq_false (by omega)];rfl
 have h2:2 ^ t≤y % 2 ^ (t + 1):=by
  refine Nat.ge_two_pow_of_testBit ?_
  rw [Nat.testBit_mod_two_pow,hy,decide_eq_true (by omega)];rfl
 have a:=Nat.div_add_mod x (2 ^ (t + 1))
 have b:=Nat.div_add_mod y (2 ^ (t + 1))
 rw [e] at a
 omega
theorem Pn {o:Nat} (h:o≠0) (y:Nat):(min y (y^^^o)).testBit o.log2=false:=by
 have hi:∀ j,o.log2 < j→(y^^^o).testBit j=y.testBit j:=fun j hj=>by rw [Nat.testBit_xor,Nat.testBit_lt_two_pow (Nat.lt_of_lt_of_le Nat.lt_log2_self (Nat.pow_le_pow_right (by decide) hj)),Bool.xor_false]
 have hz:(y^^^o).testBit o.log2= !y.testBit o.log2:=by rw [Nat.testBit_xor,d0 h,Bool.xor_true]
 cases hb:y.testBit o.log2 with
 | true=>
   rw [hb] at hz
   have:=NW o.log2 hz hb hi
   rw [show min y (y^^^o)=y^^^o by omega];exact hz
 | false=>
   rw [hb] at hz
   have:=NW o.log2 hb hz fun j hj=>(hi j hj).symm
   rw [show min y (y^^^o)=y by omega];exact hb
structure Lft (left rows:List Nat):Prop where
 nz:∀ x∈left,x≠0
 pw:left.Pairwise fun a b=>b.testBit a.log2=false
 sp:∀ x,Span left x↔Span rows x
 len:left.length=(fr rows).length
theorem Lft.nil:Lft [] []:=⟨fun _ h=>absurd h (by simp),.nil,fun _=>Iff.rfl,rfl⟩
theorem FE (L:List Nat) (x:Nat):∀ l:List Nat,(∀ o∈l,Span L o)→Span L (x^^^red l x):=by
 refine dX (P:=fun l=>(∀ o∈l,Span L o)→Span L (x^^^red l x)) (fun _=>?_) fun l o ih h=>?_
 ·show Span L (x^^^x)
  rw [Nat.xor_self];exact span_zero L
 ·rw [red_snoc]
  have h1:=ih fun o ho=>h o (List.mem_append_left _ ho)
  rcases NV (red l x) (red l x^^^o) with e | e
  ·rw [e];exact h1
  ·rw [e,← Nat.xor_assoc];exact span_xor h1 (h o (List.mem_append_right _ (List.mem_singleton.mpr rfl)))
theorem FF (x:Nat):∀ l:List Nat,(∀ o∈l,o≠0)→(l.Pairwise fun a b=>b.testBit a.log2=false)→∀ o∈l,(red l x).testBit o.log2=false:=by
 refine dX (P:=fun l=>(∀ o∈l,o≠0)→(l.Pairwise fun a b=>b.testBit a.log2=false)→∀ o∈l,(red l x).testBit o.log2=false) (fun _ _ o h=>absurd h (by simp)) fun l w ih nz pw o ho=>?_
 rw [red_snoc]
 rw [List.pairwise_append] at pw
 rcases List.mem_append.mp ho with ho | ho
 ·have h1:=ih (fun o ho=>nz o (List.mem_append_left _ ho)) pw.1 o ho
  have h2:=pw.2.2 o ho w (List.mem_singleton.mpr rfl)
  rcases NV (red l x) (red l x^^^w) with e | e
  ·rw [e];exact h1
  ·rw [e,Nat.testBit_xor,h1,h2];rfl
 ·rw [List.mem_singleton] at ho
  subst ho
  exact Pn (nz o (List.mem_append_right _ (List.mem_singleton.mpr rfl))) _
theorem CC:∀ {l:List Nat} {y:Nat},(∀ o∈l,o≠0)→(l.Pairwise fun a b=>b.testBit a.log2=false)→Span l y→(∀ o∈l,y.testBit o.log2=false)→y=0
 | [],y,_,_,h,_=>h
 | o::l,y,nz,pw,h,hb=>by
   rw [List.pairwise_cons] at pw
   have nz':∀ o∈l,o≠0:=fun x hx=>nz x (List.mem_cons_of_mem _ hx)
   have hb':∀ o∈l,y.testBit o.log2=false:=fun x hx=>hb x (List.mem_cons_of_mem _ hx)
   rcases h with h | h
   ·exact CC nz' pw.2 h hb'
   ·exfalso
    have:=iz (P:=fun z=>z.testBit o.log2=false) (Nat.zero_testBit _) (fun a b ha hb=>by rw [Nat.testBit_xor,ha,hb];rfl) pw.1 h
    rw [Nat.testBit_xor,hb o (List.mem_cons_self ..),d0 (nz o (List.mem_cons_self ..))] at this
    cases this
theorem Lft.zero {left rows:List Nat} (I:Lft left rows) (x:Nat):red left x=0↔Span rows x:=by
 have h1:=FE left x left fun o ho=>lH ho
 constructor
 ·intro e
  rw [e,Nat.xor_zero] at h1
  exact (I.sp x).mp h1
 ·intro h
  have h2:=span_xor h1 ((I.sp x).mpr h)
  rw [cE,Nat.xor_self,Nat.zero_xor] at h2
  exact CC I.nz I.pw h2 (FF x left I.nz I.pw)
theorem Lft.keep {left rows:List Nat} (I:Lft left rows) {x:Nat} (h:red left x=0):Lft left (rows++[x]):=by
 have hs:=(I.zero x).mp h
 refine ⟨I.nz,I.pw,fun y=>?_,by rw [fr_in hs];exact I.len⟩
 rw [I.sp,cV]
 refine ⟨.inl,fun q=>q.elim id fun q=>?_⟩
 have:=span_xor q hs
 rwa [aO] at this
theorem Lft.more {left rows:List Nat} (I:Lft left rows) {x:Nat} (h:red left x≠0):Lft (left++[red left x]) (rows++[x]):=by
 have hs:¬ Span rows x:=fun q=>h ((I.zero x).mpr q)
 have h1:=(I.sp _).mp (FE left x left fun o ho=>lH ho)
 refine ⟨fun y hy=>?_,?_,fun y=>?_,by rw [fr_out hs,List.length_append,List.length_append,I.len];rfl⟩
 ·rcases List.mem_append.mp hy with hy | hy
  ·exact I.nz y hy
  ·rw [List.mem_singleton] at hy;subst hy;exact h
 ·rw [List.pairwise_append]
  refine ⟨I.pw,List.pairwise_singleton _ _,fun a ha b hb=>?_⟩
  rw [List.mem_singleton] at hb
  subst hb
  exact FF x left I.nz I.pw a ha
 ·rw [cV,cV,I.sp,I.sp]
  have key:Span rows (y^^^red left x)↔Span rows (y^^^x):=by
   constructor
   ·intro q
    have:=span_xor q h1
    rw [show y^^^red left x^^^(x^^^red left x)=y^^^x^^^(red left x^^^red left x) from by rw [Nat.xor_assoc,Nat.xor_assoc];congr 1;rw [← Nat.xor_assoc,Nat.xor_comm (red left x) x,Nat.xor_assoc],Nat.xor_self,Nat.xor_zero] at this
    exact this
   ·intro q
    have:=span_xor q h1
    rw [← Nat.xor_assoc,Nat.xor_assoc y x x,Nat.xor_self,Nat.xor_zero] at this
    exact this
  rw [key]
noncomputable def bm (rows:List Nat) (b:Nat):Nat:=Classical.epsilon (Bar rows b)
end M
namespace Sx
open PySem L2
structure Tldm (H:Hp) (D:Addr) (ps:List (Addr×Nat)) (m T:Nat):Prop where
 d:H D=some (.lst (ps.map fun q=>V.ref q.1))
 at':∀ q∈ps,H q.1=some (.lst ((M.upk m q.2 T).map nat))
 ne:∀ q∈ps,q.1≠D
noncomputable def Gs:Sp:=fun vs H Q _=>∃ (p:Addr) (ss:List Nat),vs=[.ref p]∧H p=some (.lst (ss.map nat))∧ss.length≤1000∧∀ H2,Same H H2→Q (nat (M.fr ss).length) H2
end Sx
namespace M
noncomputable def bl (A:List Nat) (s n:Nat):List Nat:=(List.range (n + 1)).map (bkI A s)
theorem Qx (A:List Nat):∀ (rows:List Nat) (F:Nat),sm A (sm rows F)=sm (rows.map (sm A)) F
 | [],_=>sm_zero A
 | r::rows,F=>by
   show sm A ((if F.testBit 0 then r else 0)^^^sm rows (F / 2))=(if F.testBit 0 then sm A r else 0)^^^sm (rows.map (sm A)) (F / 2)
   rw [sm_xor,Qx A rows]
   cases F.testBit 0<;>simp [sm_zero]
theorem Inj.out' {ws:List Nat} {w:Nat} (I:Inj (ws++[w])):Inj ws∧¬ Span ws w:=by
 refine ⟨fun p hp e=>I p (by rw [List.length_append,List.length_singleton,Nat.pow_succ];omega) (by rw [fz hp];exact e),fun h=>?_⟩
 obtain ⟨p,hp,e⟩:=oX h
 have:=I (p^^^2 ^ ws.length) (by rw [List.length_append];exact zi hp) (by rw [yy hp,e,Nat.xor_self])
 exact (kM hp).1 this
theorem MU:∀ ws:List Nat,Inj ws→(fr ws).length=ws.length:=by
 refine dX (fun _=>rfl) fun l w ih h=>?_
 have:=h.out'
 rw [fr_out this.2,List.length_append,List.length_append,ih this.1];rfl
theorem Pz {ws:List Nat} {t:Nat} (I:Inj ws) (h:∀ x∈ws,x < 2 ^ t):ws.length≤t:=by
 rw [← MU ws I];exact OY h
noncomputable def ow (x:Nat) (L:List Nat):Nat:=pk (fun k=>od (x&&&L.getD k 0)) 0 L.length
noncomputable def lk1 (A os:List Nat) (t:Nat):List Nat:=os.map fun s=>bkI A s t
noncomputable def lkm (A os:List Nat):Nat→List Nat
 | 0=>[]
 | T + 1=>lkm A os T++lk1 A os T
section
variable (ps os:List (Nat×Nat)) (m:Nat)
noncomputable def msk:List Nat:=lkm (ps.map (·.1)) (os.map (·.1)) ps.length
noncomputable def ldp:List Nat:=fr ((rch ps m ps.length).map (ow · (msk ps os)))
noncomputable def lst_:List Nat:=(ldp ps os m).map fun i=>(rch ps m ps.length).getD i 0
noncomputable def lkp:List Nat:=fr ((msk ps os).map (ow · (lst_ ps os m)))
noncomputable def lkL:List Nat:=(lkp ps os m).map fun i=>(msk ps os).getD i 0
noncomputable def sen:List Nat:=(lkL ps os m).map (ow · (lst_ ps os m))
end
section
variable {ps os:List (Nat×Nat)} {m:Nat}
structure Lsr (ps os:List (Nat×Nat)) (m:Nat) (nx' os':List (Nat×Nat)):Prop where
 ln:nx'.length=(lkp ps os m).length
 lo:os'.length=os.length
 n1:∀ (j:Nat) (q:Nat×Nat),nx'[j]? =some q→q.1 < 2 ^ (lkp ps os m).length∧sm (sen ps os m) q.1=ow (sm (ps.map (·.1)) ((lkL ps os m).getD j 0)) (lst_ ps os m)∧q.2=sm (ps.map (·.2)) ((lkL ps os m).getD j 0)
 o1:∀ (j:Nat) (q:Nat×Nat),os'[j]? =some q→q.1 < 2 ^ (lkp ps os m).length∧sm (sen ps os m) q.1=ow (os.getD j (0,0)).1 (lst_ ps os m)∧q.2=(os.getD j (0,0)).2
structure Fit (ps os:List (Nat×Nat)) (m:Nat):Prop where
 ln:ps.length≤120
 bn:∀ q∈ps++os,q.1 < 2 ^ ps.length
end
theorem Rl {n:Nat} (hn:n≤1000):∀ (rows:List Nat),(∀ r∈rows,r < 2 ^ n)→∀ x,x < 2 ^ n→¬ Span rows x→∃ m,m < 2 ^ n∧(∀ r∈rows,od (m&&&r)=false)∧od (m&&&x)=true:=by
 intro rows
 induction rows using dX with
 | h0=>
   intro _ x hx hs
   have hx0:x≠0:=fun e=>hs (by rw [e];exact span_zero _)
   have hl:x.log2 < n:=(Nat.log2_lt hx0).mpr hx
   exact ⟨2 ^ x.log2,Nat.pow_lt_pow_right (by decide) hl,fun _ h=>absurd h (by simp),by rw [FQ (by omega)];exact d0 hx0⟩
 | hs l r ih=>
   intro hb x hx hs
   have ih:=ih fun y hy=>hb y (List.mem_append_left _ hy)
   have hr:r < 2 ^ n:=hb r (List.mem_append_right _ List.mem_cons_self)
   have h1:¬ Span l x:=fun h=>hs ((cV l r x).mpr (.inl h))
   have h2:¬ Span l (x^^^r):=fun h=>hs ((cV l r x).mpr (.inr h))
   obtain ⟨m1,a1,b1,c1⟩:=ih x hx h1
   cases e1:od (m1&&&r) with
   | false=>
     refine ⟨m1,a1,fun y hy=>?_,c1⟩
     rcases List.mem_append.mp hy with h | h
     ·exact b1 y h
     ·rw [List.mem_singleton.mp h];exact e1
   | true=>
     obtain ⟨m2,a2,b2,c2⟩:=ih (x^^^r) (xor_lt_pow hx hr) h2
     rw [lF,gR] at c2
     cases e2:od (m2&&&r) with
     | false=>
       rw [e2,Bool.xor_false] at c2
       refine ⟨m2,a2,fun y hy=>?_,c2⟩
       rcases List.mem_append.mp hy with h | h
       ·exact b2 y h
       ·rw [List.mem_singleton.mp h];exact e2
     | true=>
       rw [e2] at c2
       have c3:od (m2&&&x)=false:=by cases h:od (m2&&&x)<;>simp_all
       refine ⟨m1^^^m2,xor_lt_pow a1 a2,fun y hy=>?_,by rw [kE,gR,c1,c3];rfl⟩
       rw [kE,gR]
       rcases List.mem_append.mp hy with h | h
       ·rw [b1 y h,b2 y h];rfl
       ·rw [List.mem_singleton.mp h,e1,e2];rfl
theorem zJ {m:Nat} {rows:List Nat} (h:∀ r∈rows,od (m&&&r)=false) {y:Nat} (hy:Span rows y):od (m&&&y)=false:=
 iz (P:=fun y=>od (m&&&y)=false) (by rw [Nat.and_zero,od_zero]) (fun a b ha hb=>by show od (m&&&(a^^^b))=false;rw [lF,gR,ha,hb];rfl) h hy
section
variable (ps os:List (Nat×Nat)) (m:Nat)
noncomputable def Sil:Nat→Nat→Prop
 | 0,x=>x < 2 ^ ps.length
 | j + 1,x=>x < 2 ^ ps.length∧∃ u,u < 2 ^ m∧tr2 os x u=0∧Sil j (tr2 ps x u)
end
section
structure Ta (ps os:List (Nat×Nat)) (m:Nat) (bars ways:List Nat):Prop where
 lt:∀ w∈ways,w < 2 ^ (ps.length + m)
 ev:∀ w∈ways,tr2 os (w % 2 ^ ps.length) (w>>>ps.length)=0∧∀ b∈bars,od (b&&&tr2 ps (w % 2 ^ ps.length) (w>>>ps.length))=false
 inj:Inj (ways.map (· % 2 ^ ps.length))
 span:∀ x,Span (ways.map (· % 2 ^ ps.length)) x↔x < 2 ^ ps.length∧∃ u,u < 2 ^ m∧tr2 os x u=0∧∀ b∈bars,od (b&&&tr2 ps x u)=false
end
theorem Jf {a b:List Nat} (ia:Inj a) (ib:Inj b) (hl:b.length≤a.length) (h:∀ x,Span a x→Span b x) {x:Nat} (hx:Span b x):Span a x:=Classical.byContradiction fun hn=>by
 obtain ⟨ka,sa,la⟩:=i6 a
 obtain ⟨kb,sb,lb⟩:=i6 b
 rw [fr_inj ia] at la
 rw [fr_inj ib] at lb
 have hnd:(x::ka).Nodup:=List.nodup_cons.mpr ⟨fun hm=>hn ((sa.all x).mp hm),sa.nd⟩
 have:=kK (x::ka) kb hnd fun y hy=>by
  rcases List.mem_cons.mp hy with e | e
  ·rw [e];exact (sb.all x).mpr hx
  ·exact (sb.all y).mpr (h y ((sa.all y).mp e))
 rw [List.length_cons,la,lb] at this
 have:=Nat.pow_le_pow_right (show 0 < 2 by decide) hl
 omega
section
variable {ps os:List (Nat×Nat)} {m:Nat}
noncomputable def Te (ps os:List (Nat×Nat)) (m j:Nat) (bars:List Nat):Prop:=∀ y,y < 2 ^ ps.length→((∀ b∈bars,od (b&&&y)=false)↔Sil ps os m j y)
end
noncomputable def act (ps:List (Nat×Nat)) (x Q:Nat):Nat:=if Q=0 then 0 else (if Q % 2=1 then x else 0)^^^act ps (tr2 ps x 0) (Q / 2)
termination_by Q
decreasing_by omega
structure Lst (ps:List (Nat×Nat)) (x P:Nat):Prop where
 nz:P≠0
 dv:∀ Q,act ps x Q=0↔Dv P Q
structure Rng (ps:List (Nat×Nat)) (x l n:Nat):Prop where
 pos:1≤n
 back:zs ps x (l + n)=zs ps x l
 least:∀ e,1≤e→e < n→zs ps x (l + e)≠zs ps x l
 early:1≤l→zs ps x (l - 1 + n)≠zs ps x (l - 1)
theorem ND {f:Nat→Nat} (h0:f 0=0) (hx:∀ x y,f (x^^^y)=f x^^^f y) (w:Nat):∀ x,x < 2 ^ w→sm ((List.range w).map fun k=>f (2 ^ k)) x=f x:=by
 induction w with
 | zero=>intro x h;have:x < 1:=h;rw [show x=0 by omega,h0];rfl
 | succ w ih=>
   intro x h
   rw [List.range_succ,List.map_append,List.map_singleton]
   have hl:((List.range w).map fun k=>f (2 ^ k)).length=w:=by rw [List.length_map,List.length_range]
   rw [g7,hl]
   by_cases hb:x.testBit w=true
   ·rw [if_pos hb]
    have hy:x^^^2 ^ w < 2 ^ w:=by
     refine Nat.lt_pow_two_of_testBit _ fun i hi=>?_
     rw [Nat.testBit_xor,Nat.testBit_two_pow]
     by_cases e:w=i
     ·subst e;rw [hb];simp
     ·rw [Nat.testBit_lt_two_pow (Nat.lt_of_lt_of_le h (Nat.pow_le_pow_right (by decide) (by omega)))];simp [e]
    have e1:=ih _ hy
    rw [sm_xor,hx] at e1
    have e2:sm ((List.range w).map fun k=>f (2 ^ k)) (2 ^ w)=0:=by rw [i8,List.getD_eq_getElem?_getD,List.getElem?_eq_none (by rw [hl];exact Nat.le_refl _)];rfl
    rw [e2,Nat.xor_zero] at e1
    rw [e1,aO]
   ·rw [if_neg hb,Nat.xor_zero]
    rw [Bool.not_eq_true] at hb
    refine ih x (Nat.lt_pow_two_of_testBit _ fun i hi=>?_)
    by_cases e:w=i
    ·subst e;exact hb
    ·exact Nat.testBit_lt_two_pow (Nat.lt_of_lt_of_le h (Nat.pow_le_pow_right (by decide) (by omega)))
theorem De (ps os:List (Nat×Nat)):∀ (rs qs:List Nat) (x y:Nat),rs.length=qs.length→wan ps os (x^^^y) (List.zipWith (·^^^·) rs qs)=List.zipWith (·^^^·) (wan ps os x rs) (wan ps os y qs)
 | [],[],_,_,_=>rfl
 | [],_::_,_,_,h=>by simp at h
 | _::_,[],_,_,h=>by simp at h
 | r::rs,q::qs,x,y,h=>by
   have ih:=De ps os rs qs (tr2 ps x r) (tr2 ps y q) (by simpa using h)
   show tr2 os (x^^^y) (r^^^q)::wan ps os (tr2 ps (x^^^y) (r^^^q)) (List.zipWith (·^^^·) rs qs)=(tr2 os x r^^^tr2 os y q)::List.zipWith (·^^^·) (wan ps os (tr2 ps x r) rs) (wan ps os (tr2 ps y q) qs)
   rw [Jc,Jc,ih]
theorem Fv (ps os:List (Nat×Nat)) (qs:List Nat):∀ t,wan ps os 0 (List.replicate t 0++qs)=List.replicate t 0++wan ps os 0 qs
 | 0=>rfl
 | t + 1=>by
   show tr2 os 0 0::wan ps os (tr2 ps 0 0) (List.replicate t 0++qs)=0::(List.replicate t 0++wan ps os 0 qs)
   rw [Fy,Fy,Fv ps os qs t]
theorem DK (w:Nat):∀ (a b:List Nat),a.length=b.length→pkw w (List.zipWith (·^^^·) a b)=pkw w a^^^pkw w b
 | [],[],_=>(Nat.xor_self 0).symm
 | [],_::_,h=>by cases h
 | _::_,[],h=>by cases h
 | x::a,y::b,h=>by
   have ih:=DK w a b (by simpa using h)
   show (x^^^y)^^^(pkw w (List.zipWith (·^^^·) a b) <<< w)=(x^^^(pkw w a <<< w))^^^(y^^^(pkw w b <<< w))
   rw [ih,Ju,xor4]
theorem Dg {w:Nat}:∀ {T:Nat} {rs:List Nat},rs.length=T→(∀ r∈rs,r < 2 ^ w)→upk w (pkw w rs) T=rs
 | 0,[],_,_=>rfl
 | T + 1,r::rs,h,hb=>by
   have hr:=hb r List.mem_cons_self
   rw [LM]
   have e1:pkw w (r::rs)>>>w=pkw w rs:=GT hr
   have e2:pkw w (r::rs)&&&(2 ^ w - 1)=r:=by
    show (r^^^(pkw w rs <<< w))&&&(2 ^ w - 1)=r
    rw [Nat.and_two_pow_sub_one_eq_mod]
    apply Nat.eq_of_testBit_eq;intro i
    rw [Nat.testBit_mod_two_pow,Nat.testBit_xor,Nat.testBit_shiftLeft]
    by_cases hi:i < w
    ·simp [hi,show ¬ w≤i by omega]
    ·rw [Nat.testBit_lt_two_pow (Nat.lt_of_lt_of_le hr (Nat.pow_le_pow_right (by decide) (by omega)))];simp [hi]
   rw [e1,e2,Dg (T:=T) (by simpa using h) fun y hy=>hb y (List.mem_cons_of_mem _ hy)]
section
variable (ps os:List (Nat×Nat)) (m T:Nat)
noncomputable def tol:List Nat:=(List.range (T * m)).map fun k=>pkw os.length (wan ps os 0 (upk m (2 ^ k) T))
end
section
variable {ps os:List (Nat×Nat)} {d:Nat}
structure Mks (ps os:List (Nat×Nat)) (m d:Nat) (μs:List Nat):Prop where
 len:μs.length=m
 lt:∀ (i μ:Nat),μs[i]? =some μ→μ < 2 ^ ((d + 1) * os.length)
 ev:∀ (i μ:Nat),μs[i]? =some μ→∀ z,Span ((tol ps os m (d + 1)).set i 0) z→od (μ&&&z)=false
 odd:∀ (i μ:Nat),μs[i]? =some μ→od (μ&&&(tol ps os m (d + 1)).getD i 0)=true
end
section
variable {ps os:List (Nat×Nat)} {m:Nat}
structure Slp (ps os:List (Nat×Nat)) (m j:Nat) (bars ways:List Nat):Prop where
 w:Ta ps os m bars ways
 b:Te ps os m j bars
 lt:∀ b∈bars,b < 2 ^ ps.length
 cnt:∃ prev:List Nat,(∀ x,Span prev x↔Sil ps os m j x)∧Inj prev∧prev.length + bars.length=ps.length∧prev.length + j≤ps.length
end
theorem JL (w:Nat):∀ t,pkw w (List.replicate t 0)=0
 | 0=>rfl
 | t + 1=>by show 0^^^(pkw w (List.replicate t 0) <<< w)=0;rw [JL w t];simp
noncomputable def lo (n x:Nat):Nat:=x&&&(2 ^ n - 1)
structure Jo (p1 p2:List (Nat×Nat)):Prop where
 a1:∀ q∈p1,q.1 < 2 ^ p1.length
 a2:∀ q∈p2,q.1 < 2 ^ p2.length
 l:p1.length + p2.length≤500
section
variable {p1 p2 o1 o2:List (Nat×Nat)} {m:Nat}
theorem nE (p o:List (Nat×Nat)):∀ (T x t:Nat),t < T→(wan p o x (List.replicate T 0)).getD t 0=tr2 o (zs p x t) 0
 | 0,_,_,h=>absurd h (by omega)
 | T + 1,x,t,h=>by
   rw [List.replicate_succ]
   show (tr2 o x 0::wan p o (tr2 p x 0) (List.replicate T 0)).getD t 0=_
   match t with
   | 0=>rfl
   | t + 1=>
     show (wan p o (tr2 p x 0) (List.replicate T 0)).getD t 0=_
     rw [nE p o T _ t (by omega),Qf]
end
theorem IY (n:Nat):Inj ((List.range n).map (2 ^ ·)):=by
 refine jm _ (fun x hx=>?_) ?_
 ·obtain ⟨k,_,rfl⟩:=List.mem_map.mp hx
  exact Nat.ne_of_gt (Nat.two_pow_pos k)
 ·refine List.pairwise_map.mpr (List.Pairwise.imp (fun {a b} h=>?_) List.pairwise_lt_range)
  rw [Nat.log2_two_pow,Nat.log2_two_pow];exact h
theorem Kc {ks:List Nat} {j m:Nat} (h:ks[j]? =some m):∀ k∈ks,k=m∨k∈ks.eraseIdx j:=fun k hk=>by
 obtain ⟨i,hi,e⟩:=List.mem_iff_getElem.mp hk
 by_cases hij:i=j
 ·subst hij
  rw [List.getElem?_eq_getElem hi] at h
  exact .inl (e.symm.trans (Option.some.inj h))
 ·exact .inr (List.mem_eraseIdx_iff_getElem?.mpr ⟨i,hij,by rw [List.getElem?_eq_getElem hi,e]⟩)
theorem ann {n:Nat} (hn:n≤1000):∀ rows:List Nat,(∀ r∈rows,r < 2 ^ n)→∃ ks,Inj ks∧(∀ x,Span ks x↔x < 2 ^ n∧∀ r∈rows,od (x&&&r)=false)∧ks.length + (fr rows).length=n:=by
 intro rows
 induction rows using dX with
 | h0=>
   intro _
   refine ⟨(List.range n).map (2 ^ ·),IY n,fun x=>⟨fun h=>⟨span_lt (fun r hr=>?_) h,fun _ h=>absurd h (by simp)⟩,fun h=>?_⟩,?_⟩
   ·obtain ⟨k,hk,rfl⟩:=List.mem_map.mp hr
    exact Nat.pow_lt_pow_right (by decide) (List.mem_range.mp hk)
   ·have:=ND (f:=fun x=>x) rfl (fun _ _=>rfl) n x h.1
    rw [← this];exact sm_span _ _
   ·have:(fr ([]:List Nat)).length=0:=by have:=fr_len [];simpa using this
    rw [this,List.length_map,List.length_range];rfl
 | hs l r ih=>
   intro hb
   obtain ⟨ks,I,sp,len⟩:=ih fun y hy=>hb y (List.mem_append_left _ hy)
   have hr:r < 2 ^ n:=hb r (List.mem_append_right _ List.mem_cons_self)
   have mem:∀ {x},(∀ y∈l++[r],od (x&&&y)=false)↔(∀ y∈l,od (x&&&y)=false)∧od (x&&&r)=false:=fun {x}=>⟨fun h=>⟨fun y hy=>h y (List.mem_append_left _ hy),h r (List.mem_append_right _ List.mem_cons_self)⟩,fun h y hy=>(List.mem_append.mp hy).elim (h.1 y) fun e=>by rw [List.mem_singleton.mp e];exact h.2⟩
   by_cases hs:Span l r
   ·refine ⟨ks,I,fun x=>?_,by rw [fr_in hs];exact len⟩
    rw [sp x,mem]
    exact ⟨fun h=>⟨h.1,h.2,zJ h.2 hs⟩,fun h=>⟨h.1,h.2.1⟩⟩
   ·obtain ⟨m0,a0,b0,c0⟩:=Rl hn l (fun y hy=>hb y (List.mem_append_left _ hy)) r hr hs
    have ex:∃ m∈ks,od (m&&&r)=true:=Classical.byContradiction fun no=>by
     have:=zJ (m:=r) (rows:=ks) (fun k hk=>by
      cases e:od (r&&&k) with
      | false=>rfl
      | true=>exact absurd ⟨k,hk,by rw [Nat.and_comm];exact e⟩ no) ((sp m0).mpr ⟨a0,b0⟩)
     rw [Nat.and_comm,c0] at this;cases this
    obtain ⟨m,hm,om⟩:=ex
    obtain ⟨j,hj,_⟩:=F2 hm
    have lj:j < ks.length:=(List.getElem?_eq_some_iff.mp hj).1
    have ks_ann:=fun k hk=>(sp k).mp (lH hk)
    have I':=I.erase hj (fun x=>od (x&&&r))
    have sub:∀ x∈(ks.eraseIdx j).map (fun x=>if od (x&&&r) then x^^^m else x),x < 2 ^ n∧∀ y∈l++[r],od (x&&&y)=false:=fun x hx=>by
     obtain ⟨k,hk,rfl⟩:=List.mem_map.mp hx
     have k1:=ks_ann k (List.mem_of_mem_eraseIdx hk)
     have m1:=ks_ann m hm
     by_cases hc:od (k&&&r)=true
     ·rw [if_pos hc]
      refine ⟨xor_lt_pow k1.1 m1.1,mem.mpr ⟨fun y hy=>by rw [kE,gR,k1.2 y hy,m1.2 y hy];rfl,by rw [kE,gR,hc,om];rfl⟩⟩
     ·rw [if_neg hc]
      exact ⟨k1.1,mem.mpr ⟨k1.2,by simpa using hc⟩⟩
    refine ⟨_,I',fun x=>⟨fun h=>iz (P:=fun x=>x < 2 ^ n∧∀ y∈l++[r],od (x&&&y)=false) ⟨Nat.two_pow_pos n,fun y _=>by rw [Nat.zero_and,od_zero]⟩ (fun a b ha hb=>⟨xor_lt_pow ha.1 hb.1,fun y hy=>by rw [kE,gR,ha.2 y hy,hb.2 y hy];rfl⟩) sub h,fun h=>?_⟩,?_⟩
    ·have h2:=mem.mp h.2
     have hk:=(sp x).mpr ⟨h.1,h2.1⟩
     have two:Span ((ks.eraseIdx j).map (fun x=>if od (x&&&r) then x^^^m else x)) x∨Span ((ks.eraseIdx j).map (fun x=>if od (x&&&r) then x^^^m else x)) (x^^^m):=by
      refine iz (P:=fun x=>Span ((ks.eraseIdx j).map (fun x=>if od (x&&&r) then x^^^m else x)) x∨Span ((ks.eraseIdx j).map (fun x=>if od (x&&&r) then x^^^m else x)) (x^^^m)) (.inl (span_zero _)) (fun a b ha hb=>?_) (fun k hk=>?_) hk
      ·rcases ha with ha | ha<;>rcases hb with hb | hb
       ·exact .inl (span_xor ha hb)
       ·exact .inr (by rw [Nat.xor_assoc];exact span_xor ha hb)
       ·exact .inr (by rw [Nat.xor_assoc,Nat.xor_comm b m,← Nat.xor_assoc];exact span_xor ha hb)
       ·refine .inl ?_
        have:=span_xor ha hb
        rwa [Nat.xor_comm b m,← Nat.xor_assoc,Nat.xor_assoc a m m,Nat.xor_self,Nat.xor_zero] at this
      ·rcases Kc hj k hk with e | e
       ·rw [e,Nat.xor_self];exact .inr (span_zero _)
       ·by_cases hc:od (k&&&r)=true
        ·exact .inr (lH (List.mem_map.mpr ⟨k,e,if_pos hc⟩))
        ·exact .inl (lH (List.mem_map.mpr ⟨k,e,if_neg hc⟩))
     rcases two with t | t
     ·exact t
     ·have:=zJ (m:=r) (fun y hy=>by rw [Nat.and_comm];exact (mem.mp (sub y hy).2).2) t
      rw [Nat.and_comm,kE,gR,h2.2,om] at this;cases this
    ·rw [fr_out hs,List.length_append,List.length_singleton,List.length_map,List.length_eraseIdx,if_pos lj];omega
theorem Hf {n:Nat} (hn:n≤1000) {R Ms nms:List Nat} (hR:R.length=n) (K:Kern R nms) (hM:∀ μ∈Ms,μ < 2 ^ n) (key:∀ x,x < 2 ^ n→(sm R x=0↔∀ μ∈Ms,od (x&&&μ)=false)):nms.length + (fr Ms).length=n:=by
 obtain ⟨ks,I,sp,len⟩:=ann hn Ms hM
 have:=KN (a:=nms) (b:=ks) fun x=>by
  rw [K.span,sp,hR]
  exact ⟨fun h=>⟨h.1,(key x h.1).mp h.2⟩,fun h=>⟨h.1,(key x h.1).mpr h.2⟩⟩
 rw [fr_inj K.inj,fr_inj I] at this
 omega
section
variable (ps os:List (Nat×Nat)) (T:Nat)
noncomputable def fad (x:Nat):Nat:=pkw os.length (wan ps os x (List.replicate T 0))
noncomputable def adl:List Nat:=(List.range ps.length).map fun k=>fad ps os T (2 ^ k)
noncomputable def aml:Nat→List Nat
 | 0=>[]
 | T + 1=>aml T++(os.map fun q=>bkI (ps.map (·.1)) q.1 T)
end
section
variable {ps os:List (Nat×Nat)} {T:Nat}
theorem adl_len:(adl ps os T).length=ps.length:=by unfold adl;rw [List.length_map,List.length_range]
theorem M3:fad ps os T 0=0:=by
 unfold fad
 have:=Fv ps os [] T
 rw [List.append_nil,show wan ps os 0 []=[] from rfl,List.append_nil] at this
 rw [this,JL]
theorem Qe:∀ T,List.zipWith (·^^^·) (List.replicate T 0) (List.replicate T 0)=List.replicate T (0:Nat):=fun T=>by
 rw [List.zipWith_replicate];simp
theorem PN (x y:Nat):fad ps os T (x^^^y)=fad ps os T x^^^fad ps os T y:=by
 unfold fad
 have:=De ps os (List.replicate T 0) (List.replicate T 0) x y rfl
 rw [Qe] at this
 rw [this,DK _ _ _ (by rw [wan_len,wan_len])]
theorem Ag {x:Nat} (h:x < 2 ^ ps.length):sm (adl ps os T) x=fad ps os T x:=ND (f:=fad ps os T) M3 PN _ x h
theorem RP (x:Nat):fad ps os T x < 2 ^ (T * os.length):=by
 have:=pkw_lt (ps:=wan ps os x (List.replicate T 0)) (fun p hp=>wan_lt ps os _ x p hp)
 rwa [wan_len,List.length_replicate] at this
theorem adl_lt:∀ r∈adl ps os T,r < 2 ^ (T * os.length):=fun r hr=>by
 obtain ⟨k,_,rfl⟩:=List.mem_map.mp hr
 exact RP _
theorem IV (rs:List Nat) (x:Nat):pkw os.length (wan ps os x rs)=pkw os.length (wan ps os 0 rs)^^^fad ps os rs.length x:=by
 have:=De ps os rs (List.replicate rs.length 0) 0 x (by rw [List.length_replicate])
 rw [Nat.zero_xor] at this
 have e:List.zipWith (·^^^·) rs (List.replicate rs.length 0)=rs:=by
  clear this
  induction rs with
  | nil=>rfl
  | cons r rs ih=>rw [List.length_cons,List.replicate_succ,List.zipWith_cons_cons,ih,Nat.xor_zero]
 rw [e] at this
 rw [this,DK _ _ _ (by rw [wan_len,wan_len,List.length_replicate])]
 rfl
theorem O7 {w:Nat} {a b:List Nat} (hl:a.length=b.length) (ha:∀ x∈a,x < 2 ^ w) (hb:∀ x∈b,x < 2 ^ w) (e:pkw w a=pkw w b):a=b:=by
 have h1:=Dg (T:=b.length) hl ha
 rw [e,Dg rfl hb] at h1
 exact h1.symm
theorem fit_of {rs an:List Nat} {x:Nat} (hx:x < 2 ^ ps.length) (hl:an.length=rs.length) (hb:∀ y∈an,y < 2 ^ os.length) (e:sm (adl ps os rs.length) x=pkw os.length an^^^pkw os.length (wan ps os 0 rs)):wan ps os x rs=an:=by
 refine O7 (w:=os.length) (by rw [wan_len,hl]) (fun y hy=>wan_lt ps os _ _ y hy) hb ?_
 rw [IV,← Ag hx,e,Nat.xor_comm (pkw os.length an),← Nat.xor_assoc,Nat.xor_self,Nat.zero_xor]
theorem fit_span {rs:List Nat} {x:Nat} (hx:x < 2 ^ ps.length):Span (adl ps os rs.length) (pkw os.length (wan ps os x rs)^^^pkw os.length (wan ps os 0 rs)):=by
 rw [IV,Nat.xor_comm (pkw os.length (wan ps os 0 rs)),Nat.xor_assoc,Nat.xor_self,Nat.xor_zero,← Ag hx]
 exact sm_span _ _
theorem quiet_of {x:Nat} (hx:x < 2 ^ ps.length) (e:sm (adl ps os T) x=0):wan ps os x (List.replicate T 0)=List.replicate T 0:=by
 rw [Ag hx] at e
 have:=(yQ (fun p hp=>wan_lt ps os _ x p hp)).mp e
 refine List.eq_replicate_iff.mpr ⟨by rw [wan_len,List.length_replicate],this⟩
theorem zh {μ:Nat}:∀ {T:Nat},μ∈aml ps os T↔∃ t q,t < T∧q∈os∧μ=bkI (ps.map (·.1)) q.1 t
 | 0=>⟨fun h=>absurd h (by simp [aml]),fun ⟨_,_,h,_⟩=>absurd h (by omega)⟩
 | T + 1=>by
   show μ∈aml ps os T++_↔_
   rw [List.mem_append,zh (T:=T),List.mem_map]
   constructor
   ·rintro (⟨t,q,h1,h2,h3⟩ | ⟨q,h2,h3⟩)
    ·exact ⟨t,q,by omega,h2,h3⟩
    ·exact ⟨T,q,by omega,h2,h3.symm⟩
   ·rintro ⟨t,q,h1,h2,h3⟩
    by_cases e:t=T
    ·subst e;exact .inr ⟨q,h2,h3.symm⟩
    ·exact .inl ⟨t,q,by omega,h2,h3⟩
theorem qR (qs:List (Nat×Nat)) (y:Nat):tr2 qs y 0=0↔∀ q∈qs,od (q.1&&&y)=false:=by
 constructor
 ·intro h q hq
  obtain ⟨i,hi,e⟩:=List.mem_iff_getElem.mp hq
  have:=mE qs y 0 i
  rw [h,Nat.zero_testBit,decide_eq_true hi,Bool.true_and,Nat.and_zero,od_zero,Bool.xor_false,List.getD_eq_getElem?_getD,List.getElem?_eq_getElem hi,Option.getD_some,e] at this
  exact this.symm
 ·intro h
  apply Nat.eq_of_testBit_eq;intro i
  rw [mE,Nat.zero_testBit,Nat.and_zero,od_zero,Bool.xor_false]
  by_cases hi:i < qs.length
  ·rw [List.getD_eq_getElem?_getD,List.getElem?_eq_getElem hi,Option.getD_some,h _ (List.getElem_mem hi)];simp
  ·simp [hi]
theorem P8 (hl:ps.length≤1000) (x:Nat) (hx:x < 2 ^ ps.length):sm (adl ps os T) x=0↔∀ μ∈aml ps os T,od (x&&&μ)=false:=by
 have e0:sm (adl ps os T) x=0↔∀ t,t < T→tr2 os (zs ps x t) 0=0:=by
  constructor
  ·intro h t ht
   rw [← nE ps os T x t ht,quiet_of hx h,List.getD_eq_getElem?_getD,List.getElem?_replicate,if_pos ht];rfl
  ·intro h
   rw [Ag hx]
   refine (yQ (fun p hp=>wan_lt ps os _ x p hp)).mpr fun p hp=>?_
   obtain ⟨t,ht,e⟩:=List.mem_iff_getElem.mp hp
   have ht':t < T:=by rw [wan_len,List.length_replicate] at ht;exact ht
   have:=nE ps os T x t ht'
   rw [h t ht',List.getD_eq_getElem?_getD,List.getElem?_eq_getElem ht,Option.getD_some,e] at this
   exact this
 rw [e0]
 constructor
 ·intro h μ hμ
  obtain ⟨t,q,h1,h2,rfl⟩:=zh.mp hμ
  rw [Nat.and_comm,← MC ps hl]
  exact (qR _ _).mp (h t h1) q h2
 ·intro h t ht
  refine (qR _ _).mpr fun q hq=>?_
  rw [MC ps hl,Nat.and_comm]
  exact h _ (zh.mpr ⟨t,q,ht,hq,rfl⟩)
theorem bkI_lt4 {n:Nat} (hA:∀ q∈ps,q.1 < 2 ^ n) {s:Nat} (hs:s < 2 ^ n):∀ t,bkI (ps.map (·.1)) s t < 2 ^ n
 | 0=>hs
 | t + 1=>span_lt (fun r hr=>by obtain ⟨q,hq,rfl⟩:=List.mem_map.mp hr;exact hA q hq) (sm_span (ps.map (·.1)) (bkI (ps.map (·.1)) s t))
theorem R7 {n:Nat} (hA:∀ q∈ps++os,q.1 < 2 ^ n):∀ μ∈aml ps os T,μ < 2 ^ n:=fun μ hμ=>by
 obtain ⟨t,q,h1,h2,rfl⟩:=zh.mp hμ
 exact bkI_lt4 (fun q hq=>hA q (List.mem_append_left _ hq)) (hA q (List.mem_append_right _ h2)) t
theorem others_many (hl:ps.length≤1000) (hA:∀ q∈ps++os,q.1 < 2 ^ ps.length) {nms:List Nat} (K:Kern (adl ps os T) nms):nms.length + (fr (aml ps os T)).length=ps.length:=
 Hf hl adl_len K (R7 hA) (P8 hl)
theorem yR {w:Nat}:∀ {l:List Nat} (p:Nat),0 < w→(∀ x∈l,x < 2 ^ w)→(pkw w l).testBit p=(l.getD (p / w) 0).testBit (p % w)
 | [],p,_,_=>by simp [pkw]
 | a::l,p,hw,h=>by
   have ha:=h a List.mem_cons_self
   show (a^^^(pkw w l <<< w)).testBit p=_
   rw [Nat.testBit_xor,Nat.testBit_shiftLeft]
   by_cases hp:w≤p
   ·rw [Nat.testBit_lt_two_pow (Nat.lt_of_lt_of_le ha (Nat.pow_le_pow_right (by decide) hp)),decide_eq_true hp,Bool.true_and,Bool.false_xor,yR (p - w) hw fun x hx=>h x (List.mem_cons_of_mem _ hx)]
    have e:p / w=(p - w) / w + 1:=by rw [Nat.div_eq_sub_div hw hp]
    have e2:p % w=(p - w) % w:=Nat.mod_eq_sub_mod hp
    rw [e,e2,List.getD_cons_succ]
   ·rw [decide_eq_false hp,Bool.false_and,Bool.xor_false,Nat.div_eq_of_lt (by omega),Nat.mod_eq_of_lt (by omega)];rfl
noncomputable def bx (y:Nat) (pl:List Nat):Bool:=pl.foldl (fun a p=>a^^y.testBit p) false
theorem E4 (y:Nat) (l:List Nat) (p:Nat):bx y (l++[p])=(bx y l^^y.testBit p):=by unfold bx;rw [List.foldl_append];rfl
theorem od_bx (m y:Nat):∀ w,bx y (pl w m)=pb w (m&&&y)
 | 0=>rfl
 | w + 1=>by
   rw [pl_next]
   cases h:m.testBit w with
   | true=>
     rw [if_pos rfl,E4,od_bx m y w]
     show _=((m&&&y).testBit w^^pb w (m&&&y))
     rw [Nat.testBit_and,h,Bool.true_and,Bool.xor_comm]
   | false=>
     rw [if_neg (by decide),List.append_nil,od_bx m y w]
     show _=((m&&&y).testBit w^^pb w (m&&&y))
     rw [Nat.testBit_and,h,Bool.false_and,Bool.false_xor]
noncomputable def lkq (ps os:List (Nat×Nat)) (p:Nat):Nat:=bkI (ps.map (·.1)) (os.getD (p % os.length) (0,0)).1 (p / os.length)
noncomputable def lks (ps os:List (Nat×Nat)) (l:List Nat):Nat:=l.foldl (fun a p=>a^^^lkq ps os p) 0
theorem lks_snoc (l:List Nat) (p:Nat):lks ps os (l++[p])=lks ps os l^^^lkq ps os p:=by unfold lks;rw [List.foldl_append];rfl
theorem RB {n:Nat} (hA:∀ q∈ps++os,q.1 < 2 ^ n):∀ l:List Nat,lks ps os l < 2 ^ n:=by
 refine dX (P:=fun l=>lks ps os l < 2 ^ n) (Nat.two_pow_pos n) fun l p ih=>?_
 rw [lks_snoc]
 refine xor_lt_pow ih (bkI_lt4 (fun q hq=>hA q (List.mem_append_left _ hq)) ?_ _)
 rw [List.getD_eq_getElem?_getD]
 cases h:os[p % os.length]? with
 | none=>exact Nat.two_pow_pos n
 | some q=>exact hA q (List.mem_append_right _ (List.mem_of_getElem? h))
theorem PP (hl:ps.length≤1000) {p x:Nat} (hp:p < T * os.length):(fad ps os T x).testBit p=od (lkq ps os p&&&x):=by
 have hw:0 < os.length:=Nat.pos_of_ne_zero fun z=>by rw [z,Nat.mul_zero] at hp;omega
 have ht:p / os.length < T:=(Nat.div_lt_iff_lt_mul hw).mpr hp
 unfold fad
 rw [yR p hw (fun y hy=>wan_lt ps os _ x y hy),nE ps os T x _ ht,mE,decide_eq_true (Nat.mod_lt _ hw),Bool.true_and,Nat.and_zero,od_zero,Bool.xor_false,MC ps hl]
 rfl
theorem Pp (hl:ps.length≤1000) {k:Nat} (hk:k < ps.length):∀ l:List Nat,(∀ p∈l,p < T * os.length)→(lks ps os l).testBit k=bx (fad ps os T (2 ^ k)) l:=by
 refine dX (P:=fun l=>(∀ p∈l,p < T * os.length)→(lks ps os l).testBit k=bx (fad ps os T (2 ^ k)) l) (fun _=>by show (0:Nat).testBit k=false;exact Nat.zero_testBit k) fun l p ih h=>?_
 rw [lks_snoc,E4,Nat.testBit_xor,ih fun q hq=>h q (List.mem_append_left _ hq),PP hl (h p (List.mem_append_right _ List.mem_cons_self)),Nat.and_comm,FQ (by omega)]
theorem lks_zero (hl:ps.length≤1000) (hA:∀ q∈ps++os,q.1 < 2 ^ ps.length) {mk:Nat} (hm:mk < 2 ^ (T * os.length)) (ev:∀ y,Span (adl ps os T) y→od (mk&&&y)=false):lks ps os (pl 1000 mk)=0:=by
 apply Nat.eq_of_testBit_eq;intro k
 rw [Nat.zero_testBit]
 by_cases hk:k < ps.length
 ·rw [Pp hl hk _ (pl_lt hm),od_bx]
  exact ev _ (lH (List.mem_map.mpr ⟨k,List.mem_range.mpr hk,rfl⟩))
 ·exact Nat.testBit_lt_two_pow (Nat.lt_of_lt_of_le (RB hA _) (Nat.pow_le_pow_right (by decide) (by omega)))
noncomputable def ank (w:Nat) (a b l:List Nat):Bool:=l.foldl (fun c p=>c^^((a.getD (p / w) 0)^^^(b.getD (p / w) 0)).testBit (p % w)) false
theorem ank_snoc (w:Nat) (a b l:List Nat) (p:Nat):ank w a b (l++[p])=(ank w a b l^^((a.getD (p / w) 0)^^^(b.getD (p / w) 0)).testBit (p % w)):=by unfold ank;rw [List.foldl_append];rfl
theorem ank_eq {w:Nat} {a b:List Nat} (hw:0 < w) (ha:∀ x∈a,x < 2 ^ w) (hb:∀ x∈b,x < 2 ^ w):∀ l:List Nat,ank w a b l=bx (pkw w b^^^pkw w a) l:=by
 refine dX (P:=fun l=>ank w a b l=bx (pkw w b^^^pkw w a) l) rfl fun l p ih=>?_
 rw [ank_snoc,E4,ih,Nat.testBit_xor,Nat.testBit_xor,yR p hw ha,yR p hw hb,Bool.xor_comm ((a.getD (p / w) 0).testBit (p % w))]
theorem RK {rows ys:List Nat} (I:Inj ys) (h:∀ y∈ys,Span rows y):ys.length≤rows.length:=by
 have ex:∃ qs:List Nat,qs.length=ys.length∧(∀ q∈qs,q < 2 ^ rows.length)∧qs.map (sm rows)=ys:=by
  clear I
  induction ys with
  | nil=>exact ⟨[],rfl,fun _ h=>absurd h (by simp),rfl⟩
  | cons y ys ih=>
    obtain ⟨qs,e1,e2,e3⟩:=ih fun z hz=>h z (List.mem_cons_of_mem _ hz)
    obtain ⟨p,hp,e⟩:=oX (h y List.mem_cons_self)
    exact ⟨p::qs,by rw [List.length_cons,List.length_cons,e1],fun q hq=>(List.mem_cons.mp hq).elim (fun z=>by rw [z];exact hp) (e2 q),by rw [List.map_cons,e,e3]⟩
 obtain ⟨qs,e1,e2,e3⟩:=ex
 rw [← e1]
 refine Pz (fun F hF e=>I F (by rw [← e1];exact hF) ?_) e2
 rw [← e3,← Qx,e]
 exact sm_zero rows
theorem bar_few {rows:List Nat} {b m:Nat} (B:Bar rows b m) (w:Nat):(pl w m).length≤rows.length + 1:=by
 have key:∀ l:List Nat,l.Pairwise (· < ·)→(∀ k∈l,∃ y,Span rows y∧y≠0∧y.log2=k)→l.length≤rows.length:=fun l hp h=>by
  have ex:∃ ys:List Nat,ys.map Nat.log2=l∧∀ y∈ys,Span rows y∧y≠0:=by
   clear hp
   induction l with
   | nil=>exact ⟨[],rfl,fun _ h=>absurd h (by simp)⟩
   | cons k l ih=>
     obtain ⟨ys,e1,e2⟩:=ih fun z hz=>h z (List.mem_cons_of_mem _ hz)
     obtain ⟨y,h1,h2,h3⟩:=h k List.mem_cons_self
     exact ⟨y::ys,by rw [List.map_cons,h3,e1],fun z hz=>(List.mem_cons.mp hz).elim (fun e=>by rw [e];exact ⟨h1,h2⟩) (e2 z)⟩
  obtain ⟨ys,e1,e2⟩:=ex
  have I:Inj ys:=jm ys (fun y hy=>(e2 y hy).2) (by rw [← e1] at hp;exact List.pairwise_map.mp hp)
  rw [← e1,List.length_map]
  exact RK I fun y hy=>(e2 y hy).1
 have hr:=pl_rise w m
 have hbit:∀ k∈pl w m,m.testBit k=true:=fun k hk=>(List.mem_filter.mp hk).2
 cases hl:pl w m with
 | nil=>exact Nat.zero_le _
 | cons k l=>
   rw [hl] at hr hbit
   have hp:=List.pairwise_cons.mp hr
   have hkb:b≤k:=Nat.le_of_not_lt fun h=>by have:=B.low k h;rw [hbit k List.mem_cons_self] at this;cases this
   have:=key l hp.2 fun j hj=>Classical.byContradiction fun no=>by
    have hjk:=hp.1 j hj
    have:=B.oth j (by omega) fun y hy y0 e=>no ⟨y,hy,y0,e⟩
    rw [hbit j (List.mem_cons_of_mem _ hj)] at this;cases this
   rw [List.length_cons];omega
end
end M
namespace Sx
open PySem L2
structure CmA (H:Hp) (t D:Addr) (m:Nat) (nx:List Pr3) (st T q mk:Nat):Prop where
 f:H t=some (.tup [.str "come",.ref D,nat mk])
 d:H D=some (.lst ((M.upk m q T).map nat))
 hT:T≤nx.length
 no:∀ j,j < T→¬ M.Span (M.rch (prs nx) m j) st
 sd:Sumd (M.rch (prs nx) m T) st q
 br:(T=0∧mk=0)∨∃ T',T=T' + 1∧Bard (M.rch (prs nx) m T') st mk
structure CmN (H:Hp) (t D S:Addr) (m:Nat) (nx:List Pr3) (st mk p q:Nat):Prop where
 f:H t=some (.tup [.str "never",.ref D,.ref S])
 no:∀ j,j≤nx.length→¬ M.Span (M.rch (prs nx) m j) st
 bd:Bard (M.rch (prs nx) m nx.length) st mk
 ct:ChT H D S (M.bl (nA nx) mk nx.length) p q
structure LN (K:PySem.W.Frag) (H:Hp) (n:Addr) (m:Nat) (nx os:List Pr3) (st:Nat):Prop where
 sq:SqL K H n (refs nx)
 pt:Prt H nx
 g:MaG m nx os
 ln:nx.length≤16
 hs:st < 2 ^ nx.length
noncomputable def Cp (Pv:List Pr3→Prop) (H1:Hp) (D:Addr) (i:Nat) (ys:List V) (H:Hp):Prop:=∃ qs:List Pr3,ys=refs qs∧qs.length=i∧Pv qs∧Prt H qs∧Same H1 H∧H D=some (.lst ys)
theorem RY {Pv:List Pr3→Prop} {H1 H H6:Hp} {D t:Addr} {i x y:Nat} {qs:List Pr3} (hD:H1 D=none) (lq:qs.length=i) (pt:Prt H qs) (s:Same H1 H) (eD:H D=some (.lst (refs qs))) (s6:Same H H6) (et:H6 t=some (.tup [nat x,nat y])) (hi:i < 1000) (pv:Pv (qs++[(t,x,y)])):H6 D=some (.lst (refs qs))∧(refs qs).length < sizeLine∧Cp Pv H1 D (i + 1) (refs qs++[.ref t]) (upd H6 D (.lst (refs qs++[.ref t]))):=by
 refine ⟨s6.get eD,by rw [dJ,lq];exact i7 (by omega),qs++[(t,x,y)],by unfold refs;rw [List.map_append];rfl,by rw [List.length_append,lq];rfl,pv,fun q hq=>?_,fun b ob e=>?_,bo⟩
 ·have h6:H6 q.1=some (.tup [nat q.2.1,nat q.2.2]):=by
   rcases List.mem_append.mp hq with h | h
   ·exact s6.get (pt q h)
   ·rw [List.mem_singleton.mp h];exact et
  have n:q.1≠D:=fun z=>by rw [z,s6.get eD] at h6;cases h6
  rw [aV n];exact h6
 ·rw [aV (av e hD)];exact s6.get (s.get e)
theorem PZ {Pv:List Pr3→Prop} {H1:Hp} {D:Addr} (hD:H1 D=none) (h:Pv []):Cp Pv H1 D 0 [] (upd H1 D (.lst [])):=⟨[],rfl,rfl,h,fun _ h=>(by cases h),fQ hD,bo⟩
structure Lrl (H:Hp) (Dr Dl:Addr) (ds es:List Addr) (m:Nat) (nx os:List Pr3):Prop where
 r:H Dr=some (.lst (ds.map V.ref))
 l:H Dl=some (.lst (es.map V.ref))
 dl:ds.length=(M.ldp (prs nx) (prs os) m).length
 el:es.length=(M.lkp (prs nx) (prs os) m).length
 da:∀ (j:Nat) (d k:Nat),ds[j]? =some d→(M.ldp (prs nx) (prs os) m)[j]? =some k→H d=some (.lst ((M.upk m (2 ^ k) nx.length).map nat))
 ea:∀ (j:Nat) (e k:Nat),es[j]? =some e→(M.lkp (prs nx) (prs os) m)[j]? =some k→H e=some (.tup [nat (k / os.length),nat (k % os.length)])
end Sx
namespace M
theorem JC:∀ {a b:List Nat},a.Pairwise (· < ·)→b.Pairwise (· < ·)→(∀ x,x∈a↔x∈b)→a=b
 | [],[],_,_,_=>rfl
 | [],y::b,_,_,h=>absurd ((h y).mpr List.mem_cons_self) (by simp)
 | x::a,[],_,_,h=>absurd ((h x).mp List.mem_cons_self) (by simp)
 | x::a,y::b,ha,hb,h=>by
   have pa:=List.pairwise_cons.mp ha
   have pb:=List.pairwise_cons.mp hb
   have e:x=y:=by
    rcases List.mem_cons.mp ((h x).mp List.mem_cons_self) with e | e
    ·exact e
    ·rcases List.mem_cons.mp ((h y).mpr List.mem_cons_self) with e2 | e2
     ·exact e2.symm
     ·have h1:=pb.1 x e
      have h2:=pa.1 y e2
      omega
   subst e
   rw [JC pa.2 pb.2 fun z=>⟨fun hz=>?_,fun hz=>?_⟩]
   ·rcases List.mem_cons.mp ((h z).mp (List.mem_cons_of_mem _ hz)) with e | e
    ·have:=pa.1 z hz;omega
    ·exact e
   ·rcases List.mem_cons.mp ((h z).mpr (List.mem_cons_of_mem _ hz)) with e | e
    ·have:=pb.1 z hz;omega
    ·exact e
noncomputable def nfr (rows:List Nat):List Nat:=(List.range rows.length).filter fun i=>tt (Span (rows.take i) (rows.getD i 0))
theorem Pk (rows:List Nat):(nfr rows).length + (fr rows).length=rows.length:=by
 have:∀ (l:List Nat) (p:Nat→Bool),(l.filter p).length + (l.filter fun i=> !p i).length=l.length:=fun l p=>by
  induction l with
  | nil=>rfl
  | cons a l ih=>cases h:p a<;>simp [h]<;>omega
 have:=this (List.range rows.length) fun i=>tt (Span (rows.take i) (rows.getD i 0))
 rw [List.length_range] at this
 exact this
theorem LP {x:Nat} (h:x≠0):x^^^2 ^ x.log2 < 2 ^ x.log2:=by
 apply Nat.lt_pow_two_of_testBit
 intro i hi
 rw [Nat.testBit_xor,Nat.testBit_two_pow]
 by_cases e:x.log2=i
 ·subst e;rw [d0 h];simp
 ·rw [Nat.testBit_lt_two_pow (Nat.lt_of_lt_of_le Nat.lt_log2_self (Nat.pow_le_pow_right (by decide) (by omega)))];simp [e]
theorem NulF.row {nms rows:List Nat} (I:NulF nms rows) {x:Nat} (hx:x∈nms):sm rows (x^^^2 ^ x.log2)=rows.getD x.log2 0:=by
 rw [sm_xor,I.sm x hx,Nat.zero_xor,i8]
theorem NulF.log {nms rows:List Nat} (I:NulF nms rows):nms.map Nat.log2=nfr rows:=by
 have nd:(nms.map Nat.log2).Pairwise (· < ·):=List.pairwise_map.mpr I.pw
 have rn:(nfr rows).Pairwise (· < ·):=List.Pairwise.filter _ List.pairwise_lt_range
 have sub:∀ i∈nms.map Nat.log2,i∈nfr rows:=fun i hi=>by
  obtain ⟨x,hx,rfl⟩:=List.mem_map.mp hi
  have h0:=I.nz x hx
  have hl:=log2_under h0 (I.lt x hx)
  refine List.mem_filter.mpr ⟨List.mem_range.mpr hl,Nu ?_⟩
  rw [← I.row hx]
  have e:sm rows (x^^^2 ^ x.log2)=sm (rows.take x.log2) (x^^^2 ^ x.log2):=by
   have h1:=nF (rows.take x.log2) (rows.drop x.log2) (x^^^2 ^ x.log2)
   rw [List.take_append_drop,List.length_take,Nat.min_eq_left (by omega),Nat.div_eq_of_lt (LP h0),sm_zero,Nat.xor_zero] at h1
   exact h1
  rw [e];exact sm_span _ _
 have len:(nfr rows).length=(nms.map Nat.log2).length:=by have:=Pk rows;have:=I.len;rw [List.length_map];omega
 refine JC nd rn fun i=>⟨sub i,fun hi=>Classical.byContradiction fun hn=>?_⟩
 have:=kK (i::nms.map Nat.log2) (nfr rows) (List.nodup_cons.mpr ⟨hn,nd.imp fun h=>Nat.ne_of_lt h⟩) (fun x hx=>(List.mem_cons.mp hx).elim (fun e=>by rw [e];exact hi) (sub x))
 rw [List.length_cons] at this
 omega
theorem NulF.uniq {a b rows:List Nat} (A:NulF a rows) (B:NulF b rows):a=b:=by
 have e:=A.log.trans B.log.symm
 have el:a.length=b.length:=by have:=congrArg List.length e;rwa [List.length_map,List.length_map] at this
 refine List.ext_getElem el fun i h1 h2=>?_
 have hl:(a[i]).log2=(b[i]).log2:=by
  have e1:(a.map Nat.log2)[i]? =some (a[i]).log2:=by rw [List.getElem?_map,List.getElem?_eq_getElem h1];rfl
  have e2:(b.map Nat.log2)[i]? =some (b[i]).log2:=by rw [List.getElem?_map,List.getElem?_eq_getElem h2];rfl
  rw [e,e2] at e1
  exact (Option.some.inj e1).symm
 have ha:=List.getElem_mem h1
 have hb:=List.getElem_mem h2
 have:=sum_uniq (A.frs _ ha) (B.frs _ hb) (by rw [A.row ha,B.row hb,hl])
 rw [hl] at this
 have:=congrArg (·^^^2 ^ (b[i]).log2) this
 simpa [Nat.xor_assoc] using this
theorem NulF.kern {nms rows:List Nat} (A:NulF nms rows):Kern rows nms:=by
 obtain ⟨n2,I,hs⟩:=Ru rows
 have k2:Kern rows n2:=⟨jm _ I.nz I.pw,I.lt,I.sm,hs⟩
 have i1:Inj nms:=jm _ A.nz A.pw
 refine ⟨i1,A.lt,A.sm,fun z hz e=>Jf i1 k2.inj ?_ (fun x hx=>(k2.span x).mpr ⟨span_lt A.lt hx,iz (P:=fun z=>M.sm rows z=0) (sm_zero rows) (fun a b ha hb=>by rw [sm_xor,ha,hb];rfl) A.sm hx⟩) (hs z hz e)⟩
 have:=k2.len;have:=A.len;omega
end M
namespace Sx
open PySem L2
noncomputable def LV:Sp:=fun vs H Q _=>∃ (r:Addr) (rows:List Nat),vs=[.ref r]∧H r=some (.lst (rows.map nat))∧rows.length≤1000∧
 ∀ (D:Addr) (H2:Hp) (ps:List (Addr×Nat)),H D=none→Same H H2→H2 D=some (.lst (ps.map fun q=>V.ref q.1))→(∀ q∈ps,H2 q.1=some (.lst ((M.pl 1000 q.2).map nat)))→M.NulF (ps.map (·.2)) rows→Q (.ref D) H2
noncomputable def Mb (K:PySem.W.Frag) (B:Addr):Sp:=fun vs H Q E=>∃ (y:V) (wd:Nat) (o:Option (List V)),vs=[y,nat wd]∧wd≤60∧xH K H y o∧(ph wd 40 o=true→∀ H2,Same H H2→Q .non H2)∧(ph wd 40 o=false→∀ H2,Same H H2→E (.ref B) none H2)
noncomputable def LkA (H:Hp) (D:Addr) (ou:Nat) (l:List Nat):Prop:=∃ qs:List Pr3,H D=some (.lst (refs qs))∧Prt H qs∧prs qs=l.map fun p=>(p / ou,p % ou)
theorem LkA.same {H H2:Hp} {D:Addr} {ou:Nat} {l:List Nat} (x:LkA H D ou l) (s:Same H H2):LkA H2 D ou l:=by
 obtain ⟨qs,h1,h2,h3⟩:=x
 exact ⟨qs,s.get h1,h2.same s,h3⟩
noncomputable def LY:Sp:=fun vs H Q _=>∃ (mk ou:Nat),vs=[nat mk,nat ou]∧mk < 2 ^ 1000∧0 < ou∧ou≤1000∧∀ (D:Addr) (H2:Hp),H D=none→Same H H2→LkA H2 D ou (M.pl 1000 mk)→Q (.ref D) H2
noncomputable abbrev wsh (nx os:List Pr3) (rs an:List Nat):Nat:=M.pkw os.length an^^^M.pkw os.length (M.wan (prs nx) (prs os) 0 rs)
noncomputable def Fts (H:Hp) (t D:Addr) (nx os:List Pr3) (rs an:List Nat):Prop:=
 (∃ (q:Nat) (nms:List Nat),H t=some (.tup [.str "fit",nat q,.ref D])∧H D=some (.lst (nms.map nat))∧Sumd (M.adl (prs nx) (prs os) rs.length) (wsh nx os rs an) q∧M.NulF nms (M.adl (prs nx) (prs os) rs.length))∨
 ∃ mk:Nat,H t=some (.tup [.str "unfit",.ref D])∧LkA H D os.length (M.pl 1000 mk)∧Bard (M.adl (prs nx) (prs os) rs.length) (wsh nx os rs an) mk
theorem Fts.same {H H2:Hp} {t D:Addr} {nx os:List Pr3} {rs an:List Nat} (x:Fts H t D nx os rs an) (s:Same H H2):Fts H2 t D nx os rs an:=
 x.imp (fun ⟨q,nms,h1,h2,h3⟩=>⟨q,nms,s.get h1,s.get h2,h3⟩) fun ⟨mk,h1,h2,h3⟩=>⟨mk,s.get h1,h2.same s,h3⟩
noncomputable def eqlB:Option (List V)→Option (List V)→Bool
 | some xs,some ys=>decide (xs.length=ys.length)
 | _,_=>false
noncomputable def Jn (K:PySem.W.Frag) (C B:Addr):Sp:=fun vs H Q E=>∃ (p:Addr) (m:Nat) (nx os:List Pr3) (y z:V) (o1 o2:Option (List V)),vs=[.ref p,y,z]∧MaA H C p m nx os∧MaG m nx os∧nx.length≤60∧xH K H y o1∧xH K H z o2∧(∀ xs,o2=some xs→∃ r,z= .ref r∧H r=some (.lst xs))∧
 (∀ rs an:List Nat,o1=some (rs.map nat)→o2=some (an.map nat)→rs.length≤40→(∀ r∈rs,r < 2 ^ m)→an.length=rs.length→(∀ r∈an,r < 2 ^ os.length)→∀ (t D:Addr) (H2:Hp),H D=none→Same H H2→Fts H2 t D nx os rs an→Q (.ref t) H2)∧
 ((ph m 40 o1&&ph os.length 40 o2&&eqlB o1 o2)=false→∀ H2,Same H H2→E (.ref B) none H2)
noncomputable def L7 (K:PySem.W.Frag):Sp:=fun vs H Q _=>∃ (t n o:Addr) (m:Nat) (nx os:List Pr3) (T u:Nat),vs=[.ref t,nat T,nat u]∧TabT H t n o m nx os∧T≤100∧u < os.length∧∀ H2,Same H H2→Q (nat (M.bkI (nA nx) ((prs os).getD u (0,0)).1 T)) H2
noncomputable def Ox (K:PySem.W.Frag):Sp:=fun vs H Q _=>∃ (t n o:Addr) (m:Nat) (nx os:List Pr3) (T:Nat),vs=[.ref t,nat T]∧TabT H t n o m nx os∧T≤100∧∀ (D:Addr) (H2:Hp),H D=none→Same H H2→H2 D=some (.lst ((M.aml (prs nx) (prs os) T).map nat))→Q (.ref D) H2
structure L54 (K:PySem.W.Frag) (H:Hp) (t n o rr ra:Addr) (m:Nat) (nx os:List Pr3) (rs an:List Nat):Prop where
 tt:TabT H t n o m nx os
 er:H rr=some (.lst (rs.map nat))
 ea:H ra=some (.lst (an.map nat))
 lr:rs.length≤40
 br:∀ r∈rs,r < 2 ^ m
 la:an.length=rs.length
 ba:∀ r∈an,r < 2 ^ os.length
 ln:nx.length≤16
theorem L54.same {K:PySem.W.Frag} {H H2:Hp} {t n o rr ra:Addr} {m:Nat} {nx os:List Pr3} {rs an:List Nat} (x:L54 K H t n o rr ra m nx os rs an) (s:Same H H2):L54 K H2 t n o rr ra m nx os rs an:=⟨x.tt.same s,s.get x.er,s.get x.ea,x.lr,x.br,x.la,x.ba,x.ln⟩
noncomputable def Dj (K:PySem.W.Frag):Sp:=fun vs H Q _=>∃ (f D t n o rr ra:Addr) (m:Nat) (nx os:List Pr3) (rs an:List Nat),vs=[.ref f,.ref t,.ref rr,.ref ra]∧L54 K H t n o rr ra m nx os rs an∧Fts H f D nx os rs an∧∀ H2,Same H H2→Q (.bl true) H2
noncomputable def Jl (K:PySem.W.Frag):Sp:=fun vs H Q _=>∃ (f D t n o rr ra:Addr) (m:Nat) (nx os:List Pr3) (rs an:List Nat) (q:Nat) (nms:List Nat),vs=[.ref f,.ref t,.ref rr,.ref ra]∧L54 K H t n o rr ra m nx os rs an∧H f=some (.tup [.str "fit",nat q,.ref D])∧H D=some (.lst (nms.map nat))∧Sumd (M.adl (prs nx) (prs os) rs.length) (wsh nx os rs an) q∧M.NulF nms (M.adl (prs nx) (prs os) rs.length)∧∀ H2,Same H H2→Q (.bl true) H2
noncomputable def Di (K:PySem.W.Frag):Sp:=fun vs H Q _=>∃ (f D t n o rr ra:Addr) (m:Nat) (nx os:List Pr3) (rs an:List Nat) (mk:Nat),vs=[.ref f,.ref t,.ref rr,.ref ra]∧L54 K H t n o rr ra m nx os rs an∧H f=some (.tup [.str "unfit",.ref D])∧LkA H D os.length (M.pl 1000 mk)∧Bard (M.adl (prs nx) (prs os) rs.length) (wsh nx os rs an) mk∧∀ H2,Same H H2→Q (.bl true) H2
noncomputable def Jj (K:PySem.W.Frag) (C:Addr):Sp:=fun vs H Q _=>∃ (p:Addr) (m:Nat) (nx os:List Pr3) (y z:V) (o1 o2:Option (List V)),vs=[.ref p,y,z]∧MaA H C p m nx os∧MaG m nx os∧nx.length≤60∧xH K H y o1∧xH K H z o2∧(∀ xs,o2=some xs→∃ r,z= .ref r∧H r=some (.lst xs))∧(ph m 40 o1&&ph os.length 40 o2&&eqlB o1 o2)=false∧∀ H2,Same H H2→Q (.bl true) H2
noncomputable def Az (K:PySem.W.Frag):Sp:=fun vs H Q _=>∃ (r:Addr) (an:List Nat) (c:Int) (ou:Nat),vs=[.ref r,.int c,nat ou]∧H r=some (.lst (an.map nat))∧an≠[]∧an.length≤60∧0 < ou∧ou≤60∧(∀ x∈an,x < 2 ^ ou)∧∀ (D:Addr) (H2:Hp) (bn:List Nat),H D=none→Same H H2→H2 D=some (.lst (bn.map nat))→bn.length=an.length→(∀ x∈bn,x < 2 ^ ou)→Q (.ref D) H2
theorem JO {a b:List Pr3} (h:prs a=prs b):a.map wm=b.map wm:=by
 have:∀ l:List Pr3,l.map wm=(prs l).map fun q=>wm (0,q):=fun l=>by rw [List.map_map];rfl
 rw [this a,this b,h]
theorem mX:∀ l:List Pr3,jM (l.map wm)≤1
 | []=>by decide
 | q::l=>by
   have:=mX l
   rw [List.map_cons,jM]
   have h1:depD (wm q)=1:=rfl
   rw [h1];omega
theorem Fts.rep1 {K:PySem.W.Frag} {H:Hp} {t D:Addr} {nx os:List Pr3} {rs an:List Nat} (x:Fts H t D nx os rs an):∃ d,Rep K H (.ref t) d∧depD d≤100∧eqD d (.tup [])=false:=by
 rcases x with ⟨q,nms,h1,h2,_⟩ | ⟨mk,h1,⟨qs,h2,h3,_⟩,_⟩
 ·refine ⟨_,JD h1 (.str _) (.int _) (dZ h2),?_,rfl⟩
  have:=iG nms
  simp only [depD,jM];omega
 ·refine ⟨_,JE h1 (.str _) (nK h2 h3),?_,rfl⟩
  have:=mX qs
  simp only [depD,jM];omega
theorem Fts.rep2 {K:PySem.W.Frag} {H:Hp} {t D t2 D2:Addr} {nx os:List Pr3} {rs an:List Nat} (hlt:∀ r∈M.adl (prs nx) (prs os) rs.length,r < 2 ^ 1000) (x:Fts H t D nx os rs an) (y:Fts H t2 D2 nx os rs an):∃ d,Rep K H (.ref t) d∧Rep K H (.ref t2) d∧depD d≤100:=by
 rcases x with ⟨q,nms,h1,h2,sd,nf⟩ | ⟨mk,h1,⟨qs,h2,h3,h4⟩,bd⟩<;>rcases y with ⟨q',nms',h1',h2',sd',nf'⟩ | ⟨mk',h1',⟨qs',h2',h3',h4'⟩,bd'⟩
 ·obtain rfl:=sd.uniq sd'
  obtain rfl:=nf.uniq nf'
  refine ⟨_,JD h1 (.str _) (.int _) (dZ h2),JD h1' (.str _) (.int _) (dZ h2'),?_⟩
  have:=iG nms
  simp only [depD,jM];omega
 ·exact False.elim (sd.not bd')
 ·exact False.elim (sd'.not bd)
 ·obtain rfl:=bd.uniq hlt bd'
  have r2:=JE h1' (.str _) (nK h2' h3') (K:=K)
  rw [← JO (h4.trans h4'.symm)] at r2
  refine ⟨_,JE h1 (.str _) (nK h2 h3),r2,?_⟩
  have:=mX qs
  simp only [depD,jM];omega
noncomputable def Bd54 (K:PySem.W.Frag) (m w:Nat) (H:Hp) (a:Addr):Prop:=∃ (y z:V) (o1 o2:Option (List V)),H a=some (.tup [y,z])∧xH K H y o1∧xH K H z o2∧(∀ xs,o2=some xs→∃ r,z= .ref r∧H r=some (.lst xs))∧(ph m 40 o1&&ph w 40 o2&&eqlB o1 o2)=false
theorem Bd54.same {K:PySem.W.Frag} {m w:Nat} {H H2:Hp} {a:Addr} (x:Bd54 K m w H a) (s:Same H H2):Bd54 K m w H2 a:=by
 obtain ⟨y,z,o1,o2,h1,h2,h3,h4,h5⟩:=x
 exact ⟨y,z,o1,o2,s.get h1,h2.same s,h3.same s,fun xs e=>let ⟨r,e1,e2⟩:=h4 xs e;⟨r,e1,s.get e2⟩,h5⟩
theorem qH {K:PySem.W.Frag} {m w:Nat} {H:Hp} {a b d:Addr} {xs ys:List V} (e:H a=some (.tup [.ref b,.ref d])) (e1:H b=some (.lst xs)) (e2:H d=some (.lst ys)) (k1:dW K H xs) (k2:dW K H ys) (h:(∃ x∈xs,dM x m=false)∨(∃ y∈ys,dM y w=false)∨40 < xs.length∨xs.length≠ys.length):Bd54 K m w H a:=by
 refine ⟨.ref b,.ref d,some xs,some ys,e,⟨b,rfl,SqL.of e1,k1⟩,⟨d,rfl,SqL.of e2,k2⟩,fun zs ez=>⟨d,rfl,by cases ez;exact e2⟩,?_⟩
 have al:∀ {l:List V} {n:Nat},(∃ x∈l,dM x n=false)→ph n 40 (some l)=false:=fun {l n} ⟨x,hx,hm⟩=>by
  show (decide (l.length≤40)&&l.all fun x=>dM x n)=false
  have:(l.all fun x=>dM x n)=false:=by
   rw [List.all_eq_false]
   exact ⟨x,hx,by rw [hm];decide⟩
  rw [this,Bool.and_false]
 rcases h with h | h | h | h
 ·rw [al h];rfl
 ·rw [al h,Bool.and_false];rfl
 ·have:ph m 40 (some xs)=false:=by show (decide (xs.length≤40)&&_)=false;rw [decide_eq_false (by omega),Bool.false_and]
  rw [this];rfl
 ·have:eqlB (some xs) (some ys)=false:=decide_eq_false h
  rw [this,Bool.and_false]
end Sx
namespace My
open PySem L2 Sx
local macro_rules | `(tactic| walk_at "o") =>`(tactic| first | exact Or.inl rfl | exact Or.inr rfl)
local macro_rules | `(tactic| walk_at "s") =>`(tactic| exact ⟨rfl,rfl,rfl,by decide +kernel,rfl,by decide +kernel,by decide +kernel⟩)
local macro_rules | `(tactic| walk_at "l2side") =>`(tactic| first | assumption | rfl | omega | decide | ((try dsimp only [CDiv,Td,CPow,CMul]);first | omega | decide | (refine ⟨?_,?_⟩<;>first | omega | decide) | (refine ⟨?_,?_,?_⟩<;>first | omega | decide) | (left;refine ⟨?_,?_⟩<;>first | omega | decide) | (right;refine ⟨?_,?_⟩<;>first | omega | decide)))
local macro_rules | `(tactic| walk_at "l2len") =>`(tactic| ((with_reducible show _ + _≤sizeLine);first | assumption | (rw [sizeLine_eq];omega) | omega))
local macro_rules | `(tactic| walk_at "l2at") =>`(tactic| first | assumption | exact bo | (refine' Same.get (by assumption) ?h;(case h=>walk_at "l2at")))
local macro_rules | `(tactic| walk_at "l2hp") =>`(tactic| first | walk_at "l2at")
local macro_rules | `(tactic| walk_at "l2hp") =>`(tactic| first | (refine' Same.tup (by assumption) ?h;(case h=>walk_at "l2hp")) | (refine' Rep.same (by assumption) ?h;(case h=>walk_at "l2hp")))
local macro_rules | `(tactic| walk_at "l2hp") =>`(tactic| first | assumption | (refine' SqL.of ?h;(case h=>walk_at "l2at")) | (refine' SqT.of ?h;(case h=>walk_at "l2at")) | (refine' Same.seq (by assumption) ?h;(case h=>walk_at "l2hp")))
local macro_rules | `(tactic| walk_at "l2kind") =>`(tactic| first | assumption | exact rfl | (refine' Or.inl ⟨rfl,_,?e⟩;(case e=>walk_at "l2hp")) | (refine' Or.inr (Or.inl ⟨rfl,_,?e⟩);(case e=>walk_at "l2hp")) | (refine' Or.inr (Or.inr ⟨rfl,_,Or.inl ?e⟩);(case e=>walk_at "l2hp")))
local macro_rules | `(tactic| walk_at "l2step") =>`(tactic| first | ((with_reducible refine' s_go ?e ?_);(case e=>assumption)))
local macro_rules | `(tactic| walk_at "l2step") =>`(tactic| first | (with_reducible refine ⟨_,rfl,?_⟩) | (with_reducible refine ⟨rfl,?_⟩) | ((with_reducible refine' ⟨⟨_,?e⟩,?_⟩);(case e=>walk_at "l2hp")))
local macro_rules | `(tactic| walk_at "l2step") =>`(tactic| first | (with_reducible refine ⟨_,_,rfl,rfl,?_⟩;(with_reducible refine ⟨?l,?_⟩);(case l=>walk_at "l2len")) | (with_reducible refine ⟨_,_,rfl,rfl,?_⟩) | (with_reducible refine Or.inl ⟨_,rfl,?_⟩) | (with_reducible refine Or.inr ⟨_,rfl,?_⟩))
local macro_rules | `(tactic| walk_at "l2step") =>`(tactic| first | (with_reducible refine QX ?_) | ((with_reducible refine' Dz ?e ?_);(case e=>first | rfl | decide | assumption)) | ((with_reducible refine' tQ ?e ?_);(case e=>first | rfl | decide | assumption)) | ((with_reducible refine' Mh ?a ?b ?_);(case a=>omega);(case b=>omega)))
local macro_rules | `(tactic| walk_at "l2step") =>`(tactic| first | (with_reducible refine OQ ?_) | (with_reducible refine s_intB ?_) | (with_reducible refine s_inS ?_) | ((with_reducible refine' s_addS ?e ?_);(case e=>walk_at "l2side")))
local macro_rules | `(tactic| walk_at "l2step") =>`(tactic| first | (with_reducible refine QT ?_) | (with_reducible refine SV ?_) | (with_reducible refine SF ?_) | (with_reducible refine QC ?_))
local macro_rules | `(tactic| walk_at "l2step") =>`(tactic| first | ((with_reducible refine' QN ?e ?_);(case e=>walk_at "l2hp")) | ((with_reducible refine' QM ?e ?_);(case e=>walk_at "l2hp")) | ((with_reducible refine' s_lenS ?e ?_);(case e=>walk_at "l2side")) | ((with_reducible refine' SU ?e ?m ?_);(case e=>walk_at "l2kind");(case m=>decide)))
local macro_rules | `(tactic| walk_at "l2step") =>`(tactic| first | ((with_reducible refine' Mf ?e ?a ?_);(case e=>walk_at "l2hp");(case a=>first | assumption | rfl)) | ((with_reducible refine' SS ?e ?a ?_);(case e=>walk_at "l2hp");(case a=>first | assumption | rfl)) | ((with_reducible refine' s_ty ?e ?_);(case e=>first | exact rfl | (refine' Or.inl ⟨rfl,_,?f⟩;(case f=>walk_at "l2hp")) | (refine' Or.inr (Or.inr (Or.inl ⟨rfl,Or.inl ⟨_,?f⟩⟩));(case f=>walk_at "l2hp")))) | (with_reducible refine QY ?_))
local macro_rules | `(tactic| walk_at "l2step") =>`(tactic| first | ((with_reducible refine' QI ?l ?_);(case l=>exact Kh (Nat.le_of_ble_eq_true rfl))) | ((with_reducible refine' QH ?l ?_);(case l=>exact Kh (Nat.le_of_ble_eq_true rfl))) | ((with_reducible refine' s_slL ?e ?_);(case e=>walk_at "l2hp")) | ((with_reducible refine' s_slS ?e ?_);(case e=>walk_at "l2side")))
local macro_rules | `(tactic| walk_at "l2step") =>`(tactic| first | (with_reducible refine QQ ?_) | ((with_reducible refine' QO ?e ?l ?_);(case e=>walk_at "l2hp");(case l=>rfl)) | (with_reducible refine SH ?_) | (with_reducible refine SR ?_))
local macro_rules | `(tactic| walk_at "l2step") =>`(tactic| first | ((with_reducible refine' SM ?e ?_);(case e=>rfl)) | (with_reducible refine s_leS ?_) | ((with_reducible refine' OO ?e ?_);(case e=>repeat constructor)) | (with_reducible refine OP ?_))
local macro_rules | `(tactic| walk_at "l2step") =>`(tactic| first | (with_reducible refine SN ?_) | ((with_reducible refine' s_rI ?e ?_);(case e=>walk_at "l2side")) | (with_reducible refine s_rU ?_) | ((with_reducible refine' SO ?e ?_);(case e=>rfl)))
local macro_rules | `(tactic| walk_at "l2step") =>`(tactic| first | ((with_reducible refine QF ?_);intro _ _) | (with_reducible refine QG ?_) | ((with_reducible refine' SG ?e ?_);(case e=>repeat constructor)) | (with_reducible refine OU ?_))
local macro_rules | `(tactic| walk_at "l2") =>`(tactic| repeat walk_at "l2step")
local macro_rules | `(tactic| walk_at "l2step") =>`(tactic| first | ((with_reducible refine' s_tupT ?e ?_);(case e=>walk_at "l2hp")))
local macro_rules | `(tactic| walk_at "l2step") =>`(tactic| first | ((with_reducible refine' OL ?e ?_);(case e=>walk_at "l2hp")) | ((with_reducible refine' s_listT ?e ?_);(case e=>walk_at "l2hp")) | ((with_reducible refine' QB ?e ?_);(case e=>walk_at "l2hp")))
local macro_rules | `(tactic| walk_at "l2step") =>`(tactic| first | (with_reducible refine QJ ?_) | (with_reducible refine QS ?_) | (with_reducible refine QW ?_) | (with_reducible refine OM ?_))
local macro_rules | `(tactic| walk_at "l2step") =>`(tactic| first | (with_reducible refine Md ?_) | (with_reducible refine SW ?_) | (with_reducible refine QK ?_) | (with_reducible refine Me ?_))
local macro_rules | `(tactic| walk_at "l2step") =>`(tactic| first | (with_reducible refine SX ?_) | (with_reducible refine s_dnot ?_) | (with_reducible refine s_disp1I ?_) | ((with_reducible refine' s_listD ?e ?_);(case e=>walk_at "l2at")))
local macro_rules | `(tactic| walk_at "l2step") =>`(tactic| first | (with_reducible refine OI ?_) | (with_reducible refine s_try0 ?_) | (with_reducible refine OT ?_))
noncomputable def top (i:Nat):Stmt:=PySem.Challenge.pw_sumwires_k54_states_that_fit.main.body.getD i (.Pass ⟨0,0,0,0⟩)
noncomputable abbrev g0:Stmt:=top 7
theorem Dx:aC ["thing"] ["thing"] (ah g0):=by walk_at "s"
noncomputable abbrev je:Stmt:=top 8
theorem GF:aC ["thing","width"] ["thing","width"] (ah je):=by walk_at "s"
noncomputable abbrev xS:Stmt:=top 9
theorem tL:aC ["number","width","half"] ["number"] (ah xS):=by walk_at "s"
noncomputable abbrev g8:Stmt:=top 10
theorem GG:aC ["mask"] ["mask"] (ah g8):=by walk_at "s"
noncomputable abbrev jc:Stmt:=top 11
theorem lI:aC ["places","mask","place"] ["places"] (ah jc):=by walk_at "s"
noncomputable abbrev lJ:Stmt:=top 12
theorem kG:aC ["masks","width","whole","place","mask"] ["masks","width"] (ah lJ):=by walk_at "s"
noncomputable abbrev cf:Stmt:=il (top 14) 0
theorem fB:aC ["self","rows","place","row"] ["self","rows"] (ah cf):=by walk_at "s"
noncomputable abbrev cG:Stmt:=il (top 14) 1
theorem cW:aC ["self","mask","places","found"] ["self","mask"] (ah cG):=by walk_at "s"
noncomputable abbrev fJ:Stmt:=il (top 14) 2
theorem kH:aC ["self","place","row","found","places"] ["self","place","row"] (ah fJ):=by walk_at "s"
noncomputable abbrev cH:Stmt:=il (top 14) 3
theorem dY:aC ["self","bit","mask","top"] ["self","bit"] (ah cH):=by walk_at "s"
noncomputable abbrev ja:Stmt:=top 15
theorem o7:aC ["rows","wish","steps","found"] ["rows","wish"] (ah ja):=by walk_at "s"
noncomputable abbrev d8:Stmt:=top 16
theorem AH:aC ["rows"] ["rows"] (ah d8):=by walk_at "s"
noncomputable abbrev du:Stmt:=top 19
theorem yF:aC ["rows","width"] ["rows","width"] (ah du):=by walk_at "s"
noncomputable abbrev fC:Stmt:=top 20
theorem Dw:aC ["mask","outs"] ["mask","outs"] (ah fC):=by walk_at "s"
noncomputable abbrev qS:Stmt:=top 21
theorem o8:aC ["machine","rows","answers","outs","silent","added","wish","found"] ["machine","rows","answers"] (ah qS):=by walk_at "s"
noncomputable abbrev jd:Stmt:=top 26
theorem GE:aC ["thing","stores","inputs"] ["thing","stores","inputs"] (ah jd):=by walk_at "s"
noncomputable abbrev cO:Stmt:=top 27
theorem wb:aC ["inputs","nexts","outs"] ["inputs","nexts","outs"] (ah cO):=by walk_at "s"
noncomputable abbrev lL:Stmt:=top 28
theorem Jw:aC ["pair","state","row"] ["pair","state","row"] (ah lL):=by walk_at "s"
noncomputable abbrev dr:Stmt:=top 29
theorem yE:aC ["pairs","state","row"] ["pairs","state","row"] (ah dr):=by walk_at "s"
noncomputable abbrev bI:Stmt:=il (top 30) 0
theorem mI:aC ["self","inputs","nexts","outs"] ["self","inputs","nexts","outs"] (ah bI):=by walk_at "s"
noncomputable abbrev ck:Stmt:=il (top 30) 1
theorem o9:aC ["self"] ["self"] (ah ck):=by walk_at "s"
noncomputable abbrev bQ:Stmt:=il (top 30) 2
theorem nH:aC ["self"] ["self"] (ah bQ):=by walk_at "s"
noncomputable abbrev bh:Stmt:=il (top 30) 4
theorem kj:aC ["self","state"] ["self","state"] (ah bh):=by walk_at "s"
noncomputable abbrev c9:Stmt:=il (top 30) 5
theorem tO:aC ["self","state","row"] ["self","state","row"] (ah c9):=by walk_at "s"
noncomputable abbrev cj:Stmt:=il (top 30) 6
theorem cF:aC ["self","rows","state","answers","row","done"] ["self","rows","state"] (ah cj):=by walk_at "s"
noncomputable abbrev dI:Stmt:=il (top 30) 7
theorem wc:aC ["self","rows","state"] ["self","rows","state"] (ah dI):=by walk_at "s"
noncomputable abbrev fG:Stmt:=top 32
theorem AJ:aC ["_law_script","_law_k"] ["_law_script","_law_k"] (ah fG):=by walk_at "s"
noncomputable abbrev g6:Stmt:=top 33
theorem mH:aC ["_law_cell_here","_law_k","_law_number"] ["_law_cell_here","_law_k"] (ah g6):=by walk_at "s"
noncomputable abbrev eE:Stmt:=top 34
theorem eK:aC ["_law_cell_here","_law_start","_law_many","_law_width","_law_digits","_law_found","_law_left","_law_k"] ["_law_cell_here","_law_start","_law_many","_law_width","_law_digits"] (ah eE):=by walk_at "s"
noncomputable abbrev c5:Stmt:=top 35
theorem bT:aC ["_law_masks_here","_law_cell_here","_law_start","_law_way","_law_found","_law_k","_law_mask"] ["_law_masks_here","_law_cell_here","_law_start","_law_way"] (ah c5):=by walk_at "s"
noncomputable abbrev bA:Stmt:=top 36
theorem az:aC ["_law_script","_law_start","_law_most","_law_cell_here","_law_stores","_law_inputs","_law_outputs","_law_digits","_law_way","_law_one","_law_other","_law_shown","_law_straight"] ["_law_script","_law_start","_law_most"] (ah bA):=by walk_at "s"
noncomputable abbrev fE:Stmt:=top 37
theorem AI:aC ["_law_cell_here","_law_many","_law_width"] ["_law_cell_here","_law_many","_law_width"] (ah fE):=by walk_at "s"
noncomputable abbrev g5:Stmt:=top 38
theorem jF:aC ["_law_number","_law_many"] ["_law_number"] (ah g5):=by walk_at "s"
noncomputable abbrev fH:Stmt:=top 39
theorem gi:aC ["_law_pairs","_law_state","_law_row","_law_found","_law_k","_law_pair"] ["_law_pairs","_law_state","_law_row"] (ah fH):=by walk_at "s"
noncomputable abbrev fI:Stmt:=top 40
theorem dq:aC ["_law_nexts","_law_mask","_law_stores","_law_inputs","_law_k","_law_pair"] ["_law_nexts","_law_mask"] (ah fI):=by walk_at "s"
noncomputable abbrev c7:Stmt:=top 41
theorem tM:aC ["_law_thing","_law_width"] ["_law_thing","_law_width"] (ah c7):=by walk_at "s"
noncomputable abbrev cC:Stmt:=top 42
theorem tN:aC ["_law_found","_law_width"] ["_law_found","_law_width"] (ah cC):=by walk_at "s"
noncomputable abbrev c8:Stmt:=top 44
theorem eL:aC ["_law_tables","_law_state","_law_rows_here","_law_found","_law_row"] ["_law_tables","_law_state","_law_rows_here"] (ah c8):=by walk_at "s"
noncomputable abbrev cb:Stmt:=top 45
theorem dG:aC ["_law_tables","_law_turn","_law_output","_law_mask","_law_k"] ["_law_tables","_law_turn","_law_output"] (ah cb):=by walk_at "s"
noncomputable abbrev fF:Stmt:=top 46
theorem gh:aC ["_law_masks_here","_law_left","_law_mask","_law_one"] ["_law_masks_here"] (ah fF):=by walk_at "s"
noncomputable abbrev bt:Stmt:=top 47
theorem bP:aC ["_law_tables","_law_turns","_law_found","_law_masks_here","_law_k"] ["_law_tables","_law_turns"] (ah bt):=by walk_at "s"
noncomputable abbrev eF:Stmt:=top 48
theorem jG:aC ["_law_found","_law_tables","_law_rows_here","_law_answers_here","_law_state","_law_others","_law_other"] ["_law_found","_law_tables","_law_rows_here","_law_answers_here"] (ah eF):=by walk_at "s"
noncomputable abbrev eB:Stmt:=top 49
theorem cq:aC ["_law_found","_law_tables","_law_rows_here","_law_answers_here","_law_looks","_law_total","_law_odd_here","_law_plain","_law_look"] ["_law_found","_law_tables","_law_rows_here","_law_answers_here"] (ah eB):=by walk_at "s"
noncomputable abbrev eC:Stmt:=top 50
theorem yG:aC ["_law_found","_law_tables","_law_rows_here","_law_answers_here"] ["_law_found","_law_tables","_law_rows_here","_law_answers_here"] (ah eC):=by walk_at "s"
noncomputable abbrev c6:Stmt:=top 51
theorem eJ:aC ["_law_machine_here","_law_rows_here","_law_answers_here","_law_kinds","e"] ["_law_machine_here","_law_rows_here","_law_answers_here"] (ah c6):=by walk_at "s"
noncomputable abbrev dH:Stmt:=top 52
theorem fP:aC ["_law_answers_here","_law_cell_here","_law_outputs","_law_found","_law_k","_law_at"] ["_law_answers_here","_law_cell_here","_law_outputs"] (ah dH):=by walk_at "s"
noncomputable abbrev Dy:Stmt:=top 53
theorem i9:aC ["_law_script","_law_tables","_law_machine_here","_law_cell_here","_law_rows_here","_law_answers_here","_law_spoilt_here","_law_handed","_law_found","_law_again","_law_bad"] ["_law_script"] (ah Dy):=by walk_at "s"
set_option genInjectivity false in
set_option genSizeOf false in
structure Ad where
 cN:Addr
 ju:FuncData
 dB:Addr
 kR:FuncData
 oi:Addr
 K8:FuncData
 fc:Addr
 vx:FuncData
 eX:Addr
 vv:FuncData
 gU:Addr
 zR:FuncData
 aR:Addr
 gI:FuncData
 aZ:Addr
 iq:FuncData
 bX:Addr
 ni:FuncData
 a7:Addr
 ir:FuncData
 eW:Addr
 vt:FuncData
 cP:Addr
 mZ:FuncData
 cv:Addr
 kS:FuncData
 dN:Addr
 qm:FuncData
 oh:Addr
 K7:FuncData
 eZ:Addr
 vw:FuncData
 bN:Addr
 jN:FuncData
 gW:Addr
 zS:FuncData
 cu:Addr
 kQ:FuncData
 aH:Addr
 ff:FuncData
 aU:Addr
 gK:FuncData
 aM:Addr
 fN:FuncData
 aB:Addr
 dC:FuncData
 be:Addr
 iX:FuncData
 aT:Addr
 gJ:FuncData
 bq:Addr
 gX:FuncData
 jL:Value
 cS:Addr
 nc:FuncData
 dP:Addr
 qp:FuncData
 cy:Addr
 kW:FuncData
 bB:Addr
 iR:FuncData
 bD:Addr
 iT:FuncData
 cQ:Addr
 m8:FuncData
 dO:Addr
 qo:FuncData
 cT:Addr
 ng:FuncData
 cU:Addr
 nh:FuncData
 bE:Addr
 iU:FuncData
 bF:Addr
 iV:FuncData
 bG:Addr
 iW:FuncData
 bf:Addr
 gG:FuncData
 cR:Addr
 m9:FuncData
 bg:Addr
 gH:FuncData
 dQ:Addr
 qt:FuncData
 cw:Addr
 kT:FuncData
 cx:Addr
 kU:FuncData
 bC:Addr
 iS:FuncData
 bO:Addr
 jO:FuncData
 BU:Addr
 PV:FuncData
 aJ:Addr
 ao:Addr
 bb:Addr
 aD:Addr
 a9:Addr
 aN:Addr
 kF:Tok
 jE:Tok
 mF:Tok
 jD:Tok
open PySem.W in
structure Tx (K:Frag) (mg:Str→Option Value) (a:Ad):Prop where
 l0:Fun K "is_whole" "is_whole" g0 a.cN a.ju
 yd:keepIn K (.ref a.cN)=true
 lX:bj K a.ju ["thing"] []
 yf:mg "is_whole"=some (.ref a.cN)
 oP:Fun K "is_mask" "is_mask" je a.dB a.kR
 kO:keepIn K (.ref a.dB)=true
 iw:bj K a.kR ["thing","width"] []
 kP:mg "is_mask"=some (.ref a.dB)
 Ga:Fun K "even" "even" xS a.oi a.K8
 Kt:keepIn K (.ref a.oi)=true
 CI:bj K a.K8 ["number"] []
 KI:mg "even"=some (.ref a.oi)
 oQ:Fun K "bits_of" "bits_of" g8 a.fc a.vx
 uZ:keepIn K (.ref a.fc)=true
 lC:bj K a.vx ["mask"] []
 vd:mg "bits_of"=some (.ref a.fc)
 oN:Fun K "mask_of" "mask_of" jc a.eX a.vv
 uY:keepIn K (.ref a.eX)=true
 ly:bj K a.vv ["places"] []
 vc:mg "mask_of"=some (.ref a.eX)
 sZ:Fun K "packed" "packed" lJ a.gU a.zR
 zy:keepIn K (.ref a.gU)=true
 oF:bj K a.zR ["masks","width"] []
 zE:mg "packed"=some (.ref a.gU)
 d5:Fun K "__init__" "Steps.__init__" cf a.aR a.gI
 IE:keepIn K (.ref a.aR)=true
 d2:bj K a.gI ["self","rows"] []
 fi:Fun K "lowered" "Steps.lowered" cG a.aZ a.iq
 Ku:keepIn K (.ref a.aZ)=true
 fg:bj K a.iq ["self","mask"] []
 j1:Fun K "lay" "Steps.lay" fJ a.bX a.ni
 Pw:keepIn K (.ref a.bX)=true
 nu:bj K a.ni ["self","place","row"] []
 fj:Fun K "barring" "Steps.barring" cH a.a7 a.ir
 Kv:keepIn K (.ref a.a7)=true
 ix:bj K a.ir ["self","bit"] []
 oM:Fun K "sum_for" "sum_for" ja a.eW a.vt
 Kr:keepIn K (.ref a.eW)=true
 vM:bj K a.vt ["rows","wish"] []
 KG:mg "sum_for"=some (.ref a.eW)
 jV:Fun K "null_sums" "null_sums" d8 a.cP a.mZ
 Ew:keepIn K (.ref a.cP)=true
 nq:bj K a.mZ ["rows"] []
 EB:mg "null_sums"=some (.ref a.cP)
 iL:Fun K "check_list" "check_list" du a.cv a.kS
 rj:keepIn K (.ref a.cv)=true
 iJ:bj K a.kS ["rows","width"] []
 rm:mg "check_list"=some (.ref a.cv)
 lZ:Fun K "looks_of" "looks_of" fC a.dN a.qm
 Hu:keepIn K (.ref a.dN)=true
 qI:bj K a.qm ["mask","outs"] []
 Hz:mg "looks_of"=some (.ref a.dN)
 F9:Fun K "fits" "fits" qS a.oh a.K7
 FV:keepIn K (.ref a.oh)=true
 yr:bj K a.K7 ["machine","rows","answers"] []
 FZ:mg "fits"=some (.ref a.oh)
 oO:Fun K "is_pair" "is_pair" jd a.eZ a.vw
 Ks:keepIn K (.ref a.eZ)=true
 vN:bj K a.vw ["thing","stores","inputs"] []
 KH:mg "is_pair"=some (.ref a.eZ)
 gY:Fun K "check_table" "check_table" cO a.bN a.jN
 zz:keepIn K (.ref a.bN)=true
 jP:bj K a.jN ["inputs","nexts","outs"] []
 zF:mg "check_table"=some (.ref a.bN)
 tj:Fun K "is_odd" "is_odd" lL a.gW a.zS
 MR:keepIn K (.ref a.gW)=true
 z9:bj K a.zS ["pair","state","row"] []
 MZ:mg "is_odd"=some (.ref a.gW)
 iK:Fun K "odd_places" "odd_places" dr a.cu a.kQ
 rh:keepIn K (.ref a.cu)=true
 iI:bj K a.kQ ["pairs","state","row"] []
 rl:mg "odd_places"=some (.ref a.cu)
 dk:Fun K "__init__" "Machine.__init__" bI a.aH a.ff
 FW:keepIn K (.ref a.aH)=true
 fh:bj K a.ff ["self","inputs","nexts","outs"] []
 d7:Fun K "stores" "Machine.stores" ck a.aU a.gK
 IG:keepIn K (.ref a.aU)=true
 gO:bj K a.gK ["self"] []
 dR:Fun K "outputs" "Machine.outputs" bQ a.aM a.fN
 Hw:keepIn K (.ref a.aM)=true
 fO:bj K a.fN ["self"] []
 cB:Fun K "check_state" "Machine.check_state" bh a.aB a.dC
 BH:keepIn K (.ref a.aB)=true
 cA:bj K a.dC ["self","state"] []
 gf:Fun K "step" "Machine.step" c9 a.be a.iX
 LG:keepIn K (.ref a.be)=true
 i4:bj K a.iX ["self","state","row"] []
 d6:Fun K "walked" "Machine.walked" cj a.aT a.gJ
 IF:keepIn K (.ref a.aT)=true
 gN:bj K a.gJ ["self","rows","state"] []
 fk:FunD K "run" "Machine.run" dI a.bq a.gX a.jL
 j2:bj K a.gX ["self","rows","state"] [a.jL]
 yv:RelV (.int 0) a.jL
 MS:keepIn K (.ref a.bq)=true
 jU:bj K a.gX ["self","rows","state"] []
 jY:Fun K "_law_cell" "_law_cell" fG a.cS a.nc
 bU:keepIn K (.ref a.cS)=true
 bz:bj K a.nc ["_law_script","_law_k"] []
 bW:mg "_law_cell"=some (.ref a.cS)
 l8:Fun K "_law_mix" "_law_mix" g6 a.dP a.qp
 cK:keepIn K (.ref a.dP)=true
 bS:bj K a.qp ["_law_cell_here","_law_k"] []
 cM:mg "_law_mix"=some (.ref a.dP)
 iO:Fun K "_law_masks" "_law_masks" eE a.cy a.kW
 gv:keepIn K (.ref a.cy)=true
 dD:bj K a.kW ["_law_cell_here","_law_start","_law_many","_law_width","_law_digits"] []
 gw:mg "_law_masks"=some (.ref a.cy)
 fW:Fun K "_law_thinned" "_law_thinned" c5 a.bB a.iR
 w4:keepIn K (.ref a.bB)=true
 iY:bj K a.iR ["_law_masks_here","_law_cell_here","_law_start","_law_way"] []
 xa:mg "_law_thinned"=some (.ref a.bB)
 fY:Fun K "_law_machine" "_law_machine" bA a.bD a.iT
 w8:keepIn K (.ref a.bD)=true
 i0:bj K a.iT ["_law_script","_law_start","_law_most"] []
 xg:mg "_law_machine"=some (.ref a.bD)
 jW:Fun K "_law_rows" "_law_rows" fE a.cQ a.m8
 Ex:keepIn K (.ref a.cQ)=true
 nr:bj K a.m8 ["_law_cell_here","_law_many","_law_width"] []
 EC:mg "_law_rows"=some (.ref a.cQ)
 l6:Fun K "_law_odd" "_law_odd" g5 a.dO a.qo
 ye:keepIn K (.ref a.dO)=true
 lY:bj K a.qo ["_law_number"] []
 yg:mg "_law_odd"=some (.ref a.dO)
 jZ:Fun K "_law_bits" "_law_bits" fH a.cT a.ng
 u1:keepIn K (.ref a.cT)=true
 jS:bj K a.ng ["_law_pairs","_law_state","_law_row"] []
 vf:mg "_law_bits"=some (.ref a.cT)
 j0:Fun K "_law_back" "_law_back" fI a.cU a.nh
 va:keepIn K (.ref a.cU)=true
 jT:bj K a.nh ["_law_nexts","_law_mask"] []
 vg:mg "_law_back"=some (.ref a.cU)
 fZ:Fun K "_law_is_mask" "_law_is_mask" c7 a.bE a.iU
 fS:keepIn K (.ref a.bE)=true
 de:bj K a.iU ["_law_thing","_law_width"] []
 fU:mg "_law_is_mask"=some (.ref a.bE)
 gb:Fun K "_law_is_list" "_law_is_list" cC a.bF a.iV
 w9:keepIn K (.ref a.bF)=true
 i3:bj K a.iV ["_law_found","_law_width"] []
 xh:mg "_law_is_list"=some (.ref a.bF)
 gc:Fun K "_law_answers" "_law_answers" c8 a.bG a.iW
 fT:keepIn K (.ref a.bG)=true
 df:bj K a.iW ["_law_tables","_law_state","_law_rows_here"] []
 fV:mg "_law_answers"=some (.ref a.bG)
 d3:Fun K "_law_look_mask" "_law_look_mask" cb a.bf a.gG
 su:keepIn K (.ref a.bf)=true
 gL:bj K a.gG ["_law_tables","_law_turn","_law_output"] []
 sx:mg "_law_look_mask"=some (.ref a.bf)
 jX:Fun K "_law_rank" "_law_rank" fF a.cR a.m9
 u0:keepIn K (.ref a.cR)=true
 jR:bj K a.m9 ["_law_masks_here"] []
 ve:mg "_law_rank"=some (.ref a.cR)
 d4:Fun K "_law_all_masks" "_law_all_masks" bt a.bg a.gH
 sv:keepIn K (.ref a.bg)=true
 gM:bj K a.gH ["_law_tables","_law_turns"] []
 sy:mg "_law_all_masks"=some (.ref a.bg)
 l9:Fun K "_law_fit" "_law_fit" eF a.dQ a.qt
 Hv:keepIn K (.ref a.dQ)=true
 qJ:bj K a.qt ["_law_found","_law_tables","_law_rows_here","_law_answers_here"] []
 HA:mg "_law_fit"=some (.ref a.dQ)
 iM:Fun K "_law_unfit" "_law_unfit" eB a.cw a.kT
 BF:keepIn K (.ref a.cw)=true
 lD:bj K a.kT ["_law_found","_law_tables","_law_rows_here","_law_answers_here"] []
 BL:mg "_law_unfit"=some (.ref a.cw)
 iN:Fun K "_law_right" "_law_right" eC a.cx a.kU
 BG:keepIn K (.ref a.cx)=true
 lE:bj K a.kU ["_law_found","_law_tables","_law_rows_here","_law_answers_here"] []
 BM:mg "_law_right"=some (.ref a.cx)
 fX:Fun K "_law_refused" "_law_refused" c6 a.bC a.iS
 w6:keepIn K (.ref a.bC)=true
 iZ:bj K a.iS ["_law_machine_here","_law_rows_here","_law_answers_here"] []
 xc:mg "_law_refused"=some (.ref a.bC)
 gZ:Fun K "_law_spoilt" "_law_spoilt" dH a.bO a.jO
 zA:keepIn K (.ref a.bO)=true
 jQ:bj K a.jO ["_law_answers_here","_law_cell_here","_law_outputs"] []
 zG:mg "_law_spoilt"=some (.ref a.bO)
 Np:Fun K "law" "law" Dy a.BU a.PV
 Th:keepIn K (.ref a.BU)=true
 R5:bj K a.PV ["_law_script"] []
 Ti:mg "law"=some (.ref a.BU)
 KJ:mg "Steps"=some (.ref a.aJ)
 eh:Cls K a.aJ
 Tc:Sh K a.aJ
 Ly:Mk K a.aJ a.aR
 kL:Meth K a.aJ "lowered" a.aZ
 Eg:Meth K a.aJ "lay" a.bX
 uH:Meth K a.aJ "barring" a.a7
 dc:dS K a.aJ "by_top"
 ij:dS K a.aJ "free_places"
 LF:dS K a.aJ "inputs"
 MI:dS K a.aJ "nexts"
 eR:dS K a.aJ "null_masks"
 NU:dS K a.aJ "outs"
 KL:mg "Machine"=some (.ref a.ao)
 bu:Cls K a.ao
 Si:Sh K a.ao
 Lz:Mk K a.ao a.aH
 rZ:Meth K a.ao "stores" a.aU
 pZ:Meth K a.ao "outputs" a.aM
 gu:Meth K a.ao "check_state" a.aB
 wI:Meth K a.ao "step" a.be
 rY:Meth K a.ao "walked" a.aT
 nX:Meth K a.ao "run" a.bq
 ID:dS K a.ao "by_top"
 Bn:dS K a.ao "free_places"
 gE:dS K a.ao "inputs"
 eU:dS K a.ao "nexts"
 C4:dS K a.ao "null_masks"
 iQ:dS K a.ao "outs"
 ED:mg "WireError"=some (.ref a.bb)
 Ez:Aq K a.bb
 vh:mg "BadMask"=some (.ref a.aD)
 i5:excIn K a.aD [.type "ValueError",.type "Exception",.type "BaseException",.type "object"] "ValueError.__new__"=true
 Sj:XIsi K a.aD
 g9:mroIn K a.aD (.ref a.bb)=some true
 j9:kitOne K (.ref a.aD) (.ref a.aN)=some false
 jr:kitOne K (.ref a.aD) (.ref a.aD)=some true
 lU:mg "BadTable"=some (.ref a.a9)
 ek:excIn K a.a9 [.type "ValueError",.type "Exception",.type "BaseException",.type "object"] "ValueError.__new__"=true
 Qc:XIsi K a.a9
 gQ:mroIn K a.a9 (.ref a.bb)=some true
 jq:kitOne K (.ref a.a9) (.ref a.aN)=some false
 iC:kitOne K (.ref a.a9) (.ref a.aD)=some false
 sY:mg "BadRow"=some (.ref a.aN)
 jC:excIn K a.aN [.type "ValueError",.type "Exception",.type "BaseException",.type "object"] "ValueError.__new__"=true
 F6:XIsi K a.aN
 eN:mroIn K a.aN (.ref a.bb)=some true
 ip:kitOne K (.ref a.aN) (.ref a.aN)=some true
 gF:kitOne K (.ref a.aN) (.ref a.aD)=some false
 BN:mg "MOST_HEARD"=some (.int 40 a.kF)
 zI:mg "MOST_INPUTS"=some (.int 6 a.jE)
 EE:mg "MOST_OUTS"=some (.int 6 a.mF)
 zH:mg "MOST_STORES"=some (.int 120 a.jD)
 Rz:mg "all"=none
 NT:mg "bool"=none
 MH:mg "divmod"=none
 dz:mg "enumerate"=none
 Ry:mg "int"=none
 bc:mg "isinstance"=none
 eQ:mg "len"=none
 j8:mg "list"=none
 S3:mg "min"=none
 pX:mg "range"=none
 S2:mg "set"=none
 MG:mg "sorted"=none
 pW:mg "tuple"=none
 Rx:mg "zip"=none
section
variable {P:Program} {w:World} {K:PySem.W.Frag} {mg:Str→Option Value} {base:Heap} {a:Ad}
theorem uh (T:Tx K mg a):FnOk P w K mg base CX0 1 a.cN a.ju ["thing"] (sW K):=by
 refine T.l0.ok Dx (fun vs H Q E h=>?_) (fun cdv A outer s H vs Q E hr h=>?_)
 ·obtain ⟨x,k,rfl,_⟩:=h;rfl
 ·obtain ⟨x,k,rfl,hk,q⟩:=h
  refine ⟨_,((aj (aI (j3 (ax (c4 (K:=K) rfl) (by rfl) T.bc PyProof.Rows.boot_isinstance (aa (pv 0) (aa (gy (v:= .ty "int") (by rfl) T.Ry PyProof.Rows.boot_int rfl) ae))) (nN (NM (ax (c4 (K:=K) rfl) (by rfl) T.bc PyProof.Rows.boot_isinstance (aa (pv 0) (aa (gy (v:= .ty "bool") (by rfl) T.NT PyProof.Rows.boot_bool rfl) ae))))))))),aE (σ':=[some _]) rfl ?_⟩
  walk_at "l2"
  unfold IU at q
  cases hc:subB k "int"
  ·rw [hc] at q
   walk_at "l2"
   exact q
  ·rw [hc] at q
   walk_at "l2"
   exact q
local macro_rules | `(tactic| walk_at "l2step") =>`(tactic| ((with_reducible refine' qD ?e ?_);(case e=>walk_at "l2kind")))
theorem lP (T:Tx K mg a):FnOk P w K mg base CX0 2 a.dB a.kR ["thing","width"] (yx K):=by
 have G_is_whole:FnOk P w K mg base CX0 1 a.cN a.ju ["thing"] (sW K):=uh T
 refine T.oP.ok GF (fun vs H Q E h=>?_) (fun cdv A outer s H vs Q E hr h=>?_)
 ·obtain ⟨x,k,w,rfl,_⟩:=h;rfl
 ·obtain ⟨x,k,wd,rfl,hk,q⟩:=h
  refine ⟨_,((aj (aI (j3 (aq G_is_whole (hr.mono (by decide)) (by rfl) T.yf T.yd T.lX .nil aF (aa (pv 0) ae)) (j3 (dw Pb (pv 0) af (aL _)) (nN (dw Ro (kI (K:=K) rfl PySem.F.plainAttrs_int PySem.F.slot_int_bit_length PySem.F.type_int_bit_length mU (pv 0)) (pv 1) (aL _)))))))),aE (σ':=[some _,some _]) rfl ?_⟩
  walk_at "l2"
  cases x with
  | int i=>
    have hk:k="int":=hk
    subst hk
    walk_at "l2"
    have q:Q (.bl (decide (0≤i)&&decide (((Builtin.Int.intBits i:Nat):Int)≤wd))) H:=q
    cases hc:decide (0≤i)
    ·rw [hc] at q;walk_at "l2";exact q
    ·rw [hc] at q;walk_at "l2";exact q
  | bl b=>have hk:k="bool":=hk;subst hk;walk_at "l2";exact q
  | non=>have hk:k="NoneType":=hk;subst hk;walk_at "l2";exact q
  | str z=>have hk:k="str":=hk;subst hk;walk_at "l2";exact q
  | ref p=>
    rcases hk with ⟨rfl,_⟩ | ⟨rfl,_⟩ | ⟨rfl,_⟩<;>walk_at "l2"<;>exact q
  | _=>exact False.elim hk
local macro_rules | `(tactic| walk_at "l2step") =>`(tactic| ((with_reducible refine' yq ?e ?_);(case e=>walk_at "l2kind")))
theorem JV (T:Tx K mg a):FnOk P w K mg base CX0 1 a.oi a.K8 ["number"] Oy:=by
 refine T.Ga.ok tL (fun vs H Q E h=>?_) (fun cdv A outer s H vs Q E hr h=>?_)
 ·obtain ⟨m,rfl,_⟩:=h;rfl
 ·obtain ⟨m,rfl,hm,q⟩:=h
  refine ⟨_,((ai (au (i:=1) tL.nd rfl (by walk_at "o") (kI (K:=K) rfl PySem.F.plainAttrs_int PySem.F.slot_int_bit_length PySem.F.type_int_bit_length mU (pv 0)))
   (ai (yK PassesOwn.never (aP ug (pv 1) af (aL _)) (ai (au (i:=2) tL.nd rfl (by walk_at "o") (ar gD (ar cX (pv 1) af) af))
   (ai (au (i:=0) tL.nd rfl (by walk_at "o") (ar hX (ar FP (pv 0) (pv 2)) (ar ji (pv 0) (ar uf (ar gq af (pv 2)) af))))
   (aj (au (i:=1) tL.nd rfl (by walk_at "o") (pv 2))))))
   (aj (aI (dw jh (pv 0) af (aL _))))))),aE (σ':=[some _,none,none]) rfl ?_⟩
  walk_at "l2"
  refine ⟨fun μ σ' H'=>∃ n hf,σ'=[some (nat n),some (nat μ),hf]∧H'=H∧n < 2 ^ μ∧μ≤1000∧M.od n=M.od m,⟨Builtin.Int.intBits (m:Int),m,none,rfl,rfl,E5 m,E6 hm,rfl⟩,?_⟩
  rintro μ σ' H' ⟨n,hf,rfl,rfl,hn,hw,hp⟩
  walk_at "l2"
  refine iteB (fun hc=>?_) (fun hc=>?_)
  ·have hc:=of_decide_eq_true hc
   have hlt:(μ + 1) / 2 < μ:=by omega
   refine ⟨fun σ2 H2=>∃ n2 hf,σ2=[some (nat n2),some (nat ((μ + 1) / 2)),hf]∧H2=H'∧n2 < 2 ^ ((μ + 1) / 2)∧M.od n2=M.od m,fun σ2 H2 ⟨n2,hf2,e1,e2,e3,e4⟩=>⟨(μ + 1) / 2,hlt,n2,hf2,e1,e2,e3,by omega,e4⟩,?_⟩
   walk_at "l2"
   refine ⟨(n>>>((μ + 1) / 2))^^^(n&&&(2 ^ ((μ + 1) / 2) - 1)),some (nat ((μ + 1) / 2)),?_,rfl,M.fold_lt μ _ n hn (by omega),?_⟩
   ·rw [KD,KR]
   ·rw [← hp]
    have f:=M.pb_fold μ ((μ + 1) / 2) n (by omega) hn (by omega)
    show M.pb 1000 _=M.pb 1000 _
    rw [M.pb_up (M.fold_lt μ _ n hn (by omega)) (by omega),f,← M.pb_up hn hw]
  ·have hc:=of_decide_eq_false hc
   have hn2:n < 2:=Nat.lt_of_lt_of_le hn (Nat.pow_le_pow_right (by decide) (show μ≤1 by omega))
   walk_at "l2"
   rw [show decide (V.int (n:Int)=V.int 0)= !M.od n from MD hn2,hp]
   exact q
theorem rP (T:Tx K mg a):FnOk P w K mg base CX0 2 a.a7 a.ir ["self","bit"] (Qw a.aJ):=by
 have F8:=@JV P w K mg base a T
 refine T.fj.ok dY (fun vs H Q E h=>?_) (fun cdv A outer s H vs Q E hr h=>?_)
 ·obtain ⟨p,d,f,n,rows,b,rfl,_⟩:=h;rfl
 ·obtain ⟨p,d,f,n,rows,b,rfl,st,hb,hr1,h64,hnt,q⟩:=h
  have hu:=MV hr
  obtain ⟨dx,ho⟩:=st.ho
  obtain ⟨es,hd,ht,g,l⟩:=st.he
  have nd:(es.map fun e=>e.m.log2).Nodup:=by have:=g.nd;rw [List.map_map] at this;exact this
  refine ⟨_,((ai (au (i:=2) dY.nd rfl (by walk_at "o") (ar gq af (pv 1)))
   (ai (gj PassesOwn.never rfl (bJ (K:=K) rfl (ax (HU rfl) (by rfl) T.MG PyProof.Rows.boot_sorted (aa (eg (K:=K) rfl (pv 0) rfl) ae))) (aG (i:=3) dY.nd rfl (by walk_at "o")) (aj (cJ (dj (cI (aq F8 (hr.mono (by decide)) (by rfl) T.KI T.Kt T.CI .nil aF (aa (ar ji (pv 2) (aX (aw (K:=K) rfl) (JN hu (eg (K:=K) rfl (pv 0) rfl) (pv 3) (fun _ _=>rfl)) af (fun _ _=>rfl))) ae)))) (aj (au (i:=2) dY.nd rfl (by walk_at "o") (ar hX (pv 2) (ar gq af (pv 3))))) aQ)))
   (aj (aI (pv 2)))))),aE (σ':=[some _,some _,none,none]) rfl ?_⟩
  walk_at "l2"
  refine d9 ho T.eh T.dc rfl ?_
  walk_at "l2"
  refine OG hd (MQ es) (by unfold n6;rw [List.length_map];omega) fun L ns H1 f1 s1 e1 hp hw=>?_
  obtain ⟨ts,rfl,up,mem⟩:=Dh hp hw nd
  rw [← Pl] at e1
  walk_at "l2"
  rw [shl1]
  refine iD (xs:=ts.map nat) (fun i σ H'=>∃ (m:Nat) (v:Option V),σ=[some (.ref p),some (nat b),some (nat m),v]∧H'=H1∧M.BarI (es.map fun e=>(e.m,e.p)) (ts.take i) b m) ⟨2 ^ b,none,rfl,rfl,M.BarI.zero _ b⟩ (fun i σ H' _ ⟨_,_,_,e,_⟩=>by rw [e];exact SqL.of e1) ?_ ?_
  ·rintro i y σ H' hy ⟨m,v,rfl,rfl,I⟩
   obtain ⟨t,hti,rfl⟩:=bH hy
   obtain ⟨hi,eti⟩:=List.getElem?_eq_some_iff.mp hti
   rcases tu es (t:Int) with ⟨e,he,ez,ev⟩ | ⟨hno,_⟩
   ·have ez:e.m.log2=t:=by omega
    subst ez
    have hem:(e.m,e.p)∈es.map (fun e=>(e.m,e.p)):=List.mem_map.mpr ⟨e,he,rfl⟩
    have hm1:e.m < 2 ^ 1000:=M.span_lt hr1 (g.span hem)
    have ht1:e.m.log2 < 1000:=M.log2_under (g.nz _ hem) hm1
    have hte:=s1.get (ht e he)
    have hup:∀ t∈ts.take i,t < e.m.log2:=fun t hm=>by
     obtain ⟨j,hj,ej⟩:=List.mem_iff_getElem.mp hm
     rw [List.length_take] at hj
     rw [List.getElem_take] at ej
     have:=List.pairwise_iff_getElem.mp up j i (by omega) hi (by omega)
     rw [ej,eti] at this
     exact this
    have ntb:e.m.log2≠b:=hnt e.m (g.span hem) (g.nz _ hem)
    have nd':=g.nd
    walk_at "l2"
    refine d9 (s1.get ho) T.eh T.dc rfl ?_
    walk_at "l2"
    refine Jy (s1.get hd) ev ?_
    walk_at "l2"
    rw [bR]
    refine ⟨m&&&e.m,rfl,Nat.lt_of_le_of_lt Nat.and_le_right hm1,?_⟩
    cases hod:M.od (m&&&e.m) with
    | true=>
      walk_at "l2"
      refine ⟨m^^^2 ^ e.m.log2,some (nat e.m.log2),by rw [shl1,bw],rfl,?_⟩
      rw [take_succ hti]
      exact I.flip (e:=(e.m,e.p)) nd' g.nz hem hod hup ntb ht1
    | false=>
      walk_at "l2"
      rw [take_succ hti]
      exact I.keep (e:=(e.m,e.p)) nd' hem hod
   ·obtain ⟨e,he,ez⟩:=(mem t).mp (List.mem_of_getElem? hti)
    exact absurd (by rw [ez]) (hno e he)
  ·rintro σ H' ⟨m,v,rfl,rfl,I⟩
   rw [List.length_map,List.take_length] at I
   walk_at "l2"
   refine q m H' s1 (I.done g fun e he=>?_)
   obtain ⟨e',he',rfl⟩:=List.mem_map.mp he
   exact (mem _).mpr ⟨e',he',rfl⟩
theorem pF (T:Tx K mg a):FnOk P w K mg base CX0 1 a.fc a.vx ["mask"] OA:=by
 refine T.oQ.ok GG (fun vs H Q E h=>?_) (fun cdv A outer s H vs Q E hr h=>?_)
 ·obtain ⟨m,rfl,_⟩:=h;rfl
 ·obtain ⟨m,rfl,hm,q⟩:=h
  have hb:=E6 hm
  refine ⟨_,((aj (aI (hG (osc:=ah g8) (ON:=["mask"]) (N:=["place","mask"]) (n:=1) (fx:=[0]) rfl rfl rfl (by decide +kernel) (jg (by rfl) T.pX (aa (kI (K:=K) rfl PySem.F.plainAttrs_int PySem.F.slot_int_bit_length PySem.F.type_int_bit_length mU (pv 0)) ae)) (cL (by decide)) (fun _ _ _ _ _=>⟨(aG (i:=0) (show List.Nodup (["place","mask"]:List Str) from by decide +kernel) rfl (by walk_at "o")),(yJ (aP jh (ar ji (ar FP (pv 1) (pv 0)) af) af (aL _))),(pv 0)⟩))))),aE (σ':=[some _]) rfl ?_⟩
  walk_at "l2"
  intro D hD
  refine yh (fun i ys H'=>Cs (fun i ys=>ys=(M.pl i m).map nat) H D i ys H') (Cs.zero hD rfl) (fun i ys H' hi c=>?_) (fun ys H' c=>?_)
  ·walk_at "l2"
   rw [F5]
   by_cases ht:m.testBit i=true
   ·rw [if_pos ht]
    walk_at "l2"
    refine Cs.put hD c.same c.at' c.len (by omega) ?_
    rw [c.pv,M.pl_next,if_pos ht,List.map_append,Int.zero_add]
    rfl
   ·rw [if_neg ht]
    walk_at "l2"
    refine Cs.skip c.same c.at' c.len ?_
    rw [c.pv,M.pl_next,if_neg ht,List.append_nil]
  ·have e:=c.pv
   rw [Int.toNat_natCast] at e
   refine q D H' hD c.same ?_
   rw [c.at',e,M.pl_up (E5 m) hb]
theorem ya (T:Tx K mg a):FnOk P w K mg base CX0 1 a.eX a.vv ["places"] Jh:=by
 refine T.oN.ok lI (fun vs H Q E h=>?_) (fun cdv A outer s H vs Q E hr h=>?_)
 ·obtain ⟨r,ps,rfl,_⟩:=h;rfl
 ·obtain ⟨r,ps,rfl,hp,hl,q⟩:=h
  refine ⟨_,((ai (au (i:=1) lI.nd rfl (by walk_at "o") af)
   (ai (gj PassesOwn.never rfl (bJ (K:=K) rfl (pv 0)) (aG (i:=2) lI.nd rfl (by walk_at "o")) (aj (au (i:=1) lI.nd rfl (by walk_at "o") (ar hX (pv 1) (ar gq af (pv 2))))))
   (aj (aI (pv 1)))))),aE (σ':=[some _,none,none]) rfl ?_⟩
  walk_at "l2"
  refine iD (xs:=ps.map nat) (fun i σ H'=>∃ v,σ=[some (.ref r),some (nat (M.xm (ps.take i))),v]∧H'=H) ⟨none,rfl,rfl⟩ (fun i σ H' _ ⟨_,_,e⟩=>by rw [e];exact SqL.of hp) ?_ ?_
  ·rintro i y σ H' hy ⟨v,rfl,rfl⟩
   obtain ⟨k,hk,rfl⟩:=bH hy
   have:=hl k (List.mem_of_getElem? hk)
   walk_at "l2"
   refine ⟨some (nat k),?_,rfl⟩
   rw [shl1,bw,Og hk]
  ·rintro σ H' ⟨v,rfl,rfl⟩
   rw [List.length_map,List.take_length]
   walk_at "l2"
   exact q
theorem JS (T:Tx K mg a):FnOk P w K mg base CX0 1 a.gU a.zR ["masks","width"] LU:=by
 refine T.sZ.ok kG (fun vs H Q E h=>?_) (fun cdv A outer s H vs Q E hr h=>?_)
 ·obtain ⟨r,ps,wd,rfl,_⟩:=h;rfl
 ·obtain ⟨r,ps,wd,rfl,hp,hl,hw,hb,q⟩:=h
  refine ⟨_,((ai (au (i:=2) kG.nd rfl (by walk_at "o") af)
   (ai (gj PassesOwn.never rfl (mM (K:=K) rfl (by rfl) T.dz (pv 0)) (t4 rfl (bY (aG (i:=3) kG.nd rfl (by walk_at "o")) (bY (aG (i:=4) kG.nd rfl (by walk_at "o")) jH))) (aj (au (i:=2) kG.nd rfl (by walk_at "o") (ar hX (pv 2) (ar gq (pv 4) (ar nQ (pv 3) (pv 1)))))))
   (aj (aI (pv 2)))))),aE (σ':=[some _,some _,none,none,none]) rfl ?_⟩
  walk_at "l2"
  refine og (xs:=ps.map nat) (fun i σ H'=>∃ v v',σ=[some (.ref r),some (nat wd),some (nat (M.pkw wd (ps.take i))),v,v']∧Same H H') ⟨none,none,rfl,Same.refl _⟩ (fun i σ H' _ ⟨_,_,_,e⟩=>SqL.of (e.get hp)) ?_ ?_
  ·rintro i y σ H' p H7 hy ⟨v,v',rfl,s6⟩ fp s7 e7
   obtain ⟨x,hx,rfl⟩:=bH hy
   have hi:=(List.getElem?_eq_some_iff.mp hx).1
   have hxb:=hb x (List.mem_of_getElem? hx)
   have hmul:i * wd≤1000 * 1000:=Nat.mul_le_mul (by omega) hw
   have ec:(i:Int) * (wd:Int)=((i * wd:Nat):Int):=by push_cast;rfl
   walk_at "l2"
   rw [ec]
   walk_at "l2"
   have e:(x:Int) * 2 ^ (((i * wd:Nat):Int).toNat)=((x <<< (i * wd):Nat):Int):=by rw [Int.toNat_natCast,sX,Nat.shiftLeft_eq];norm_cast
   rw [e,bw,take_succ hx,M.pkw_snoc,sV hx]
   exact ⟨_,_,rfl,s6.trans s7⟩
  ·rintro σ H' ⟨v,v',rfl,s6⟩
   rw [List.length_map,List.take_length]
   walk_at "l2"
   exact q _ s6
end
section
variable {P:Program} {w:World} {K:PySem.W.Frag} {mg:Str→Option Value} {base:Heap} {a:Ad}
local macro_rules | `(tactic| walk_at "l2step") =>`(tactic| first | ((with_reducible refine' qD ?e ?_);(case e=>walk_at "l2kind")) | ((with_reducible refine' yq ?e ?_);(case e=>walk_at "l2kind")) | (with_reducible refine nI ?_) | (with_reducible refine tP ?_))
theorem GV (T:Tx K mg a):FnOk P w K mg base CX0 3 a.eZ a.vw ["thing","stores","inputs"] LS:=by
 have gx:FnOk P w K mg base CX0 2 a.dB a.kR ["thing","width"] (yx K):=lP T
 refine T.oO.ok GE (fun vs H Q E h=>?_) (fun cdv A outer s H vs Q E hr h=>?_)
 ·obtain ⟨t,x,y,n,m,rfl,_⟩:=h;rfl
 ·obtain ⟨t,x,y,n,m,rfl,ht,hx,hy,q⟩:=h
  refine ⟨_,((ai (cJ (PW.pt (mK (dj (cI (ax (c4 (K:=K) rfl) (by rfl) T.bc PyProof.Rows.boot_isinstance (aa (pv 0) (aa (gy (v:= .ty "tuple") (by rfl) T.pW PyProof.Rows.boot_tuple rfl) ae))))) (jf (aP DP (ax (aK (K:=K) rfl) (by rfl) T.eQ PySem.boot_len (aa (pv 0) ae)) af (aL _))))) (aj (aI md)) aQ)
   (aj (aI (j3 (aq gx (hr.mono (by decide)) (by rfl) T.kP T.kO T.iw .nil aF (aa (aX (aw (K:=K) rfl) (pv 0) af (fun _ _=>rfl)) (aa (pv 1) ae))) (nN (aq gx (hr.mono (by decide)) (by rfl) T.kP T.kO T.iw .nil aF (aa (aX (aw (K:=K) rfl) (pv 0) af (fun _ _=>rfl)) (aa (pv 2) ae))))))))),aE (σ':=[some _,some _,some _]) rfl ?_⟩
  walk_at "l2"
  refine Dz (ik hx) ?_
  walk_at "l2"
  rw [ik hy]
  exact q
theorem wo (T:Tx K mg a):FnOk P w K mg base CX0 4 a.bN a.jN ["inputs","nexts","outs"] Oz:=by
 have G_is_whole:FnOk P w K mg base CX0 1 a.cN a.ju ["thing"] (sW K):=uh T
 have LC:=@GV P w K mg base a T
 refine T.gY.ok wb (fun vs H Q E h=>?_) (fun cdv A outer s H vs Q E hr h=>?_)
 ·obtain ⟨n,o,m,nx,os,rfl,_⟩:=h;rfl
 ·obtain ⟨n,o,m,nx,os,rfl,t,q⟩:=h
  refine ⟨_,((ai (cJ (PW.pt (mK (dj (cI (aq G_is_whole (hr.mono (by decide)) (by rfl) T.yf T.yd T.lX .nil aF (aa (pv 0) ae)))) (mK (aP Pa (pv 0) af (aL _)) (jf (aP ug (pv 0) (pE (v:= .int 6) (by rfl) T.zI ⟨_,rfl⟩) (aL _)))))) (aj (gS PySem.F.excBase_ValueError T.ek thr0 rfl (by rfl) T.lU (aa fq ae))) aQ)
   (ai (cJ (PW.pt (mK (dj (cI (ax (c4 (K:=K) rfl) (by rfl) T.bc PyProof.Rows.boot_isinstance (aa (pv 1) (aa (gy (v:= .ty "list") (by rfl) T.j8 PyProof.Rows.boot_list rfl) ae))))) (jf (aP ug (ax (aK (K:=K) rfl) (by rfl) T.eQ PySem.boot_len (aa (pv 1) ae)) (pE (v:= .int 120) (by rfl) T.zH ⟨_,rfl⟩) (aL _))))) (aj (gS PySem.F.excBase_ValueError T.ek thr0 rfl (by rfl) T.lU (aa fq ae))) aQ)
   (ai (cJ (PW.pt (mK (dj (cI (ax (c4 (K:=K) rfl) (by rfl) T.bc PyProof.Rows.boot_isinstance (aa (pv 2) (aa (gy (v:= .ty "list") (by rfl) T.j8 PyProof.Rows.boot_list rfl) ae))))) (jf (aP ug (ax (aK (K:=K) rfl) (by rfl) T.eQ PySem.boot_len (aa (pv 2) ae)) (pE (v:= .int 6) (by rfl) T.EE ⟨_,rfl⟩) (aL _))))) (aj (gS PySem.F.excBase_ValueError T.ek thr0 rfl (by rfl) T.lU (aa fq ae))) aQ)
   (aj (cJ (dj (cI (ax (Ct (K:=K) rfl rfl) (by rfl) T.Rz PyProof.Rows.boot_all (aa (hG (osc:=ah cO) (ON:=["inputs","nexts","outs"]) (N:=["pair","nexts","inputs"]) (n:=1) (fx:=[1,0]) rfl rfl rfl (by decide +kernel) (bJ (K:=K) rfl (ar mx (pv 1) (pv 2))) (cL (by decide)) (fun _ _ _ _ _=>⟨(aG (i:=0) (show List.Nodup (["pair","nexts","inputs"]:List Str) from by decide +kernel) rfl (by walk_at "o")),fK,(aq LC (hr.mono (by decide)) (by rfl) T.KH T.Ks T.vN .nil aF (aa (pv 0) (aa (ax (aK (K:=K) rfl) (by rfl) T.eQ PySem.boot_len (aa (pv 1) ae)) (aa (pv 2) ae))))⟩)) ae)))) (aj (gS PySem.F.excBase_ValueError T.ek thr0 rfl (by rfl) T.lU (aa fq ae))) aQ)))))),aE (σ':=[some _,some _,some _]) rfl ?_⟩
  walk_at "l2"
  have m6:=t.m6
  have ln:=t.ln
  have lo:=t.lo
  have hn:=t.n
  have ho:=t.o
  have en:(refs nx).length=nx.length:=List.length_map ..
  have eo:(refs os).length=os.length:=List.length_map ..
  refine tQ (decide_eq_false (by omega)) ?_
  walk_at "l2"
  refine tQ (decide_eq_false (by omega)) ?_
  walk_at "l2"
  refine tQ (decide_eq_false (by omega)) ?_
  walk_at "l2"
  refine we hn ho (by rw [sizeLine_eq];omega) fun p H2 f2 s2 e2=>?_
  walk_at "l2"
  intro D hD
  refine cZ (xs:=refs nx++refs os) (fun i ys H'=>Cs (fun i ys=>ys=(List.replicate i true).map V.bl) H2 D i ys H') (Cs.zero hD rfl) (fun i ys H' _ c=>SqL.of (c.same.get e2)) (fun i x ys H' hx c=>?_) (fun ys H' c=>?_)
  ·have hx:(refs (nx++os))[i]? =some x:=by unfold refs at hx ⊢;rw [List.map_append];exact hx
   obtain ⟨pr,hpr,rfl⟩:=bH hx
   have hm:=List.mem_of_getElem? hpr
   have hi:=(List.getElem?_eq_some_iff.mp hpr).1
   rw [List.length_append] at hi
   have hb:=t.bn pr hm
   have ht:H pr.1=some (.tup [nat pr.2.1,nat pr.2.2]):=(List.mem_append.mp hm).elim (t.pn pr) (t.po pr)
   have hn':=c.same.get (s2.get hn)
   walk_at "l2"
   rw [en]
   refine ⟨pr.1,pr.2.1,pr.2.2,nx.length,m,rfl,c.same.get (s2.get ht),hb.1,hb.2,?_⟩
   refine Cs.put hD c.same c.at' c.len (by omega) ?_
   rw [c.pv,List.replicate_succ',List.map_append];rfl
  ·have ec:=c.at'
   rw [c.pv] at ec
   walk_at "l2"
   refine NG (SqL.of ec) ?_
   walk_at "l2"
   refine tQ (by rw [List.all_replicate];simp) ?_
   walk_at "l2"
   exact q H' (s2.trans c.same)
theorem mQ (T:Tx K mg a):FnOk P w K mg base CX0 5 a.aH a.ff ["self","inputs","nexts","outs"] (Ov a.ao):=by
 have Ao:=@wo P w K mg base a T
 refine T.dk.ok mI (fun vs H Q E h=>?_) (fun cdv A outer s H vs Q E hr h=>?_)
 ·obtain ⟨x,dx,n,o,m,nx,os,rfl,_⟩:=h;rfl
 ·obtain ⟨x,dx,n,o,m,nx,os,rfl,hx,t,q⟩:=h
  refine ⟨_,((ai (dU (aq Ao (hr.mono (by decide)) (by rfl) T.zF T.zz T.jP .nil aF (aa (pv 1) (aa (pv 2) (aa (pv 3) ae)))))
   (ai (pj (K:=K) rfl (pv 0) (pv 1) rfl)
   (ai (pj (K:=K) rfl (pv 0) (gm (nk (K:=K) rfl) (by rfl) T.pW PyProof.Rows.boot_tuple (aa (pv 2) ae)) rfl)
   (aj (pj (K:=K) rfl (pv 0) (gm (nk (K:=K) rfl) (by rfl) T.pW PyProof.Rows.boot_tuple (aa (pv 3) ae)) rfl)))))),aE (σ':=[some _,some _,some _,some _]) rfl ?_⟩
  walk_at "l2"
  refine ⟨n,o,m,nx,os,rfl,t,fun H1 s1=>?_⟩
  have nnx:=ig t.n hx (by simp)
  have onx:=ig t.o hx (by simp)
  walk_at "l2"
  refine pd (s1.get hx) T.bu T.gE (by decide) rfl fun H2 u2=>?_
  have hn2:=u2.oth _ _ nnx (s1.get t.n)
  have ho2:=u2.oth _ _ onx (s1.get t.o)
  walk_at "l2"
  intro tn H3 f3 s3 e3
  have tnx:tn≠x:=fun z=>by rw [z,u2.at'] at f3;cases f3
  walk_at "l2"
  refine pd (s3.get u2.at') T.bu T.eU (by show 1 < 1000;decide) rfl fun H4 u4=>?_
  have ho4:=u4.oth _ _ onx (s3.get ho2)
  have e4:=u4.oth _ _ tnx e3
  walk_at "l2"
  intro to H5 f5 s5 e5
  have tox:to≠x:=fun z=>by rw [z,u4.at'] at f5;cases f5
  walk_at "l2"
  refine pd (s5.get u4.at') T.bu T.iQ (by show 2 < 1000;decide) rfl fun H6 u6=>?_
  have k:∀ b ob,b≠x→H b=some ob→H6 b=some ob:=fun b ob nb e=>u6.oth _ _ nb (s5.get (u4.oth _ _ nb (s3.get (u2.oth _ _ nb (s1.get e)))))
  walk_at "l2"
  refine q H6 k ⟨⟨dx,tn,to,u6.at',u6.oth _ _ tnx (s5.get e4),u6.oth _ _ tox e5⟩,fun pr h=>k _ _ ?_ (t.pn pr h),fun pr h=>k _ _ ?_ (t.po pr h)⟩
  ·exact ig (t.pn pr h) hx (by simp)
  ·exact ig (t.po pr h) hx (by simp)
theorem pJ (T:Tx K mg a):FnOk P w K mg base CX0 1 a.aU a.gK ["self"] (Jg a.ao):=by
 refine T.d7.ok o9 (fun vs H Q E h=>?_) (fun cdv A outer s H vs Q E hr h=>?_)
 ·obtain ⟨p,m,nx,os,rfl,_⟩:=h;rfl
 ·obtain ⟨p,m,nx,os,rfl,ma,q⟩:=h
  obtain ⟨dx,tn,to,ho,hn,ho2⟩:=ma.ho
  refine ⟨_,((aj (aI (ax (aK (K:=K) rfl) (by rfl) T.eQ PySem.boot_len (aa (eg (K:=K) rfl (pv 0) rfl) ae))))),aE (σ':=[some _]) rfl ?_⟩
  walk_at "l2"
  refine d9 ho T.bu T.eU rfl ?_
  walk_at "l2"
  unfold refs
  rw [List.length_map]
  exact q
theorem JT (T:Tx K mg a):FnOk P w K mg base CX0 2 a.gW a.zS ["pair","state","row"] Ma:=by
 have F8:=@JV P w K mg base a T
 refine T.tj.ok Jw (fun vs H Q E h=>?_) (fun cdv A outer s H vs Q E hr h=>?_)
 ·obtain ⟨t,x1,x2,x,r,rfl,_⟩:=h;rfl
 ·obtain ⟨t,a1,b1,x,r,rfl,ht,ha,hb,q⟩:=h
  refine ⟨_,((aj (aI (dw DP (aq F8 (hr.mono (by decide)) (by rfl) T.KI T.Kt T.CI .nil aF (aa (ar ji (aX (aw (K:=K) rfl) (pv 0) af (fun _ _=>rfl)) (pv 1)) ae)) (aq F8 (hr.mono (by decide)) (by rfl) T.KI T.Kt T.CI .nil aF (aa (ar ji (aX (aw (K:=K) rfl) (pv 0) af (fun _ _=>rfl)) (pv 2)) ae)) (aL _))))),aE (σ':=[some _,some _,some _]) rfl ?_⟩
  walk_at "l2"
  rw [bR]
  refine ⟨a1&&&x,rfl,Nat.lt_of_le_of_lt Nat.and_le_left ha,?_⟩
  walk_at "l2"
  rw [bR]
  refine ⟨b1&&&r,rfl,Nat.lt_of_le_of_lt Nat.and_le_left hb,?_⟩
  walk_at "l2"
  rw [IQ]
  exact q
theorem yV (T:Tx K mg a):FnOk P w K mg base CX0 3 a.cu a.kQ ["pairs","state","row"] (Ou K):=by
 have Nn:=@JT P w K mg base a T
 have oI:=@ya P w K mg base a T
 refine T.iK.ok yE (fun vs H Q E h=>?_) (fun cdv A outer s H vs Q E hr h=>?_)
 ·obtain ⟨r,ps,x,y,rfl,_⟩:=h;rfl
 ·obtain ⟨r,ps,x,y,rfl,hp,pt,hl,hb,q⟩:=h
  refine ⟨_,((aj (aI (aq oI (hr.mono (by decide)) (by rfl) T.vc T.uY T.ly .nil aF (aa (hG (osc:=ah dr) (ON:=["pairs","state","row"]) (N:=["place","pair","state","row"]) (n:=2) (fx:=[1,2]) rfl rfl rfl (by decide +kernel) (Mw (K:=K) rfl (by rfl) T.dz (pv 0)) (KF (lR (cL (by decide)) (lR (cL (by decide)) EA))) (fun _ _ _ _ _=>⟨(DL (K:=K) (n:=2) rfl rfl (bY (aG (i:=0) (show List.Nodup (["place","pair","state","row"]:List Str) from by decide +kernel) rfl (by walk_at "o")) (bY (aG (i:=1) (show List.Nodup (["place","pair","state","row"]:List Str) from by decide +kernel) rfl (by walk_at "o")) jH))),(yJ (cI (aq Nn (hr.mono (by decide)) (by rfl) T.MZ T.MR T.z9 .nil aF (aa (pv 1) (aa (pv 2) (aa (pv 3) ae)))))),(pv 0)⟩)) ae))))),aE (σ':=[some _,some _,some _]) rfl ?_⟩
  walk_at "l2"
  refine .inr ⟨⟨_,hp⟩,?_⟩
  intro D hD
  refine HR (xs:=refs ps) (fun i ys H'=>Cs (fun i ys=>∃ qs:List Nat,ys=qs.map nat∧(∀ p∈qs,p < i)∧M.xm qs=M.tr2 (prs (ps.take i)) x y) H D i ys H') (Cs.zero hD ⟨[],rfl,fun _ h=>absurd h (by simp),rfl⟩) (fun i ys H' _ c=>Same.tup c.same hp) (fun i v ys H' p H7 hv c fp s7 e7=>?_) (fun ys H' c=>?_)
  ·obtain ⟨pr,hpr,rfl⟩:=bH hv
   obtain ⟨qs,eqs,hq,exm⟩:=c.pv
   have hm:=List.mem_of_getElem? hpr
   have hi:=(List.getElem?_eq_some_iff.mp hpr).1
   have ht:=s7.get (c.same.get (pt pr hm))
   have ts:=LO x y hpr
   walk_at "l2"
   refine ⟨pr.1,pr.2.1,pr.2.2,x,y,rfl,ht,(hb pr hm).1,(hb pr hm).2,?_⟩
   cases hod:(M.od (pr.2.1&&&x)^^M.od (pr.2.2&&&y)) with
   | true=>
     rw [hod,if_pos rfl] at ts
     walk_at "l2"
     refine Cs.put hD (c.same.trans s7) (s7.get c.at') c.len (by omega) ⟨qs++[i],?_,fun k hk=>?_,?_⟩
     ·rw [eqs,List.map_append];rfl
     ·rcases List.mem_append.mp hk with h | h
      ·have:=hq k h;omega
      ·rw [List.mem_singleton.mp h];omega
     ·rw [M.xm_snoc,exm,ts]
   | false=>
     rw [hod,if_neg Bool.false_ne_true,Nat.xor_zero] at ts
     walk_at "l2"
     refine Cs.skip (c.same.trans s7) (s7.get c.at') c.len ⟨qs,eqs,fun k hk=>?_,?_⟩
     ·have:=hq k hk;omega
     ·rw [exm,ts]
  ·obtain ⟨qs,eqs,hq,exm⟩:=c.pv
   rw [dJ] at hq exm
   have ec:=c.at'
   rw [eqs] at ec
   walk_at "l2"
   refine ⟨D,qs,rfl,ec,fun k hk=>by have:=hq k hk;omega,?_⟩
   rw [exm,List.take_length]
   exact q _ c.same
theorem fu (T:Tx K mg a):FnOk P w K mg base (CX1 P w) 3 a.aB a.dC ["self","state"] (Qv K a.ao a.aD):=by
 have gx:=@lP P w K mg base a T
 refine T.cB.okX kj (fun vs H Q E h=>?_) (fun cdv A outer s H vs Q E hr h=>?_)
 ·obtain ⟨p,m,nx,os,x,k,rfl,_⟩:=h;rfl
 ·obtain ⟨p,m,nx,os,x,k,rfl,ma,hk,qQ,qE⟩:=h
  obtain ⟨dx,tn,to,ho,hn,ho2⟩:=ma.ho
  refine ⟨_,((aj (cJ (dj (cI (aq gx (hr.mono (by decide)) (by rfl) T.kP T.kO T.iw .nil aF (aa (pv 1) (aa (ax (aK (K:=K) rfl) (by rfl) T.eQ PySem.boot_len (aa (eg (K:=K) rfl (pv 0) rfl) ae)) ae))))) (aj (gS PySem.F.excBase_ValueError T.i5 dF rfl (by rfl) T.vh (aa fq ae))) aQ))),aE (σ':=[some _,some _]) rfl ?_⟩
  walk_at "l2"
  refine d9 ho T.bu T.eU rfl ?_
  walk_at "l2"
  rw [dJ]
  cases hm:dM x (nx.length:Int) with
  | false=>
    walk_at "l2"
    exact ⟨by rw [sizeLine_eq];decide,qE hm⟩
  | true=>
    walk_at "l2"
    exact qQ hm
theorem uo (T:Tx K mg a):FnOk P w K mg base (CX1 P w) 4 a.be a.iX ["self","state","row"] (LW K a.ao a.aD):=by
 have gx:=@lP P w K mg base a T
 have dE:=@fu P w K mg base a T
 have rG:=@yV P w K mg base a T
 refine T.gf.okX tO (fun vs H Q E h=>?_) (fun cdv A outer s H vs Q E hr h=>?_)
 ·obtain ⟨p,m,nx,os,x,y,kx,ky,rfl,_⟩:=h;rfl
 ·obtain ⟨p,m,nx,os,x,y,kx,ky,rfl,ma,g,hkx,hky,qQ,qE⟩:=h
  obtain ⟨dx,tn,to,ho,hn,ho2⟩:=ma.ho
  have ln:=g.ln
  have lo:=g.lo
  refine ⟨_,((ai (dU (lN (pv 0) T.bu T.gu dE (hr.mono (by decide)) T.cA .nil dF (aa (pv 1) ae)))
   (ai (cJ (dj (cI (aq gx (hr.mono (by decide)) (by rfl) T.kP T.kO T.iw .nil aF (aa (pv 2) (aa (eg (K:=K) rfl (pv 0) rfl) ae))))) (aj (gS PySem.F.excBase_ValueError T.i5 dF rfl (by rfl) T.vh (aa fq ae))) aQ)
   (aj (aI (eP (aa (aq rG (hr.mono (by decide)) (by rfl) T.rl T.rh T.iI .nil aF (aa (eg (K:=K) rfl (pv 0) rfl) (aa (pv 1) (aa (pv 2) ae)))) (aa (aq rG (hr.mono (by decide)) (by rfl) T.rl T.rh T.iI .nil aF (aa (eg (K:=K) rfl (pv 0) rfl) (aa (pv 1) (aa (pv 2) ae)))) ae)))))))),aE (σ':=[some _,some _,some _]) rfl ?_⟩
  walk_at "l2"
  refine jb ho rfl ?_
  walk_at "l2"
  refine ⟨p,m,nx,os,x,kx,rfl,ma,hkx,fun hm=>?_,fun hm=>qE (.inl hm)⟩
  walk_at "l2"
  refine d9 ho T.bu T.gE rfl ?_
  walk_at "l2"
  cases hm2:dM y (m:Int) with
  | false=>
    walk_at "l2"
    exact ⟨by rw [sizeLine_eq];decide,qE (.inr hm2)⟩
  | true=>
    obtain ⟨a1,rfl,ha⟩:=nW hm
    obtain ⟨b1,rfl,hb⟩:=nW hm2
    walk_at "l2"
    refine d9 ho T.bu T.iQ rfl ?_
    walk_at "l2"
    refine ⟨to,os,a1,b1,rfl,SqT.of ho2,ma.hs,by omega,g.b2,fun H2 s2=>?_⟩
    walk_at "l2"
    refine d9 (s2.get ho) T.bu T.eU rfl ?_
    walk_at "l2"
    refine ⟨tn,nx,a1,b1,rfl,SqT.of (s2.get hn),ma.hn.same s2,by omega,g.b1,fun H3 s3=>?_⟩
    walk_at "l2"
    intro t H4 f4 s4 e4
    exact qQ a1 b1 rfl rfl ha hb t H4 (s2.trans (s3.trans s4)) e4
theorem pI (T:Tx K mg a):FnOk P w K mg base (CX1 P w) 5 a.aT a.gJ ["self","rows","state"] (LR K a.ao a.aD):=by
 have dE:=@fu P w K mg base a T
 have xN:=@uo P w K mg base a T
 refine T.d6.okX cF (fun vs H Q E h=>?_) (fun cdv A outer s H vs Q E hr h=>?_)
 ·obtain ⟨p,rr,m,nx,os,x,xs,rfl,_⟩:=h;rfl
 ·obtain ⟨p,rr,m,nx,os,x,xs,rfl,ak,qQ,qE⟩:=h
  obtain ⟨dx,tn,to,ho,hn,ho2⟩:=ak.ma.ho
  obtain ⟨kx,hkx⟩:=ak.kx
  have ln:=ak.ln
  have hsq:=ak.sq
  refine ⟨_,((ai (dU (lN (pv 0) T.bu T.gu dE (hr.mono (by decide)) T.cA .nil dF (aa (pv 2) ae)))
   (ai (au (i:=3) cF.nd rfl (by walk_at "o") (bK ae))
   (ai (gj (DO ⟨rfl,rfl⟩) rfl (bJ (K:=K) rfl (pv 1)) (aG (i:=4) cF.nd rfl (by walk_at "o")) (ai (au (i:=5) cF.nd rfl (by walk_at "o") (lN (pv 0) T.bu T.wI xN (hr.mono (by decide)) T.i4 .nil dF (aa (pv 2) (aa (pv 4) ae))))
   (ai (dU (qU (K:=K) rfl PySem.F.plainAttrs_list PySem.F.slot_list_append PySem.F.type_list_append eV (pv 3) (aa (aX (aw (K:=K) rfl) (pv 5) af (fun _ _=>rfl)) ae)))
   (aj (au (i:=2) cF.nd rfl (by walk_at "o") (aX (aw (K:=K) rfl) (pv 5) af (fun _ _=>rfl)))))))
   (aj (aI (eP (aa (pv 3) (aa (pv 2) ae))))))))),aE (σ':=[some _,some _,some _,none,none,none]) rfl ?_⟩
  walk_at "l2"
  refine jb ho rfl ?_
  walk_at "l2"
  refine ⟨p,m,nx,os,x,kx,rfl,ak.ma,hkx,fun hm=>?_,fun hm=>qE (.inl hm) H (Same.refl _)⟩
  obtain ⟨a0,rfl,ha0⟩:=nW hm
  walk_at "l2"
  intro D H1 f1 s1 e1
  walk_at "l2"
  refine iD (xs:=xs) (fun i σ H'=>∃ (rs:List Nat) (v v':Option V),σ=[some (.ref p),some (.ref rr),some (nat (M.wst (prs nx) a0 rs)),some (.ref D),v,v']∧Same H H'∧H' D=some (.lst ((M.wan (prs nx) (prs os) a0 rs).map nat))∧xs.take i=rs.map nat∧∀ r∈rs,r < 2 ^ m) ⟨[],none,none,rfl,s1,e1,rfl,fun _ h=>absurd h (by simp)⟩ (fun i σ H' _ ⟨_,_,_,_,e,_⟩=>Same.seq e ak.sq) ?_ ?_
  ·rintro i y σ H' hy ⟨rs,v,v',rfl,s6,e6,et,hr6⟩
   obtain ⟨ky,hky⟩:=ak.ks y (List.mem_of_getElem? hy)
   have hi:=(List.getElem?_eq_some_iff.mp hy).1
   have lrs:rs.length=i:=by have:=congrArg List.length et;rw [List.length_take,List.length_map] at this;omega
   have hwst:M.wst (prs nx) a0 rs < 2 ^ nx.length:=by have:=M.wst_lt (ps:=prs nx) (rs:=rs) (x:=a0) (by rw [aW];exact ha0);rwa [aW] at this
   walk_at "l2"
   refine jb (s6.get ho) rfl ?_
   walk_at "l2"
   refine ⟨p,m,nx,os,nat (M.wst (prs nx) a0 rs),y,"int",ky,rfl,ak.ma.same s6,ak.g,rfl,n9 hky s6,fun a1 b1 ea eb ha hb t H7 s7 e7=>?_,fun hbad=>?_⟩
   ·have ea:=ze ea
    subst ea
    subst eb
    walk_at "l2"
    refine iA (s7.get e6) (by rw [List.length_map,M.wan_len,sizeLine_eq];omega) fun H8 u8=>?_
    have e8:=u8.oth _ _ (ig e7 (s7.get e6) (by simp)) e7
    walk_at "l2"
    refine ⟨rs++[b1],?_⟩
    rw [M.wst_snoc,M.wan_snoc,List.map_append]
    refine ⟨_,_,rfl,fun b o e=>u8.oth _ _ (av e f1) (s7.get (s6.get e)),u8.at',?_,fun r hr'=>?_⟩
    ·rw [List.take_add_one,et,hy,List.map_append];rfl
    ·rcases List.mem_append.mp hr' with h | h
     ·exact hr6 r h
     ·rw [List.mem_singleton.mp h];exact hb
   ·rcases hbad with h | h
    ·rw [ik hwst] at h;cases h
    ·exact qE (.inr ⟨y,List.mem_of_getElem? hy,h⟩) H' s6
  ·rintro σ H' ⟨rs,v,v',rfl,s6,e6,et,hr6⟩
   rw [List.take_length] at et
   walk_at "l2"
   intro t H7 f7 s7 e7
   exact qQ a0 rs ⟨rfl,et,ha0,hr6⟩ t D H7 f1 (s6.trans s7) e7 (s7.get e6)
theorem wu (T:Tx K mg a):FnOk P w K mg base (CX1 P w) 6 a.bq a.gX ["self","rows","state"] (Qr K a.ao a.aD):=by
 have sR:=@pI P w K mg base a T
 refine T.fk.okX wc (fun vs H Q E h=>?_) (fun cdv A outer s H vs Q E hr h=>?_)
 ·obtain ⟨p,rr,m,nx,os,x,xs,rfl,_⟩:=h;rfl
 ·obtain ⟨p,rr,m,nx,os,x,xs,rfl,ak,qQ,qE⟩:=h
  obtain ⟨dx,tn,to,ho,hn,ho2⟩:=ak.ma.ho
  refine ⟨_,((aj (aI (aX (aw (K:=K) rfl) (lN (pv 0) T.bu T.rY sR (hr.mono (by decide)) T.gN .nil dF (aa (pv 1) (aa (pv 2) ae))) af (fun _ _=>rfl))))),aE (σ':=[some _,some _,some _]) rfl ?_⟩
  walk_at "l2"
  refine jb ho rfl ?_
  walk_at "l2"
  refine ⟨p,rr,m,nx,os,x,xs,rfl,ak,fun a1 rs g t D H2 fD s2 et eD=>?_,qE⟩
  walk_at "l2"
  exact qQ a1 rs g D H2 fD s2 eD
theorem nS (T:Tx K mg a):FnOk P w K mg base CX0 1 a.aM a.fN ["self"] (Gr a.ao):=by
 refine T.dR.ok nH (fun vs H Q E h=>?_) (fun cdv A outer s H vs Q E hr h=>?_)
 ·obtain ⟨p,m,nx,os,rfl,_⟩:=h;rfl
 ·obtain ⟨p,m,nx,os,rfl,ma,q⟩:=h
  obtain ⟨dx,tn,to,ho,hn,ho2⟩:=ma.ho
  refine ⟨_,((aj (aI (ax (aK (K:=K) rfl) (by rfl) T.eQ PySem.boot_len (aa (eg (K:=K) rfl (pv 0) rfl) ae))))),aE (σ':=[some _]) rfl ?_⟩
  walk_at "l2"
  refine d9 ho T.bu T.iQ rfl ?_
  walk_at "l2"
  unfold refs
  rw [List.length_map]
  exact q
end
section
variable {P:Program} {w:World} {K:PySem.W.Frag} {mg:Str→Option Value} {base:Heap} {a:Ad}
theorem j7 (T:Tx K mg a):FnOk P w K mg base CX0 1 a.aZ a.iq ["self","mask"] (Qt a.aJ):=by
 refine T.fi.ok cW (fun vs H Q E h=>?_) (fun cdv A outer s H vs Q E hr h=>?_)
 ·obtain ⟨p,d,f,n,rows,x,rfl,_⟩:=h;rfl
 ·obtain ⟨p,d,f,n,rows,x,rfl,st,q⟩:=h
  have hu:=MV hr
  obtain ⟨dx,ho⟩:=st.ho
  obtain ⟨es,hd,ht,g,l⟩:=st.he
  refine ⟨_,((ai (au (i:=2) cW.nd rfl (by walk_at "o") af)
   (ai (yK PassesOwn.never (Q9 (Rk hu (ar uf (kI (K:=K) rfl PySem.F.plainAttrs_int PySem.F.slot_int_bit_length PySem.F.type_int_bit_length mU (pv 1)) af) (eg (K:=K) rfl (pv 0) rfl))) (ai (au (i:=3) cW.nd rfl (by walk_at "o") (JN hu (eg (K:=K) rfl (pv 0) rfl) (ar uf (kI (K:=K) rfl PySem.F.plainAttrs_int PySem.F.slot_int_bit_length PySem.F.type_int_bit_length mU (pv 1)) af) (fun _ _=>rfl)))
   (ai (au (i:=1) cW.nd rfl (by walk_at "o") (ar hX (pv 1) (aX (aw (K:=K) rfl) (pv 3) af (fun _ _=>rfl))))
   (aj (au (i:=2) cW.nd rfl (by walk_at "o") (ar hX (pv 2) (aX (aw (K:=K) rfl) (pv 3) af (fun _ _=>rfl))))))))
   (aj (aI (eP (aa (pv 1) (aa (pv 2) ae)))))))),aE (σ':=[some _,some _,none,none]) rfl ?_⟩
  walk_at "l2"
  refine ⟨fun μ σ' H'=>∃ qq v,σ'=[some (.ref p),some (nat (x^^^M.sm rows qq)),some (nat qq),v]∧H'=H∧qq < 2 ^ rows.length∧μ=x^^^M.sm rows qq∧M.Frs rows qq,⟨x,0,none,?_,rfl,Nat.two_pow_pos _,?_,M.Frs.zero _⟩,?_⟩
  ·rw [M.sm_zero,Nat.xor_zero];rfl
  ·rw [M.sm_zero,Nat.xor_zero]
  rintro μ σ' H' ⟨qq,v,rfl,rfl,hq,rfl,hfr⟩
  walk_at "l2"
  refine d9 ho T.eh T.dc rfl ?_
  refine QV hd ?_
  walk_at "l2"
  generalize hm:x^^^M.sm rows qq=m
  refine iteB (fun hc=>?_) (fun hc=>?_)
  ·rcases tu es ((Builtin.Int.intBits (m:Int):Nat) - 1:Int) with ⟨e,he,ez,ev⟩ | ⟨_,hv⟩
   ·have hm0:m≠0:=fun z=>by rw [z,CB] at ez;omega
    have hl2:m.log2=e.m.log2:=by rw [lW hm0] at ez;omega
    have hem:(e.m,e.p)∈es.map (fun e=>(e.m,e.p)):=List.mem_map.mpr ⟨e,he,rfl⟩
    have e0:=g.nz _ hem
    refine ⟨fun σ2 H2=>∃ q2 v,σ2=[some (.ref p),some (nat (x^^^M.sm rows q2)),some (nat q2),v]∧H2=H'∧q2 < 2 ^ rows.length∧x^^^M.sm rows q2 < m∧M.Frs rows q2,fun σ2 H2 ⟨q2,v,h1,h2,h3,h4,h5⟩=>⟨_,h4,q2,v,h1,h2,h3,rfl,h5⟩,?_⟩
    walk_at "l2"
    refine d9 ho T.eh T.dc rfl ?_
    walk_at "l2"
    refine Jy hd ev ?_
    have hte:=ht e he
    walk_at "l2"
    refine ⟨qq^^^e.p,some (.ref e.a),?_,rfl,M.xor_lt_pow hq (g.lt _ hem),?_,hfr.xor (g.sub _ hem)⟩
    ·rw [M.sm_xor,g.sm _ hem,← Nat.xor_assoc,hm,bw,bw]
    ·rw [M.sm_xor,g.sm _ hem,← Nat.xor_assoc,hm];exact M.xor_less hm0 e0 hl2
   ·rw [hv] at hc;cases hc
  ·walk_at "l2"
   intro t H2 f2 s2 e2
   subst hm
   refine q t H2 qq f2 s2 e2 hq (fun m0 y hy y0 hl2=>?_) hfr
   rcases tu es ((Builtin.Int.intBits ((x^^^M.sm rows qq:Nat):Int):Nat) - 1:Int) with ⟨e,he,ez,ev⟩ | ⟨h1,hv⟩
   ·rw [ev] at hc;cases hc
   ·obtain ⟨e,he,ee⟩:=g.all y hy y0
    obtain ⟨e',he',rfl⟩:=List.mem_map.mp he
    refine h1 e' he' ?_
    have ee:e'.m.log2=y.log2:=ee
    rw [lW m0,ee,hl2];omega
theorem A7 (T:Tx K mg a):FnOk P w K mg base CX0 2 a.bX a.ni ["self","place","row"] (Qu a.aJ):=by
 have iy:=@j7 P w K mg base a T
 refine T.j1.ok kH (fun vs H Q E h=>?_) (fun cdv A outer s H vs Q E hr h=>?_)
 ·obtain ⟨p,d,f,n,rows,r,rfl,_⟩:=h;rfl
 ·obtain ⟨p,d,f,n,rows,r,rfl,st,hl,q⟩:=h
  have hu:=MV hr
  obtain ⟨dx,ho⟩:=st.ho
  refine ⟨_,((ai (au (i:=3) kH.nd rfl (by walk_at "o") (yS (pv 0) T.eh T.kL iy (hr.mono (by decide)) T.fg .nil aF (aa (pv 2) ae)))
   (ai (au (i:=4) kH.nd rfl (by walk_at "o") (ar hX (aX (aw (K:=K) rfl) (pv 3) af (fun _ _=>rfl)) (ar gq af (pv 1))))
   (aj (cJ (aP jh (aX (aw (K:=K) rfl) (pv 3) af (fun _ _=>rfl)) af (aL _)) (aj (dU (qU (K:=K) rfl PySem.F.plainAttrs_list PySem.F.slot_list_append PySem.F.type_list_append eV (eg (K:=K) rfl (pv 0) rfl) (aa (pv 4) ae)))) (ai (dU (qU (K:=K) rfl PySem.F.plainAttrs_list PySem.F.slot_list_append PySem.F.type_list_append eV (eg (K:=K) rfl (pv 0) rfl) (aa (pv 1) ae)))
   (aj (OZ hu (eg (K:=K) rfl (pv 0) rfl) (ar uf (kI (K:=K) rfl PySem.F.plainAttrs_int PySem.F.slot_int_bit_length PySem.F.type_int_bit_length mU (aX (aw (K:=K) rfl) (pv 3) af (fun _ _=>rfl))) af) (eP (aa (aX (aw (K:=K) rfl) (pv 3) af (fun _ _=>rfl)) (aa (pv 4) ae))) rfl)))))))),aE (σ':=[some _,some _,some _,none,none]) rfl ?_⟩
  walk_at "l2"
  refine lK ho rfl ?_
  walk_at "l2"
  refine ⟨p,d,f,n,rows,r,rfl,st,fun t H2 qq f2 s2 e2 hq hn hfr=>?_⟩
  walk_at "l2"
  rw [shl1,bw]
  have ho2:=s2.get ho
  have st2:=st.same s2
  have lf:=M.fr_len rows
  refine iteB (fun hc=>?_) (fun hc=>?_)
  ·have hz:r^^^M.sm rows qq=0:=by have:=V.int.inj (of_decide_eq_true hc);omega
   obtain ⟨nms,hnn,gn⟩:=st2.hn
   have ln:=gn.len
   walk_at "l2"
   refine d9 ho2 T.eh T.eR rfl ?_
   walk_at "l2"
   refine iA hnn (by rw [List.length_map];exact i7 (by omega)) fun H3 u3=>?_
   walk_at "l2"
   exact q H3 (fun b o h1 h2 h3 e=>u3.oth _ _ h3 (s2.get e)) (st2.null hq hz hfr gn hnn u3)
  ·have hz:r^^^M.sm rows qq≠0:=fun z=>by rw [z] at hc;exact absurd hc (by decide)
   obtain ⟨es,hd,ht,g,le⟩:=st2.he
   have hf2:=st2.hf
   walk_at "l2"
   refine d9 ho2 T.eh T.ij rfl ?_
   walk_at "l2"
   refine iA st2.hf (by rw [List.length_map];exact i7 (by omega)) fun H3 u3=>?_
   have e3:=u3.oth _ _ (ig e2 st2.hf (by simp)) e2
   have ho3:=u3.oth _ _ (ig ho2 st2.hf (by simp)) ho2
   have hd3:=u3.oth _ _ (ig hd st2.hf (by simp)) hd
   walk_at "l2"
   intro t' H4 f4 s4 e4
   walk_at "l2"
   refine d9 (s4.get ho3) T.eh T.dc rfl ?_
   walk_at "l2"
   refine OR (s4.get hd3) (by unfold n6;rw [List.length_map];exact i7 (by omega)) fun H5 u5=>?_
   walk_at "l2"
   refine q H5 (fun b o h1 h2 h3 e=>u5.oth _ _ h1 (s4.get (u3.oth _ _ h2 (s2.get e)))) (st2.more hq hz (hn hz) hfr u3 s4 e4 hd ht g le ?_)
   have ez:(((r^^^M.sm rows qq).log2 + 1:Nat):Int) - 1=(((r^^^M.sm rows qq).log2:Nat):Int):=by omega
   rw [lW hz,ez] at u5
   exact u5
theorem jj (T:Tx K mg a):FnOk P w K mg base CX0 3 a.aR a.gI ["self","rows"] (Ot a.aJ):=by
 have Fs:=@A7 P w K mg base a T
 refine T.d5.ok fB (fun vs H Q E h=>?_) (fun cdv A outer s H vs Q E hr h=>?_)
 ·obtain ⟨x,dx,r,rows,rfl,_⟩:=h;rfl
 ·obtain ⟨x,dx,r,rows,rfl,hw,hl,hx,q⟩:=h
  have hu:=MV hr
  have rx:r≠x:=ig hw hx (by simp)
  refine ⟨_,((ai (pj (K:=K) rfl (pv 0) Mz rfl)
   (ai (pj (K:=K) rfl (pv 0) (bK ae) rfl)
   (ai (pj (K:=K) rfl (pv 0) (bK ae) rfl)
   (aj (gj PassesOwn.never rfl (mM (K:=K) rfl (by rfl) T.dz (pv 1)) (t4 rfl (bY (aG (i:=2) fB.nd rfl (by walk_at "o")) (bY (aG (i:=3) fB.nd rfl (by walk_at "o")) jH))) (aj (dU (yS (pv 0) T.eh T.Eg Fs (hr.mono (by decide)) T.nu .nil aF (aa (pv 2) (aa (pv 3) ae))))))))))),aE (σ':=[some _,some _,none,none]) rfl ?_⟩
  walk_at "l2"
  intro d H1 f1 s1 e1
  walk_at "l2"
  have dx1:d≠x:=fun z=>by rw [z,hx] at f1;cases f1
  refine pd (s1.get hx) T.eh T.dc (by decide) rfl fun H2 u2=>?_
  walk_at "l2"
  intro f H3 f3 s3 e3
  walk_at "l2"
  have fx1:f≠x:=fun z=>by rw [z,u2.at'] at f3;cases f3
  refine pd (s3.get u2.at') T.eh T.ij (by show 1 < 1000;decide) rfl fun H4 u4=>?_
  walk_at "l2"
  intro n H5 f5 s5 e5
  walk_at "l2"
  have nx1:n≠x:=fun z=>by rw [z,u4.at'] at f5;cases f5
  refine pd (s5.get u4.at') T.eh T.eR (by show 2 < 1000;decide) rfl fun H6 u6=>?_
  have k1:∀ b o,b≠x→H b=some o→H2 b=some o:=fun b o nb e=>u2.oth _ _ nb (s1.get e)
  have k2:∀ b o,b≠x→H b=some o→H4 b=some o:=fun b o nb e=>u4.oth _ _ nb (s3.get (k1 b o nb e))
  have k3:∀ b o,b≠x→H b=some o→H6 b=some o:=fun b o nb e=>u6.oth _ _ nb (s5.get (k2 b o nb e))
  have nd:∀ b o,H b=some o→b≠d:=fun b o e=>av e f1
  have nf:∀ b o,b≠x→H b=some o→b≠f:=fun b o nb e=>av (k1 b o nb e) f3
  have nn:∀ b o,b≠x→H b=some o→b≠n:=fun b o nb e=>av (k2 b o nb e) f5
  have e3':=u4.oth _ _ fx1 e3
  have fn:f≠n:=av e3' f5
  have hd0:H6 d=some (.dK (n6 [])):=u6.oth _ _ dx1 (s5.get (u4.oth _ _ dx1 (s3.get (u2.oth _ _ dx1 e1))))
  have hw6:=k3 _ _ rx hw
  walk_at "l2"
  refine og (xs:=rows.map nat) (fun i σ H'=>∃ v v',σ=[some (.ref x),some (.ref r),v,v']∧StA H' a.aJ x d f n (rows.take i)∧∀ b o,b≠x→H b=some o→H' b=some o) ?_ ?_ ?_ ?_
  ·refine ⟨none,none,rfl,⟨⟨dx,u6.at'⟩,⟨[],hd0,fun _ h=>absurd h (by simp),M.Ech.nil,rfl⟩,u6.oth _ _ fx1 (s5.get e3'),⟨[],u6.oth _ _ nx1 e5,M.NulF.nil⟩,fn⟩,k3⟩
  ·rintro i σ H' _ ⟨v,v',_,_,k⟩
   exact SqL.of (k _ _ rx hw)
  ·rintro i y σ H' p H7 hy ⟨v,v',rfl,st,k⟩ fp s7 e7
   obtain ⟨ri,hri,rfl⟩:=bH hy
   obtain ⟨dx7,ho7⟩:=(st.same s7).ho
   walk_at "l2"
   refine lK ho7 rfl ?_
   walk_at "l2"
   have tl:=sV hri
   refine ⟨x,d,f,n,rows.take i,ri,by rw [tl],st.same s7,by rw [tl];have:=(List.getElem?_eq_some_iff.mp hri).1;omega,fun H8 fr8 st8=>?_⟩
   walk_at "l2"
   refine ⟨_,_,rfl,by rw [take_succ hri];exact st8,fun b o nb e=>fr8 b o (nd b o e) (nf b o nb e) (nn b o nb e) (s7.get (k b o nb e))⟩
  ·rintro σ H' ⟨v,v',rfl,st,k⟩
   rw [List.length_map,List.take_length] at st
   walk_at "l2"
   exact q H' d f n k st
theorem GU (T:Tx K mg a):FnOk P w K mg base CX0 5 a.eW a.vt ["rows","wish"] Gq:=by
 have gP:=@jj P w K mg base a T
 have iy:=@j7 P w K mg base a T
 have vY:=@rP P w K mg base a T
 have lG:=@pF P w K mg base a T
 refine T.oM.ok o7 (fun vs H Q E h=>?_) (fun cdv A outer s H vs Q E hr h=>?_)
 ·obtain ⟨r,rows,x,rfl,_⟩:=h;rfl
 ·obtain ⟨r,rows,x,rfl,hw,hl,hr1,hx1,h64,qA,qB⟩:=h
  refine ⟨_,((ai (au (i:=2) o7.nd rfl (by walk_at "o") (DN T.Ly gP (hr.mono (by decide)) (by rfl) T.KJ T.d2 .nil aF (aa (pv 0) ae)))
   (ai (au (i:=3) o7.nd rfl (by walk_at "o") (yS (pv 2) T.eh T.kL iy (hr.mono (by decide)) T.fg .nil aF (aa (pv 1) ae)))
   (ai (cJ (aP jh (aX (aw (K:=K) rfl) (pv 3) af (fun _ _=>rfl)) af (aL _)) (aj (aI (eP (aa fq (aa (aq lG (hr.mono (by decide)) (by rfl) T.vd T.uZ T.lC .nil aF (aa (aX (aw (K:=K) rfl) (pv 3) af (fun _ _=>rfl)) ae)) ae))))) aQ)
   (aj (aI (eP (aa fq (aa (yS (pv 2) T.eh T.uH vY (hr.mono (by decide)) T.ix .nil aF (aa (ar uf (kI (K:=K) rfl PySem.F.plainAttrs_int PySem.F.slot_int_bit_length PySem.F.type_int_bit_length mU (aX (aw (K:=K) rfl) (pv 3) af (fun _ _=>rfl))) af) ae)) ae))))))))),aE (σ':=[some _,some _,none,none]) rfl ?_⟩
  walk_at "l2"
  intro p dx H2 f2 s2 e2
  refine ⟨p,dx,r,rows,rfl,s2.get hw,hl,e2,fun H3 d f n k st=>⟨rfl,?_⟩⟩
  obtain ⟨dx3,ho⟩:=st.ho
  have hs:Same H H3:=fun b o e=>k b o (av e f2) (s2.get e)
  walk_at "l2"
  refine lK ho rfl ?_
  walk_at "l2"
  refine ⟨p,d,f,n,rows,x,rfl,st,fun t H4 qq f4 s4 e4 hq hn hfr=>?_⟩
  walk_at "l2"
  refine iteB (fun hc=>?_) (fun hc=>?_)
  ·have hz:x^^^M.sm rows qq=0:=by have:=V.int.inj (of_decide_eq_true hc);omega
   have hsm:M.sm rows qq=x:=by
    have:=congrArg (x^^^·) hz
    simp only [← Nat.xor_assoc,Nat.xor_self,Nat.zero_xor,Nat.xor_zero] at this
    exact this
   walk_at "l2"
   refine ⟨qq,rfl,Nat.lt_of_lt_of_le hq (Nat.pow_le_pow_right (by decide) hl),fun D H5 f5 s5 e5=>?_⟩
   walk_at "l2"
   intro t' H6 f6 s6 e6
   exact qA t' D H6 qq (lV (hs.trans s4) f5) (hs.trans (s4.trans (s5.trans s6))) e6 (s6.get e5) ⟨hq,hsm,hfr⟩
  ·have hz:x^^^M.sm rows qq≠0:=fun z=>by rw [z] at hc;exact absurd hc (by decide)
   have hx1':x^^^M.sm rows qq < 2 ^ 1000:=M.xor_lt_pow hx1 (M.span_lt hr1 (M.sm_span rows qq))
   have hb1:=M.log2_under hz hx1'
   have hns:¬ M.Span rows x:=fun hsp=>hn hz _ (M.span_xor hsp (M.sm_span rows qq)) hz rfl
   have h64':(M.fr rows).length < 64:=h64.resolve_left hns
   have ez:(((x^^^M.sm rows qq).log2 + 1:Nat):Int) - 1=(((x^^^M.sm rows qq).log2:Nat):Int):=by omega
   walk_at "l2"
   refine lK (s4.get ho) rfl ?_
   walk_at "l2"
   rw [lW hz,ez]
   refine ⟨p,d,f,n,rows,(x^^^M.sm rows qq).log2,rfl,st.same s4,hb1,hr1,h64',hn hz,fun m H5 s5 B=>?_⟩
   walk_at "l2"
   intro t' H6 f6 s6 e6
   refine qB t' H6 m (hs.trans (s4.trans (s5.trans s6))) e6 ⟨hns,⟨M.sm rows qq,M.sm_span _ _,hz,hn hz,B⟩,B.ev,B.odd hz rfl hb1,fun W hW hxW=>B.lt W hW ?_⟩
   exact M.log2_under hz (M.xor_lt_pow hxW (M.span_lt hW (M.sm_span rows qq)))
theorem A3 (T:Tx K mg a):FnOk P w K mg base CX0 5 a.cP a.mZ ["rows"] LV:=by
 have gP:=@jj P w K mg base a T
 have lG:=@pF P w K mg base a T
 refine T.jV.ok AH (fun vs H Q E h=>?_) (fun cdv A outer s H vs Q E hr h=>?_)
 ·obtain ⟨r,rows,rfl,_⟩:=h;rfl
 ·obtain ⟨r,rows,rfl,hw,hl,q⟩:=h
  refine ⟨_,((aj (aI (hG (osc:=ah d8) (ON:=["rows"]) (N:=["places"]) (n:=1) (fx:=[]) rfl rfl rfl (by decide +kernel) (bJ (K:=K) rfl (eg (K:=K) rfl (DN T.Ly gP (hr.mono (by decide)) (by rfl) T.KJ T.d2 .nil aF (aa (pv 0) ae)) rfl)) (cL (by decide)) (fun _ _ _ _ _=>⟨(aG (i:=0) (show List.Nodup (["places"]:List Str) from by decide +kernel) rfl (by walk_at "o")),fK,(aq lG (hr.mono (by decide)) (by rfl) T.vd T.uZ T.lC .nil aF (aa (pv 0) ae))⟩))))),aE (σ':=[some _]) rfl ?_⟩
  walk_at "l2"
  intro x dx H2 f2 s2 e2
  refine ⟨x,dx,r,rows,rfl,s2.get hw,hl,e2,fun H3 d f n k st=>⟨rfl,?_⟩⟩
  obtain ⟨dx3,ho⟩:=st.ho
  obtain ⟨nms,hn,gn⟩:=st.hn
  have ln:=gn.len
  have hs:Same H H3:=fun b o e=>k b o (av e f2) (s2.get e)
  refine d9 ho T.eh T.eR rfl ?_
  walk_at "l2"
  intro D hD
  refine cZ (xs:=nms.map nat) (fun i ys H'=>∃ ps:List (Addr×Nat),ys=ps.map (fun q=>V.ref q.1)∧ps.map (·.2)=nms.take i∧(∀ q∈ps,H' q.1=some (.lst ((M.pl 1000 q.2).map nat))∧q.1≠D)∧Same H3 H'∧H' D=some (.lst ys)) ⟨[],rfl,rfl,fun _ h=>absurd h (by simp),fQ hD,bo⟩ (fun i ys H' _ ⟨ps,_,_,_,s',_⟩=>SqL.of (s'.get hn)) ?_ ?_
  ·rintro i y ys H' hy ⟨ps,rfl,hps,hq,s',eD⟩
   obtain ⟨m,hm,rfl⟩:=bH hy
   have hi:=(List.getElem?_eq_some_iff.mp hm).1
   have hmlt:m < 2 ^ 1000:=Nat.lt_of_lt_of_le (gn.lt m (List.mem_of_getElem? hm)) (Nat.pow_le_pow_right (by decide) hl)
   have hlen:ps.length=i:=by have:=congrArg List.length hps;rw [List.length_map,sV hm] at this;exact this
   walk_at "l2"
   refine ⟨m,rfl,hmlt,fun B H4 f4 s4 e4=>?_⟩
   refine ⟨s4.get eD,by rw [List.length_map];exact i7 (by omega),ps++[(B,m)],by rw [List.map_append];rfl,by rw [List.map_append,hps,take_succ hm];rfl,?_,?_,?_⟩
   ·intro q' hq'
    have nB:B≠D:=fun z=>by rw [z,eD] at f4;cases f4
    rcases List.mem_append.mp hq' with h | h
    ·have:=hq q' h
     exact ⟨by rw [aV this.2];exact s4.get this.1,this.2⟩
    ·rw [List.mem_singleton] at h;subst h
     exact ⟨by rw [aV nB];exact e4,nB⟩
   ·intro b o e
    rw [aV (av e hD)]
    exact s4.get (s'.get e)
   ·rw [bo]
  ·rintro ys H' ⟨ps,rfl,hps,hq,s',eD⟩
   rw [List.length_map,List.take_length] at hps
   exact q D H' ps (hs.free hD) (hs.trans s') eD (fun q' h=>(hq q' h).1) (by rw [hps];exact gn)
end
section
variable {P:Program} {w:World} {K:PySem.W.Frag} {mg:Str→Option Value} {base:Heap} {a:Ad}
local macro_rules | `(tactic| walk_at "l2step") =>`(tactic| first | ((with_reducible refine' qD ?e ?_);(case e=>walk_at "l2kind")) | ((with_reducible refine' yq ?e ?_);(case e=>walk_at "l2kind")) | (with_reducible refine nI ?_) | (with_reducible refine tP ?_))
theorem yW (T:Tx K mg a):FnOk P w K mg base (CX1 P w) 3 a.cv a.kS ["rows","width"] (Mb K a.aN):=by
 have gx:FnOk P w K mg base CX0 2 a.dB a.kR ["thing","width"] (yx K):=lP T
 refine T.iL.okX yF (fun vs H Q E h=>?_) (fun cdv A outer s H vs Q E hr h=>?_)
 ·obtain ⟨y,wd,o,rfl,_⟩:=h;rfl
 ·obtain ⟨y,wd,o,rfl,hwd,hrow,q,qE⟩:=h
  refine ⟨_,((ai (cJ (PW.pt (mK (dj (cI (ax (c4 (K:=K) rfl) (by rfl) T.bc PyProof.Rows.boot_isinstance (aa (pv 0) (aa (gy (v:= .ty "list") (by rfl) T.j8 PyProof.Rows.boot_list rfl) ae))))) (jf (aP ug (ax (aK (K:=K) rfl) (by rfl) T.eQ PySem.boot_len (aa (pv 0) ae)) (pE (v:= .int 40) (by rfl) T.BN ⟨_,rfl⟩) (aL _))))) (aj (gS PySem.F.excBase_ValueError T.jC dF rfl (by rfl) T.sY (aa fq ae))) aQ)
   (aj (cJ (dj (cI (ax (Ct (K:=K) rfl rfl) (by rfl) T.Rz PyProof.Rows.boot_all (aa (hG (osc:=ah du) (ON:=["rows","width"]) (N:=["row","width"]) (n:=1) (fx:=[1]) rfl rfl rfl (by decide +kernel) (bJ (K:=K) rfl (pv 0)) (cL (by decide)) (fun _ _ _ _ _=>⟨(aG (i:=0) (show List.Nodup (["row","width"]:List Str) from by decide +kernel) rfl (by walk_at "o")),fK,(aq gx (hr.mono (by decide)) (by rfl) T.kP T.kO T.iw .nil aF (aa (pv 0) (aa (pv 1) ae)))⟩)) ae)))) (aj (gS PySem.F.excBase_ValueError T.jC dF rfl (by rfl) T.sY (aa fq ae))) aQ)))),aE (σ':=[some _,some _]) rfl ?_⟩
  cases o with
  | none=>
    obtain ⟨k,hk,hne⟩:=hrow
    have hsub:subB k "list"=false:=by
     unfold subB
     rw [beq_eq_false_iff_ne.mpr hne];cases (k == "bool")<;>rfl
    walk_at "l2"
    rw [hsub]
    walk_at "l2"
    exact ⟨by rw [sizeLine_eq];decide,qE rfl H (Same.refl _)⟩
  | some xs=>
    obtain ⟨r,rfl,hq,hks⟩:=hrow
    walk_at "l2"
    by_cases hl:xs.length≤40
    ·refine tQ (decide_eq_false (by omega)) ?_
     walk_at "l2"
     intro D hD
     refine cZ (xs:=xs) (fun i ys H'=>Cs (fun i ys=>ys=((xs.take i).map fun x=>dM x wd).map V.bl) H D i ys H') (Cs.zero hD rfl) (fun i ys H' _ c=>Same.seq c.same hq) (fun i x ys H' hx c=>?_) (fun ys H' c=>?_)
     ·have hi:=(List.getElem?_eq_some_iff.mp hx).1
      obtain ⟨k,hk⟩:=hks x (List.mem_of_getElem? hx)
      have hk':=n9 hk c.same
      walk_at "l2"
      refine Cs.put hD c.same c.at' c.len (by omega) ?_
      rw [c.pv,take_succ hx,List.map_append,List.map_append];rfl
     ·have ec:=c.at'
      rw [c.pv,List.take_length] at ec
      walk_at "l2"
      refine NG (SqL.of ec) ?_
      have eall:(xs.map fun x=>dM x wd).all id=xs.all fun x=>dM x wd:=by rw [List.all_map];rfl
      walk_at "l2"
      cases hm:xs.all fun x=>dM x wd with
      | true=>
        refine tQ (by rw [eall,hm];rfl) ?_
        walk_at "l2"
        exact q (by show (decide (xs.length≤40)&&xs.all fun x=>dM x wd)=true;rw [hm,decide_eq_true hl];rfl) H' c.same
      | false=>
        refine Dz (by rw [eall,hm];rfl) ?_
        walk_at "l2"
        exact ⟨by rw [sizeLine_eq];decide,qE (by show (decide (xs.length≤40)&&xs.all fun x=>dM x wd)=false;rw [hm,Bool.and_false]) H' c.same⟩
    ·refine Dz (decide_eq_true (by omega)) ?_
     walk_at "l2"
     exact ⟨by rw [sizeLine_eq];decide,qE (by show (decide (xs.length≤40)&&xs.all fun x=>dM x wd)=false;rw [decide_eq_false hl,Bool.false_and]) H (Same.refl _)⟩
theorem DR (T:Tx K mg a):FnOk P w K mg base CX0 3 a.dN a.qm ["mask","outs"] LY:=by
 have lG:=@pF P w K mg base a T
 refine T.lZ.ok Dw (fun vs H Q E h=>?_) (fun cdv A outer s H vs Q E hr h=>?_)
 ·obtain ⟨mk,ou,rfl,_⟩:=h;rfl
 ·obtain ⟨mk,ou,rfl,hm,ho,ho2,q⟩:=h
  refine ⟨_,((aj (aI (hG (osc:=ah fC) (ON:=["mask","outs"]) (N:=["place","outs"]) (n:=1) (fx:=[1]) rfl rfl rfl (by decide +kernel) (bJ (K:=K) rfl (aq lG (hr.mono (by decide)) (by rfl) T.vd T.uZ T.lC .nil aF (aa (pv 0) ae))) (cL (by decide)) (fun _ _ _ _ _=>⟨(aG (i:=0) (show List.Nodup (["place","outs"]:List Str) from by decide +kernel) rfl (by walk_at "o")),fK,(ax HV (by rfl) T.MH PyProof.Rows.boot_divmod (aa (pv 0) (aa (pv 1) ae)))⟩))))),aE (σ':=[some _,some _]) rfl ?_⟩
  walk_at "l2"
  refine ⟨mk,rfl,hm,fun B H1 f1 s1 e1=>?_⟩
  walk_at "l2"
  intro D hD
  refine cZ (xs:=(M.pl 1000 mk).map nat) (fun j ys H'=>Cp (fun qs=>prs qs=((M.pl 1000 mk).take qs.length).map fun p=>(p / ou,p % ou)) H1 D j ys H') (PZ hD rfl) (fun j ys H' _ ⟨_,_,_,_,_,s',_⟩=>SqL.of (s'.get e1)) (fun i v ys H' hv c=>?_) (fun ys H' c=>?_)
  ·obtain ⟨qs,rfl,lq,pv,pt,s',eD⟩:=c
   obtain ⟨p,hp,rfl⟩:=bH hv
   have hi:=(List.getElem?_eq_some_iff.mp hp).1
   have hi2:=M.pl_le 1000 mk
   walk_at "l2"
   refine QU (by omega) (by omega) fun t2 H2' f2' s2' e2'=>?_
   rw [← Int.natCast_ediv,← Int.natCast_emod] at e2'
   refine RY hD lq pt s' eD s2' e2' (by omega) ?_
   rw [List.length_append,List.length_singleton,lq,take_succ hp,List.map_append,← lq,← pv]
   exact List.map_append
  ·obtain ⟨qs,rfl,lq,pv,pt,s',eD⟩:=c
   rw [List.length_map] at lq
   rw [lq,List.take_length] at pv
   exact q D H' (s1.free hD) (s1.trans s') ⟨qs,eD,pt,pv⟩
theorem JU (T:Tx K mg a):FnOk P w K mg base (CX1 P w) 7 a.oh a.K7 ["machine","rows","answers"] (Jn K a.ao a.aN):=by
 have rH:=@yW P w K mg base a T
 have Iv:=@DR P w K mg base a T
 have An:=@JS P w K mg base a T
 have LB:=@GU P w K mg base a T
 have Fp:=@A3 P w K mg base a T
 have oI:=@ya P w K mg base a T
 have oJ:=@wu P w K mg base a T
 have qP:=@nS P w K mg base a T
 have sS:=@pJ P w K mg base a T
 refine T.F9.okX o8 (fun vs H Q E h=>?_) (fun cdv A outer s H vs Q E hr h=>?_)
 ·obtain ⟨p,m,nx,os,y,z,o1,o2,rfl,_⟩:=h;rfl
 ·obtain ⟨p,m,nx,os,y,z,o1,o2,rfl,ma,g,ln,r1,r2,hz2,q,qE⟩:=h
  refine ⟨_,((ai (dU (lO rH (hr.mono (by decide)) (by rfl) T.rm T.rj T.iJ .nil dF (aa (pv 1) (aa (eg (K:=K) rfl (pv 0) rfl) ae))))
   (ai (au (i:=3) o8.nd rfl (by walk_at "o") (FM (pv 0) T.bu T.pZ qP (hr.mono (by decide)) T.fO .nil aF))
   (ai (dU (lO rH (hr.mono (by decide)) (by rfl) T.rm T.rj T.iJ .nil dF (aa (pv 2) (aa (pv 3) ae))))
   (ai (cJ (aP DP (ax (aK (K:=K) rfl) (by rfl) T.eQ PySem.boot_len (aa (pv 2) ae)) (ax (aK (K:=K) rfl) (by rfl) T.eQ PySem.boot_len (aa (pv 1) ae)) (aL _)) (aj (gS PySem.F.excBase_ValueError T.jC dF rfl (by rfl) T.sY (aa fq ae))) aQ)
   (ai (au (i:=4) o8.nd rfl (by walk_at "o") (ar JQ (bK (aa af ae)) (ax (aK (K:=K) rfl) (by rfl) T.eQ PySem.boot_len (aa (pv 1) ae))))
   (ai (pq (osc:=ah qS) (ON:=["machine","rows","answers","outs","silent","added","wish","found"]) (N:=["store","machine","silent","outs"]) (n:=1) (fx:=[0,4,3]) (i:=5) o8.nd rfl rfl rfl rfl rfl rfl (by decide +kernel) (jg (by rfl) T.pX (aa (FM (pv 0) T.bu T.rZ sS (hr.mono (by decide)) T.gO .nil aF) ae)) (cL (by decide)) (fun _ _ _ _ _=>⟨(aG (i:=0) (show List.Nodup (["store","machine","silent","outs"]:List Str) from by decide +kernel) rfl (by walk_at "o")),fK,(aq An (hr.mono (by decide)) (by rfl) T.zE T.zy T.oF .nil aF (aa (lN (pv 1) T.bu T.nX oJ (hr.mono (by decide)) T.jU .nil thr0 (aa (pv 2) (aa (ar gq af (pv 0)) ae))) (aa (pv 3) ae)))⟩))
   (ai (au (i:=6) o8.nd rfl (by walk_at "o") (ar hX (aq An (hr.mono (by decide)) (by rfl) T.zE T.zy T.oF .nil aF (aa (pv 2) (aa (pv 3) ae))) (aq An (hr.mono (by decide)) (by rfl) T.zE T.zy T.oF .nil aF (aa (lN (dvs:=[.int 0]) (pv 0) T.bu T.nX oJ (hr.mono (by decide)) T.j2 (.cons T.yv .nil) dF (aa (pv 1) ae)) (aa (pv 3) ae)))))
   (ai (au (i:=7) o8.nd rfl (by walk_at "o") (aq LB (hr.mono (by decide)) (by rfl) T.KG T.Kr T.vM .nil aF (aa (pv 5) (aa (pv 6) ae))))
   (ai (cJ (aP jh (aX (aw (K:=K) rfl) (pv 7) af (fun _ _=>rfl)) fq (aL _)) (aj (aI (eP (aa fq (aa (aq oI (hr.mono (by decide)) (by rfl) T.vc T.uY T.ly .nil aF (aa (aX (aw (K:=K) rfl) (pv 7) af (fun _ _=>rfl)) ae)) (aa (hG (osc:=ah qS) (ON:=["machine","rows","answers","outs","silent","added","wish","found"]) (N:=["places"]) (n:=1) (fx:=[]) rfl rfl rfl (by decide +kernel) (bJ (K:=K) rfl (aq Fp (hr.mono (by decide)) (by rfl) T.EB T.Ew T.nq .nil aF (aa (pv 5) ae))) (cL (by decide)) (fun _ _ _ _ _=>⟨(aG (i:=0) (show List.Nodup (["places"]:List Str) from by decide +kernel) rfl (by walk_at "o")),fK,(aq oI (hr.mono (by decide)) (by rfl) T.vc T.uY T.ly .nil aF (aa (pv 0) ae))⟩)) ae)))))) aQ)
   (aj (aI (eP (aa fq (aa (aq Iv (hr.mono (by decide)) (by rfl) T.Hz T.Hu T.qI .nil aF (aa (aX (aw (K:=K) rfl) (pv 7) af (fun _ _=>rfl)) (aa (pv 3) ae))) ae))))))))))))))),aE (σ':=[some _,some _,some _,none,none,none,none,none]) rfl ?_⟩
  obtain ⟨dx,Tn,To,em,en,eo⟩:=ma.ho
  have m6:=g.m6
  have lo6:=g.lo
  walk_at "l2"
  refine d9 em T.bu T.gE rfl ?_
  walk_at "l2"
  refine ⟨y,m,o1,rfl,by omega,r1,fun hb1 H1 s1=>?_,fun hb1 H1 s1=>qE (by rw [hb1];rfl) H1 s1⟩
  walk_at "l2"
  refine lK (s1.get em) rfl ?_
  walk_at "l2"
  refine ⟨p,m,nx,os,rfl,ma.same s1,?_⟩
  walk_at "l2"
  refine ⟨z,os.length,o2,rfl,by omega,r2.same s1,fun hb2 H2 s2=>?_,fun hb2 H2 s2=>qE (by rw [hb2,Bool.and_false];rfl) H2 (s1.trans s2)⟩
  have s12:=s1.trans s2
  obtain ⟨rs,rfl⟩:∃ rs:List Nat,o1=some (rs.map nat):=by
   cases o1 with
   | none=>cases hb1
   | some xs=>obtain ⟨rs,rfl,_⟩:=nJ hb1;exact ⟨rs,rfl⟩
  obtain ⟨an,rfl⟩:∃ an:List Nat,o2=some (an.map nat):=by
   cases o2 with
   | none=>cases hb2
   | some xs=>obtain ⟨rs,rfl,_⟩:=nJ hb2;exact ⟨rs,rfl⟩
  obtain ⟨rs',e,lrs,brs⟩:=nJ hb1
  obtain rfl:=jk e
  obtain ⟨an',e,lan,ban⟩:=nJ hb2
  obtain rfl:=jk e
  clear e
  obtain ⟨rr,rfl,qr,kr⟩:=r1.same s12
  obtain ⟨ra,rfl,qa,ka⟩:=r2.same s12
  clear r1 r2
  walk_at "l2"
  rw [List.length_map,List.length_map]
  by_cases hln:an.length=rs.length
  ·refine tQ (by rw [hln];simp) ?_
   have qQ:=q rs an rfl rfl lrs brs hln ban
   clear q qE hb1 hb2
   walk_at "l2"
   intro D2 H3 f3 s3 e3
   walk_at "l2"
   rw [List.length_map]
   walk_at "l2"
   refine OH e3 (by omega) (by omega) (by rw [sizeLine_eq,Int.toNat_natCast];simp;omega) fun D4 H4 f4 s4 e4=>?_
   rw [Int.toNat_natCast,List.flatten_replicate_singleton,show List.replicate rs.length (V.int 0)=(List.replicate rs.length 0).map nat from by rw [List.map_replicate];rfl] at e4
   have s14:=s12.trans (s3.trans s4)
   have hz0:∀ r∈List.replicate rs.length 0,r < 2 ^ m:=fun r hr=>by rw [List.eq_of_mem_replicate hr];exact Nat.two_pow_pos _
   have em4:=s14.get em
   have ma4:=ma.same s14
   have zk:∀ r∈(List.replicate rs.length 0).map nat,dM r m=true:=fun r hr=>by obtain ⟨b,hb,rfl⟩:=List.mem_map.mp hr;exact ik (hz0 b hb)
   walk_at "l2"
   refine lK em4 rfl ?_
   walk_at "l2"
   refine ⟨p,m,nx,os,rfl,ma4,?_⟩
   walk_at "l2"
   intro D5 hD5
   refine yh (fun i ys H'=>Cs (fun i ys=>ys=((List.range i).map fun k=>M.fad (prs nx) (prs os) rs.length (2 ^ k)).map nat) H4 D5 i ys H') (Cs.zero hD5 rfl) (fun i ys H' hi c=>?_) (fun ys H' c=>?_)
   ·have em':=c.same.get em4
    have ma':=ma4.same c.same
    have hi':i < nx.length:=by omega
    have h2:2 ^ i < 2 ^ nx.length:=Nat.pow_lt_pow_right (by decide) hi'
    walk_at "l2"
    refine jb em' rfl ?_
    walk_at "l2"
    rw [show ((0:Int) + (i:Int))=(i:Int) from Int.zero_add _,shl1]
    refine ⟨p,D4,m,nx,os,nat (2 ^ i),(List.replicate rs.length 0).map nat,rfl,⟨ma',g,⟨"int",rfl⟩,SqL.of (c.same.get e4),dW.nats _ _ _,by rw [List.length_map,List.length_replicate];omega⟩,fun a1 rs1 gd D6 H6 f6 s6 e6=>?_,fun bad=>False.elim (J7 h2 hz0 bad)⟩
    obtain ⟨rfl,rfl⟩:=BK gd
    have e6:H6 D6=some (.lst ((M.wan (prs nx) (prs os) (2 ^ i) (List.replicate rs.length 0)).map nat)):=e6
    have hw6:∀ y∈M.wan (prs nx) (prs os) (2 ^ i) (List.replicate rs.length 0),y < 2 ^ 60:=fun y hy=>Nat.lt_of_lt_of_le (M.wan_lt _ _ _ _ y hy) (Nat.pow_le_pow_right (by decide) (by rw [aW];omega))
    walk_at "l2"
    refine ⟨D6,_,os.length,rfl,e6,by rw [M.wan_len,List.length_replicate];omega,by omega,hw6,fun H7 s7=>?_⟩
    refine Cs.put hD5 (c.same.trans (s6.trans s7)) (s7.get (s6.get c.at')) c.len (by omega) ?_
    rw [c.pv,List.range_succ,List.map_append,List.map_append]
    show _=_++[nat (M.pkw (prs os).length _)]
    rw [aW]
   ·have ec:=c.at'
    rw [c.pv,Int.toNat_natCast] at ec
    have s5:=c.same
    clear c
    have s15:=s14.trans s5
    have ela:H' ra=some (.lst (an.map nat)):=by
     obtain ⟨r',e',h'⟩:=hz2 _ rfl
     have e':ra=r':=by injection e'
     subst e'
     exact s15.get h'
    have ma5:=ma4.same s5
    have em5:=s5.get em4
    walk_at "l2"
    refine ⟨ra,an,os.length,rfl,ela,by omega,by omega,fun y hy=>Nat.lt_of_lt_of_le (ban y hy) (Nat.pow_le_pow_right (by decide) (by omega)),fun H6 s6=>?_⟩
    walk_at "l2"
    refine jb (s6.get em5) rfl ?_
    walk_at "l2"
    refine ⟨p,rr,m,nx,os,nat 0,rs.map nat,rfl,⟨ma5.same s6,g,⟨"int",rfl⟩,Same.seq (s3.trans (s4.trans (s5.trans s6))) qr,dW.nats _ _ _,by rw [List.length_map];omega⟩,fun a1 rs1 gd D7 H7 f7 s7 e7=>?_,fun bad=>False.elim (J7 (Nat.two_pow_pos _) brs bad)⟩
    obtain ⟨rfl,rfl⟩:=BK gd
    have hw7:∀ y∈M.wan (prs nx) (prs os) 0 rs,y < 2 ^ 60:=fun y hy=>Nat.lt_of_lt_of_le (M.wan_lt _ _ _ _ y hy) (Nat.pow_le_pow_right (by decide) (by rw [aW];omega))
    walk_at "l2"
    refine ⟨D7,M.wan (prs nx) (prs os) 0 rs,os.length,rfl,e7,by rw [M.wan_len];omega,by omega,hw7,fun H8 s8=>?_⟩
    walk_at "l2"
    rw [bw]
    have s58:=s6.trans (s7.trans s8)
    have eadl:(List.range nx.length).map (fun k=>M.fad (prs nx) (prs os) rs.length (2 ^ k))=M.adl (prs nx) (prs os) rs.length:=by unfold M.adl;rw [aW]
    rw [eadl] at ec
    have lal:(M.adl (prs nx) (prs os) rs.length).length=nx.length:=by rw [M.adl_len,aW]
    have hmul:rs.length * os.length≤40 * 6:=Nat.mul_le_mul lrs (by omega)
    have bal:∀ r∈M.adl (prs nx) (prs os) rs.length,r < 2 ^ (rs.length * os.length):=fun r hr=>by have:=M.adl_lt r hr;rwa [aW] at this
    have hwl:wsh nx os rs an < 2 ^ (rs.length * os.length):=by
     refine M.xor_lt_pow ?_ ?_
     ·have:=M.pkw_lt ban;rwa [hln] at this
     ·have:=M.pkw_lt (w:=os.length) (ps:=M.wan (prs nx) (prs os) 0 rs) (fun y hy=>by have:=M.wan_lt _ _ _ _ y hy;rwa [aW] at this)
      rwa [M.wan_len] at this
    have hrk:=M.fr_len (M.adl (prs nx) (prs os) rs.length)
    walk_at "l2"
    refine ⟨D5,M.adl (prs nx) (prs os) rs.length,wsh nx os rs an,rfl,s58.get ec,by omega,fun r hr=>cn (bal r hr) (by omega),cn hwl (by omega),.inr (by omega),fun t D9 H9 qq f9 s9 e9 e9' sd=>?_,fun t H9 mk s9 e9 bd=>?_⟩
    ·have hq1:qq < 2 ^ 1000:=cn sd.lt (by omega)
     have ec9:=s9.get (s58.get ec)
     have s19:=s15.trans (s58.trans s9)
     walk_at "l2"
     refine ⟨D9,M.pl 1000 qq,rfl,e9',fun x hx=>List.mem_range.mp (List.mem_filter.mp hx).1,?_⟩
     rw [Qi hq1]
     walk_at "l2"
     refine ⟨D5,_,rfl,ec9,by omega,fun D10 H10 ps f10 s10 e10 hps nf=>?_⟩
     walk_at "l2"
     intro D11 hD11
     have nl:∀ x∈ps.map (·.2),x < 2 ^ 1000:=fun x hx=>cn (nf.lt x hx) (by omega)
     have nlen:=nf.len
     rw [List.length_map] at nlen
     refine cZ (xs:=ps.map fun q=>V.ref q.1) (fun i ys H'=>Cs (fun i ys=>ys=((ps.map (·.2)).take i).map nat) H10 D11 i ys H') (Cs.zero hD11 rfl) (fun i ys H' _ c=>SqL.of (c.same.get e10)) (fun i v ys H' hv c=>?_) (fun ys H' c=>?_)
     ·obtain ⟨q1,h1,rfl⟩:=bH hv
      have hi:=(List.getElem?_eq_some_iff.mp h1).1
      have hm1:=List.mem_of_getElem? h1
      have e1':=c.same.get (hps q1 hm1)
      walk_at "l2"
      refine ⟨q1.1,M.pl 1000 q1.2,rfl,e1',fun x hx=>List.mem_range.mp (List.mem_filter.mp hx).1,?_⟩
      rw [Qi (nl q1.2 (List.mem_map.mpr ⟨q1,hm1,rfl⟩))]
      refine Cs.put hD11 c.same c.at' c.len (by omega) ?_
      rw [c.pv,take_succ (show (ps.map (·.2))[i]? =some q1.2 from by rw [List.getElem?_map,h1];rfl),List.map_append];rfl
     ·have ec11:=c.at'
      rw [c.pv,List.length_map,show ps.length=(ps.map (·.2)).length from (List.length_map ..).symm,List.take_length] at ec11
      have s11:=c.same
      clear c
      walk_at "l2"
      intro t12 H12 f12 s12' e12
      exact qQ t12 D11 H12 (lV (s19.trans s10) hD11) (s19.trans (s10.trans (s11.trans s12'))) (.inl ⟨qq,ps.map (·.2),e12,s12'.get ec11,sd,nf⟩)
    ·have ho0:0 < os.length:=Nat.pos_of_ne_zero fun z=>by
      rw [z,Nat.mul_zero] at hwl
      have:wsh nx os rs an=0:=by have:wsh nx os rs an < 1:=hwl;omega
      exact bd.ns (by rw [this];exact M.span_zero _)
     have hmk:mk < 2 ^ 1000:=cn (bd.lt _ bal hwl) (by omega)
     have s19:=s15.trans (s58.trans s9)
     walk_at "l2"
     refine ⟨mk,os.length,rfl,hmk,ho0,by omega,fun D10 H10 f10 s10 lk=>?_⟩
     walk_at "l2"
     intro t12 H12 f12 s12' e12
     exact qQ t12 D10 H12 (lV s19 f10) (s19.trans (s10.trans s12')) (.inr ⟨mk,e12,lk.same s12',bd⟩)
  ·refine Dz (by simp;omega) ?_
   walk_at "l2"
   exact ⟨by rw [sizeLine_eq];decide,qE (by rw [hb1,hb2];show decide ((rs.map nat).length=(an.map nat).length)=false;rw [List.length_map,List.length_map];exact decide_eq_false fun z=>hln z.symm) H2 s12⟩
end
section
variable {P:Program} {w:World} {K:PySem.W.Frag} {mg:Str→Option Value} {base:Heap} {a:Ad}
theorem DS (T:Tx K mg a):FnOk P w K mg base CX0 1 a.dO a.qo ["_law_number"] LZ:=by
 refine T.l6.ok jF (fun vs H Q E h=>?_) (fun cdv A outer s H vs Q E hr h=>?_)
 ·obtain ⟨n,rfl,_⟩:=h;rfl
 ·obtain ⟨n,rfl,hn,q⟩:=h
  refine ⟨_,((ai (au (i:=1) jF.nd rfl (by walk_at "o") af)
   (ai (yK PassesOwn.never (aP ug (pv 0) af (aL _)) (ai (au (i:=1) jF.nd rfl (by walk_at "o") (ar cX (pv 1) (ar bZ (pv 0) af)))
   (aj (au (i:=0) jF.nd rfl (by walk_at "o") (ar gD (pv 0) af)))))
   (aj (aI (ar bZ (pv 1) af)))))),aE (σ':=[some _,none]) rfl ?_⟩
  walk_at "l2"
  refine ⟨fun μ σ' H'=>∃ c:Nat,σ'=[some (nat μ),some (nat c)]∧H'=H∧μ < 2 ^ 1000∧(decide (c % 2=1)^^M.od μ)=M.od n,⟨n,0,rfl,rfl,hn,by simp⟩,?_⟩
  rintro μ σ' H' ⟨c,rfl,rfl,hμ,ho⟩
  walk_at "l2"
  by_cases h0:0 < μ
  ·refine Dz (decide_eq_true (by omega)) ?_
   refine ⟨fun σ2 H2=>∃ c:Nat,σ2=[some (nat (μ / 2)),some (nat c)]∧H2=H'∧(decide (c % 2=1)^^M.od (μ / 2))=M.od n,fun σ2 H2 ⟨c,e1,e2,e3⟩=>⟨μ / 2,by omega,c,e1,e2,by omega,e3⟩,?_⟩
   walk_at "l2"
   rw [show Int.natAbs 2=2 from rfl]
   rw [← ho,Pe hμ,Nat.testBit_zero]
   rcases Nat.mod_two_eq_zero_or_one μ with h | h<;>rcases Nat.mod_two_eq_zero_or_one c with h' | h'
   ·rw [show (c + μ % 2) % 2=0 by omega,h,h'];cases M.od (μ / 2)<;>rfl
   ·rw [show (c + μ % 2) % 2=1 by omega,h,h'];cases M.od (μ / 2)<;>rfl
   ·rw [show (c + μ % 2) % 2=1 by omega,h,h'];cases M.od (μ / 2)<;>rfl
   ·rw [show (c + μ % 2) % 2=0 by omega,h,h'];cases M.od (μ / 2)<;>rfl
  ·have e0:μ=0:=by omega
   subst e0
   walk_at "l2"
   rw [M.od_zero,Bool.xor_false] at ho
   have e1:(c:Int) % 2=((M.bn (M.od n):Nat):Int):=by
    rw [← ho]
    unfold M.bn
    rcases Nat.mod_two_eq_zero_or_one c with h | h
    ·rw [h];simp;omega
    ·rw [h];simp;omega
   rw [e1]
   exact q
local macro_rules | `(tactic| walk_at "l2step") =>`(tactic| (with_reducible refine s_iRevL ?_))
theorem A6 (T:Tx K mg a):FnOk P w K mg base CX0 2 a.cT a.ng ["_law_pairs","_law_state","_law_row"] (L8 K):=by
 have yt:=@DS P w K mg base a T
 refine T.jZ.ok gi (fun vs H Q E h=>?_) (fun cdv A outer s H vs Q E hr h=>?_)
 ·obtain ⟨r,ps,x,y,rfl,_⟩:=h;rfl
 ·obtain ⟨r,ps,x,y,rfl,hp,pt,hl,hx,hy,q⟩:=h
  refine ⟨_,((ai (au (i:=3) gi.nd rfl (by walk_at "o") af)
   (ai (gj PassesOwn.never rfl (mM (K:=K) rfl (by rfl) T.dz (pv 0)) (t4 rfl (bY (aG (i:=4) gi.nd rfl (by walk_at "o")) (bY (aG (i:=5) gi.nd rfl (by walk_at "o")) jH))) (aj (au (i:=3) gi.nd rfl (by walk_at "o") (ar cX (pv 3) (ar nQ (ar bZ (ar cX (aq yt (hr.mono (by decide)) (by rfl) T.yg T.ye T.lY .nil aF (aa (ar ji (aX (aw (K:=K) rfl) (pv 5) af (fun _ _=>rfl)) (pv 1)) ae)) (aq yt (hr.mono (by decide)) (by rfl) T.yg T.ye T.lY .nil aF (aa (ar ji (aX (aw (K:=K) rfl) (pv 5) af (fun _ _=>rfl)) (pv 2)) ae))) af) (ar gq af (pv 4)))))))
   (aj (aI (pv 3)))))),aE (σ':=[some _,some _,some _,none,none,none]) rfl ?_⟩
  walk_at "l2"
  refine og (xs:=refs ps) (fun i σ H'=>∃ v1 v2,σ=[some (.ref r),some (nat x),some (nat y),some (nat (M.tr2 (prs (ps.take i)) x y)),v1,v2]∧Same H H') ⟨none,none,rfl,Same.refl _⟩ (fun i σ H' _ ⟨_,_,_,e⟩=>Same.seq e hp) ?_ ?_
  ·rintro i z σ H' p H7 hz ⟨v1,v2,rfl,s6⟩ fp s7 e7
   obtain ⟨pr,hpr,rfl⟩:=bH hz
   have hi:=(List.getElem?_eq_some_iff.mp hpr).1
   have ht:=s7.get (s6.get (pt pr (List.mem_of_getElem? hpr)))
   walk_at "l2"
   rw [bR]
   refine ⟨pr.2.1&&&x,rfl,Nat.lt_of_le_of_lt Nat.and_le_right hx,?_⟩
   walk_at "l2"
   rw [bR]
   refine ⟨pr.2.2&&&y,rfl,Nat.lt_of_le_of_lt Nat.and_le_right hy,?_⟩
   walk_at "l2"
   rw [R4,Int.one_mul,R3,← Int.natCast_add,← Ja x y hpr]
   exact ⟨_,_,rfl,s6.trans s7⟩
  ·rintro σ H' ⟨v1,v2,rfl,s6⟩
   rw [dJ,List.take_length]
   walk_at "l2"
   exact q _ s6
theorem hZ (T:Tx K mg a):FnOk P w K mg base CX0 1 a.bE a.iU ["_law_thing","_law_width"] (Gu K):=by
 refine T.fZ.ok tM (fun vs H Q E h=>?_) (fun cdv A outer s H vs Q E hr h=>?_)
 ·obtain ⟨x,wd,rfl,_⟩:=h;rfl
 ·obtain ⟨x,wd,rfl,hw,q⟩:=h
  refine ⟨_,((aj (aI (j3 (ax (c4 (K:=K) rfl) (by rfl) T.bc PyProof.Rows.boot_isinstance (aa (pv 0) (aa (gy (v:= .ty "int") (by rfl) T.Ry PyProof.Rows.boot_int rfl) ae))) (j3 (NM (ax (c4 (K:=K) rfl) (by rfl) T.bc PyProof.Rows.boot_isinstance (aa (pv 0) (aa (gy (v:= .ty "bool") (by rfl) T.NT PyProof.Rows.boot_bool rfl) ae)))) (nN (MA Ro Pa af (pv 0) (ar gq af (pv 1))))))))),aE (σ':=[some _,some _]) rfl ?_⟩
  walk_at "l2"
  have e:decide ((x:Int) < 1 * 2 ^ ((wd:Int).toNat))=decide (x < 2 ^ wd):=by rw [shl1];exact decide_eq_decide.mpr Int.ofNat_lt
  rw [e]
  exact q
theorem um (T:Tx K mg a):FnOk P w K mg base CX0 2 a.bF a.iV ["_law_found","_law_width"] (Gv K):=by
 have dh:=@hZ P w K mg base a T
 refine T.gb.ok tN (fun vs H Q E h=>?_) (fun cdv A outer s H vs Q E hr h=>?_)
 ·obtain ⟨r,ms,wd,rfl,_⟩:=h;rfl
 ·obtain ⟨r,ms,wd,rfl,hp,hl,hw,hb,q⟩:=h
  have hu0:=N0 hr
  refine ⟨_,((aj (aI (j3 (ax (c4 (K:=K) rfl) (by rfl) T.bc PyProof.Rows.boot_isinstance (aa (pv 0) (aa (gy (v:= .ty "list") (by rfl) T.j8 PyProof.Rows.boot_list rfl) ae))) (nN (dw (Pc (K:=K) rfl hu0) (hG (osc:=ah cC) (ON:=["_law_found","_law_width"]) (N:=["_law_one","_law_width"]) (n:=1) (fx:=[1]) rfl rfl rfl (by decide +kernel) (bJ (K:=K) rfl (pv 0)) (cL (by decide)) (fun _ _ _ _ _=>⟨(aG (i:=0) (show List.Nodup (["_law_one","_law_width"]:List Str) from by decide +kernel) rfl (by walk_at "o")),(yJ (dj (cI (aq dh (hr.mono (by decide)) (by rfl) T.fU T.fS T.de .nil aF (aa (pv 0) (aa (pv 1) ae)))))),(pv 0)⟩)) (bK ae) (aL _))))))),aE (σ':=[some _,some _]) rfl ?_⟩
  walk_at "l2"
  intro D hD
  refine cZ (xs:=ms.map nat) (fun i ys H'=>Cs (fun i ys=>ys=[]) H D i ys H') (Cs.zero hD rfl) (fun i ys H' _ c=>SqL.of (c.same.get hp)) (fun i x ys H' hx c=>?_) (fun ys H' c=>?_)
  ·obtain ⟨y,hy,rfl⟩:=bH hx
   have hyb:=hb y (List.mem_of_getElem? hy)
   walk_at "l2"
   refine ⟨y,wd,rfl,hw,?_⟩
   rw [decide_eq_true hyb]
   walk_at "l2"
   exact Cs.skip c.same c.at' c.len c.pv
  ·have ec:=c.at'
   rw [c.pv] at ec
   walk_at "l2"
   intro D4 H4 f4 s4 e4
   refine QR (ns:=[]) (SqL.of (s4.get ec)) (SqL.of e4) ?_
   exact q _ (c.same.trans s4)
theorem rf (T:Tx K mg a):FnOk P w K mg base CX0 1 a.cU a.nh ["_law_nexts","_law_mask"] (Jm K):=by
 refine T.j0.ok dq (fun vs H Q E h=>?_) (fun cdv A outer s H vs Q E hr h=>?_)
 ·obtain ⟨r,ps,a0,rfl,_⟩:=h;rfl
 ·obtain ⟨r,ps,a0,rfl,hp,pt,ha0,q⟩:=h
  generalize hA:nA ps=As at q
  generalize hB:nB ps=Bs at q
  have lA:As.length=ps.length:=by rw [← hA,List.length_map]
  have lB:Bs.length=ps.length:=by rw [← hB,List.length_map]
  refine ⟨_,((ai (au (i:=2) dq.nd rfl (by walk_at "o") af)
   (ai (au (i:=3) dq.nd rfl (by walk_at "o") af)
   (ai (gj PassesOwn.never rfl (mM (K:=K) rfl (by rfl) T.dz (pv 0)) (t4 rfl (bY (aG (i:=4) dq.nd rfl (by walk_at "o")) (bY (aG (i:=5) dq.nd rfl (by walk_at "o")) jH))) (aj (cJ (aP jh (ar ji (ar FP (pv 1) (pv 4)) af) af (aL _)) (ai (au (i:=2) dq.nd rfl (by walk_at "o") (ar hX (pv 2) (aX (aw (K:=K) rfl) (pv 5) af (fun _ _=>rfl))))
   (aj (au (i:=3) dq.nd rfl (by walk_at "o") (ar hX (pv 3) (aX (aw (K:=K) rfl) (pv 5) af (fun _ _=>rfl)))))) aQ)))
   (aj (aI (eP (aa (pv 2) (aa (pv 3) ae))))))))),aE (σ':=[some _,some _,none,none,none,none]) rfl ?_⟩
  walk_at "l2"
  refine og (xs:=refs ps) (fun i σ H'=>∃ (v v':Option V),σ=[some (.ref r),some (nat a0),some (nat (M.sm (As.take i) a0)),some (nat (M.sm (Bs.take i) a0)),v,v']∧Same H H') ⟨none,none,rfl,Same.refl _⟩ (fun i σ H' _ ⟨_,_,_,e⟩=>Same.seq e hp) ?_ ?_
  ·rintro i y σ H' p H7 hy ⟨v,v',rfl,s6⟩ fp s7 e7
   obtain ⟨pr,hpr,rfl⟩:=bH hy
   have hi:=(List.getElem?_eq_some_iff.mp hpr).1
   have ht:=s7.get (s6.get (pt pr (List.mem_of_getElem? hpr)))
   have gA:=M.sm_step a0 (show As[i]? =some pr.2.1 by rw [← hA,List.getElem?_map,hpr];rfl)
   have gB:=M.sm_step a0 (show Bs[i]? =some pr.2.2 by rw [← hB,List.getElem?_map,hpr];rfl)
   walk_at "l2"
   rw [Lk]
   by_cases hb:a0.testBit i=true
   ·rw [if_pos hb] at gA gB ⊢
    walk_at "l2"
    rw [bw,bw,gA,gB]
    exact ⟨_,_,rfl,s6.trans s7⟩
   ·rw [if_neg hb] at gA gB ⊢
    rw [Nat.xor_zero] at gA gB
    walk_at "l2"
    rw [gA,gB]
    exact ⟨_,_,rfl,s6.trans s7⟩
  ·rintro σ H' ⟨v,v',rfl,s6⟩
   rw [dJ,← lA,List.take_length,lA,← lB,List.take_length]
   walk_at "l2"
   intro t H2 f2 s2 e2
   exact q t H2 (s6.trans s2) e2
theorem ie (T:Tx K mg a):FnOk P w K mg base CX0 3 a.bG a.iW ["_law_tables","_law_state","_law_rows_here"] (L9 K):=by
 have vX:=@A6 P w K mg base a T
 refine T.gc.ok eL (fun vs H Q E h=>?_) (fun cdv A outer s H vs Q E hr h=>?_)
 ·obtain ⟨t,n,o,rr,m,nx,os,rs,a0,rfl,_⟩:=h;rfl
 ·obtain ⟨t,n,o,rr,m,nx,os,rs,a0,rfl,tt,hrr,lrs,ha0,hb,q⟩:=h
  have ln:=tt.tab.ln
  have lo:=tt.tab.lo
  have m6:=tt.tab.m6
  refine ⟨_,((ai (au (i:=3) eL.nd rfl (by walk_at "o") (bK ae))
   (ai (gj PassesOwn.never rfl (bJ (K:=K) rfl (pv 2)) (aG (i:=4) eL.nd rfl (by walk_at "o")) (ai (dU (qU (K:=K) rfl PySem.F.plainAttrs_list PySem.F.slot_list_append PySem.F.type_list_append eV (pv 3) (aa (aq vX (hr.mono (by decide)) (by rfl) T.vf T.u1 T.jS .nil aF (aa (aX (aw (K:=K) rfl) (pv 0) af (fun _ _=>rfl)) (aa (pv 1) (aa (pv 4) ae)))) ae)))
   (aj (au (i:=1) eL.nd rfl (by walk_at "o") (aq vX (hr.mono (by decide)) (by rfl) T.vf T.u1 T.jS .nil aF (aa (aX (aw (K:=K) rfl) (pv 0) af (fun _ _=>rfl)) (aa (pv 1) (aa (pv 4) ae))))))))
   (aj (aI (pv 3)))))),aE (σ':=[some _,some _,some _,none,none]) rfl ?_⟩
  walk_at "l2"
  intro D H1 f1 s1 e1
  walk_at "l2"
  refine iD (xs:=rs.map nat) (fun i σ H'=>∃ v,σ=[some (.ref t),some (nat (M.wst (prs nx) a0 (rs.take i))),some (.ref rr),some (.ref D),v]∧Same H H'∧H' D=some (.lst ((M.wan (prs nx) (prs os) a0 (rs.take i)).map nat))) ⟨none,rfl,s1,e1⟩ (fun i σ H' _ ⟨_,_,e,_⟩=>Same.seq e hrr) ?_ ?_
  ·rintro i y σ H' hy ⟨v,rfl,s6,e6⟩
   obtain ⟨r,hr',rfl⟩:=bH hy
   have hi:=(List.getElem?_eq_some_iff.mp hr').1
   have hw:M.wst (prs nx) a0 (rs.take i) < 2 ^ nx.length:=by have:=M.wst_lt (ps:=prs nx) (rs:=rs.take i) (x:=a0) (by rw [aW];exact ha0);rwa [aW] at this
   have hw1:=cn hw (by omega)
   have hr1:=cn (hb r (List.mem_of_getElem? hr')) (by omega)
   have tt6:=tt.same s6
   have et:=tt6.t
   walk_at "l2"
   refine ⟨o,os,_,r,rfl,SqL.of tt6.tab.o,tt6.tab.po,by omega,hw1,hr1,fun H7 s7=>?_⟩
   walk_at "l2"
   refine iA (s7.get e6) (by rw [List.length_map,M.wan_len,List.length_take,sizeLine_eq];omega) fun H8 u8=>?_
   have s8:Same H H8:=fun b ob e=>u8.oth _ _ (av e f1) (s7.get (s6.get e))
   have tt8:=tt.same s8
   have et8:=tt8.t
   walk_at "l2"
   refine ⟨n,nx,_,r,rfl,SqL.of tt8.tab.n,tt8.tab.pn,by omega,hw1,hr1,fun H9 s9=>?_⟩
   walk_at "l2"
   rw [take_succ hr',M.wst_snoc,M.wan_snoc,List.map_append]
   exact ⟨_,rfl,s8.trans s9,s9.get u8.at'⟩
  ·rintro σ H' ⟨v,rfl,s6,e6⟩
   rw [List.length_map,List.take_length] at e6
   walk_at "l2"
   exact q D H' f1 s6 e6
end
section
variable {P:Program} {w:World} {K:PySem.W.Frag} {mg:Str→Option Value} {base:Heap} {a:Ad}
local macro_rules | `(tactic| walk_at "l2step") =>`(tactic| (with_reducible refine SQ ?_))
theorem Mj {l:List Nat} {i o:Nat} (x:Nat) (h:l[i]? =some o):M.red (l.take (i + 1)) x=min (M.red (l.take i) x) (M.red (l.take i) x^^^o):=by rw [take_succ h,M.red_snoc]
theorem A5 (T:Tx K mg a):FnOk P w K mg base CX0 1 a.cR a.m9 ["_law_masks_here"] Gs:=by
 refine T.jX.ok gh (fun vs H Q E h=>?_) (fun cdv A outer s H vs Q E hr h=>?_)
 ·obtain ⟨p,ss,rfl,_⟩:=h;rfl
 ·obtain ⟨p,ss,rfl,hp,hl,q⟩:=h
  refine ⟨_,((ai (au (i:=1) gh.nd rfl (by walk_at "o") (bK ae))
   (ai (gj PassesOwn.never rfl (bJ (K:=K) rfl (pv 0)) (aG (i:=2) gh.nd rfl (by walk_at "o")) (ai (gj PassesOwn.never rfl (bJ (K:=K) rfl (pv 1)) (aG (i:=3) gh.nd rfl (by walk_at "o")) (aj (au (i:=2) gh.nd rfl (by walk_at "o") (ax (Le rfl) (by rfl) T.S3 PyProof.Rows.boot_min (aa (pv 2) (aa (ar hX (pv 2) (pv 3)) ae))))))
   (aj (cJ (aP ug (pv 2) af (aL _)) (aj (dU (qU (K:=K) rfl PySem.F.plainAttrs_list PySem.F.slot_list_append PySem.F.type_list_append eV (pv 1) (aa (pv 2) ae)))) aQ))))
   (aj (aI (ax (aK (K:=K) rfl) (by rfl) T.eQ PySem.boot_len (aa (pv 1) ae))))))),aE (σ':=[some _,none,none,none]) rfl ?_⟩
  walk_at "l2"
  intro D H1 f1 s1 e1
  have hp1:=s1.get hp
  walk_at "l2"
  refine iD (xs:=ss.map nat) (fun i σ H'=>∃ v1 v2 left,σ=[some (.ref p),some (.ref D),v1,v2]∧Same H H'∧H' D=some (.lst (left.map nat))∧M.Lft left (ss.take i)∧left.length≤i) ⟨none,none,[],rfl,s1,e1,M.Lft.nil,Nat.zero_le _⟩ (fun i σ H' _ ⟨_,_,_,_,s',_⟩=>SqL.of (s'.get hp)) ?_ ?_
  ·rintro i y σ H' hy ⟨v1,v2,left,rfl,s',eD,lf,ll⟩
   obtain ⟨x,hx,rfl⟩:=bH hy
   have hi:=(List.getElem?_eq_some_iff.mp hx).1
   walk_at "l2"
   refine iD (xs:=left.map nat) (fun j σ H2=>∃ v,σ=[some (.ref p),some (.ref D),some (nat (M.red (left.take j) x)),v]∧H2=H') ⟨_,rfl,rfl⟩ (fun j σ H2 _ ⟨_,_,e⟩=>by subst e;exact SqL.of eD) ?_ ?_
   ·rintro j y σ H2 hy ⟨v,rfl,rfl⟩
    obtain ⟨o,ho,rfl⟩:=bH hy
    walk_at "l2"
    rw [bw,Pm,← Mj x ho]
    exact ⟨_,rfl,rfl⟩
   ·rintro σ H2 ⟨v,rfl,rfl⟩
    rw [List.length_map,List.take_length]
    walk_at "l2"
    by_cases h0:M.red left x=0
    ·refine tQ (decide_eq_false (by omega)) ?_
     walk_at "l2"
     refine ⟨_,_,left,rfl,s',eD,?_,by omega⟩
     rw [take_succ hx];exact lf.keep h0
    ·refine Dz (decide_eq_true (by omega)) ?_
     walk_at "l2"
     refine iA eD (by rw [List.length_map,sizeLine_eq];omega) fun H3 u3=>?_
     walk_at "l2"
     refine ⟨_,_,left++[M.red left x],rfl,fun b o e=>u3.oth _ _ (av e f1) (s'.get e),by rw [u3.at',List.map_append];rfl,?_,by rw [List.length_append];simp;omega⟩
     rw [take_succ hx];exact lf.more h0
  ·rintro σ H' ⟨v1,v2,left,rfl,s',eD,lf,ll⟩
   rw [List.length_map,List.take_length] at lf
   walk_at "l2"
   rw [List.length_map,lf.len]
   exact q H' s'
theorem pG (T:Tx K mg a):FnOk P w K mg base CX0 2 a.bf a.gG ["_law_tables","_law_turn","_law_output"] (L7 K):=by
 have nC:=@rf P w K mg base a T
 refine T.d3.ok dG (fun vs H Q E h=>?_) (fun cdv A outer s H vs Q E hr h=>?_)
 ·obtain ⟨t,n,o,m,nx,os,T',u,rfl,_⟩:=h;rfl
 ·obtain ⟨t,n,o,m,nx,os,T',u,rfl,tt,hT,hu,q⟩:=h
  have et:=tt.t
  have en:=tt.tab.n
  have eo:=tt.tab.o
  have ln:=tt.tab.ln
  obtain ⟨pr,hpr⟩:∃ pr,os[u]? =some pr:=⟨_,List.getElem?_eq_getElem hu⟩
  have epr:=tt.tab.po pr (List.mem_of_getElem? hpr)
  have hpr2:((prs os).getD u (0,0)).1=pr.2.1:=by rw [List.getD_eq_getElem?_getD,List.getElem?_map,hpr];rfl
  rw [hpr2] at q
  have bp:=tt.tab.bn pr (List.mem_append_right _ (List.mem_of_getElem? hpr))
  refine ⟨_,((ai (au (i:=3) dG.nd rfl (by walk_at "o") (aX (aw (K:=K) rfl) (aX (gT (K:=K) rfl) (aX (aw (K:=K) rfl) (pv 0) af (fun _ _=>rfl)) (pv 2) (fun _ _=>rfl)) af (fun _ _=>rfl)))
   (ai (gj PassesOwn.never rfl (jg (by rfl) T.pX (aa (pv 1) ae)) (aG (i:=4) dG.nd rfl (by walk_at "o")) (aj (au (i:=3) dG.nd rfl (by walk_at "o") (aX (aw (K:=K) rfl) (aq nC (hr.mono (by decide)) (by rfl) T.vg T.va T.jT .nil aF (aa (aX (aw (K:=K) rfl) (pv 0) af (fun _ _=>rfl)) (aa (pv 3) ae))) af (fun _ _=>rfl)))))
   (aj (aI (pv 3)))))),aE (σ':=[some _,some _,some _,none,none]) rfl ?_⟩
  walk_at "l2"
  refine Mf (SqL.of eo) (E8 (show (refs os)[u]? =some (.ref pr.1) from by unfold refs;rw [List.getElem?_map,hpr];rfl)) ?_
  walk_at "l2"
  refine oa (fun i σ H'=>∃ v,σ=[some (.ref t),some (nat T'),some (nat u),some (nat (M.bkI (nA nx) pr.2.1 i)),v]∧Same H H') ⟨none,rfl,Same.refl _⟩ ?_ ?_
  ·rintro i σ H' hi ⟨v,rfl,s'⟩
   have hb:M.bkI (nA nx) pr.2.1 i < 2 ^ nx.length:=by
    have:=M.bkI_lt4 (ps:=prs nx) (n:=nx.length) (fun q hq=>by obtain ⟨q',hq',rfl⟩:=List.mem_map.mp hq;exact (tt.tab.bn q' (List.mem_append_left _ hq')).1) bp.1 i
    rwa [Mr] at this
   have et':=s'.get et
   walk_at "l2"
   refine ⟨n,nx,M.bkI (nA nx) pr.2.1 i,rfl,SqL.of (s'.get en),tt.tab.pn.same s',hb,fun t2 H2 s2 e2=>?_⟩
   walk_at "l2"
   exact s'.trans s2
  ·rintro σ H' ⟨v,rfl,s'⟩
   rw [Int.toNat_natCast]
   walk_at "l2"
   exact q H' s'
theorem pH (T:Tx K mg a):FnOk P w K mg base CX0 2 a.bg a.gH ["_law_tables","_law_turns"] (Ox K):=by
 have nC:=@rf P w K mg base a T
 refine T.d4.ok bP (fun vs H Q E h=>?_) (fun cdv A outer s H vs Q E hr h=>?_)
 ·obtain ⟨t,n,o,m,nx,os,T',rfl,_⟩:=h;rfl
 ·obtain ⟨t,n,o,m,nx,os,T',rfl,tt,hT,q⟩:=h
  have et:=tt.t
  have en:=tt.tab.n
  have eo:=tt.tab.o
  have ln:=tt.tab.ln
  have lo:=tt.tab.lo
  have hb:∀ (i:Nat),∀ q∈os,M.bkI (nA nx) q.2.1 i < 2 ^ nx.length:=fun i q hq=>by
   have:=M.bkI_lt4 (ps:=prs nx) (n:=nx.length) (fun q hq=>by obtain ⟨q',hq',rfl⟩:=List.mem_map.mp hq;exact (tt.tab.bn q' (List.mem_append_left _ hq')).1) (tt.tab.bn q (List.mem_append_right _ hq)).1 i
   rwa [Mr] at this
  have amlen:∀ i,(M.aml (prs nx) (prs os) i).length=i * os.length:=fun i=>by
   induction i with
   | zero=>rw [Nat.zero_mul];rfl
   | succ i ih=>show (M.aml (prs nx) (prs os) i++_).length=_;rw [List.length_append,ih,List.length_map,aW,Nat.succ_mul]
  refine ⟨_,((ai (au (i:=2) bP.nd rfl (by walk_at "o") (bK ae))
   (ai (pq (osc:=ah bt) (ON:=["_law_tables","_law_turns","_law_found","_law_masks_here","_law_k"]) (N:=["_law_pair"]) (n:=1) (fx:=[]) (i:=3) bP.nd rfl rfl rfl rfl rfl rfl (by decide +kernel) (bJ (K:=K) rfl (aX (aw (K:=K) rfl) (pv 0) af (fun _ _=>rfl))) (cL (by decide)) (fun _ _ _ _ _=>⟨(aG (i:=0) (show List.Nodup (["_law_pair"]:List Str) from by decide +kernel) rfl (by walk_at "o")),fK,(aX (aw (K:=K) rfl) (pv 0) af (fun _ _=>rfl))⟩))
   (ai (gj PassesOwn.never rfl (jg (by rfl) T.pX (aa (pv 1) ae)) (aG (i:=4) bP.nd rfl (by walk_at "o")) (ai (au (i:=2) bP.nd rfl (by walk_at "o") (ar mx (pv 2) (pv 3)))
   (aj (pq (osc:=ah bt) (ON:=["_law_tables","_law_turns","_law_found","_law_masks_here","_law_k"]) (N:=["_law_mask","_law_tables"]) (n:=1) (fx:=[0]) (i:=3) bP.nd rfl rfl rfl rfl rfl rfl (by decide +kernel) (bJ (K:=K) rfl (pv 3)) (cL (by decide)) (fun _ _ _ _ _=>⟨(aG (i:=0) (show List.Nodup (["_law_mask","_law_tables"]:List Str) from by decide +kernel) rfl (by walk_at "o")),fK,(aX (aw (K:=K) rfl) (aq nC (hr.mono (by decide)) (by rfl) T.vg T.va T.jT .nil aF (aa (aX (aw (K:=K) rfl) (pv 1) af (fun _ _=>rfl)) (aa (pv 0) ae))) af (fun _ _=>rfl))⟩)))))
   (aj (aI (pv 2))))))),aE (σ':=[some _,some _,none,none,none]) rfl ?_⟩
  walk_at "l2"
  intro D1 H1 f1 s1 e1
  have et1:=s1.get et
  have eo1:=s1.get eo
  walk_at "l2"
  intro D2 hD2
  refine cZ (xs:=refs os) (fun i ys H'=>Cs (fun i ys=>ys=((os.take i).map fun q=>q.2.1).map nat) H1 D2 i ys H') (Cs.zero hD2 rfl) (fun i ys H' _ c=>SqL.of (c.same.get eo1)) (fun i v ys H' hv c=>?_) (fun ys H' c=>?_)
  ·obtain ⟨q1,h1,rfl⟩:=bH hv
   have hi:=(List.getElem?_eq_some_iff.mp h1).1
   have e1':=c.same.get (s1.get (tt.tab.po q1 (List.mem_of_getElem? h1)))
   walk_at "l2"
   refine Cs.put hD2 c.same c.at' c.len (by omega) ?_
   rw [c.pv,take_succ h1,List.map_append,List.map_append];rfl
  ·have ec:=c.at'
   rw [c.pv,dJ,List.take_length] at ec
   have s2:=c.same
   clear c
   have s12:=s1.trans s2
   walk_at "l2"
   refine oa (fun i σ H'=>∃ (DA DM:Addr) (v:Option V),σ=[some (.ref t),some (nat T'),some (.ref DA),some (.ref DM),v]∧Same H H'∧H DA=none∧H' DA=some (.lst ((M.aml (prs nx) (prs os) i).map nat))∧H' DM=some (.lst ((os.map fun q=>M.bkI (nA nx) q.2.1 i).map nat))) ⟨D1,D2,none,rfl,s12,f1,s2.get e1,ec⟩ ?_ ?_
   ·rintro i σ H3 hi ⟨DA,DM,v,rfl,s3,fA,eA,eM⟩
    have hi':i < T':=by omega
    have lA:=amlen i
    have hmul:i * os.length≤100 * 6:=Nat.mul_le_mul (by omega) lo
    walk_at "l2"
    refine we eA eM (by rw [List.length_map,List.length_map,List.length_map,sizeLine_eq];omega) fun D4 H4 f4 s4 e4=>?_
    have s34:=s3.trans s4
    have et4:=s34.get et
    have eM4:=s4.get eM
    walk_at "l2"
    intro D5 hD5
    refine cZ (xs:=(os.map fun q=>M.bkI (nA nx) q.2.1 i).map nat) (fun j ys H'=>Cs (fun j ys=>ys=((os.take j).map fun q=>M.bkI (nA nx) q.2.1 (i + 1)).map nat) H4 D5 j ys H') (Cs.zero hD5 rfl) (fun j ys H' _ c=>SqL.of (c.same.get eM4)) (fun j v ys H' hv c=>?_) (fun ys H' c=>?_)
    ·obtain ⟨b,h1,rfl⟩:=bH hv
     rw [List.getElem?_map,Option.map_eq_some_iff] at h1
     obtain ⟨q1,h1,rfl⟩:=h1
     have hj:=(List.getElem?_eq_some_iff.mp h1).1
     have s5:=s34.trans c.same
     have et5:=s5.get et
     walk_at "l2"
     refine ⟨n,nx,M.bkI (nA nx) q1.2.1 i,rfl,SqL.of (s5.get en),tt.tab.pn.same s5,hb i q1 (List.mem_of_getElem? h1),fun t2 H2 s2 e2=>?_⟩
     walk_at "l2"
     refine Cs.put hD5 (c.same.trans s2) (s2.get c.at') c.len (by omega) ?_
     rw [c.pv,take_succ h1,List.map_append,List.map_append];rfl
    ·have ec:=c.at'
     rw [c.pv,List.length_map,List.length_map,List.take_length] at ec
     have s5:=c.same
     clear c
     walk_at "l2"
     refine ⟨D4,D5,_,rfl,s34.trans s5,lV s3 f4,?_,ec⟩
     rw [s5.get e4,← List.map_append]
     show _=some (HO.lst ((M.aml (prs nx) (prs os) i++_).map nat))
     rw [List.map_map,Mr];rfl
   ·rintro σ H3 ⟨DA,DM,v,rfl,s3,fA,eA,eM⟩
    rw [Int.toNat_natCast] at eA
    walk_at "l2"
    exact q DA H3 fA s3 eA
end
section
variable {P:Program} {w:World} {K:PySem.W.Frag} {mg:Str→Option Value} {base:Heap} {a:Ad}
local macro_rules | `(tactic| walk_at "l2step") =>`(tactic| first | ((with_reducible refine' qD ?e ?_);(case e=>walk_at "l2kind")) | ((with_reducible refine' yq ?e ?_);(case e=>walk_at "l2kind")) | (with_reducible refine nI ?_) | (with_reducible refine tP ?_))
theorem S9 (x k:Nat):Builtin.bitAnd ((x:Int) / 2 ^ ((k:Int).toNat)) 1=((M.bn (x.testBit k):Nat):Int):=by
 rw [OE,show (1:Int)=((1:Nat):Int) from rfl,bR,Nat.and_one_is_mod,Nat.testBit_eq_decide_div_mod_eq,Nat.shiftRight_eq_div_pow]
 rcases Nat.mod_two_eq_zero_or_one (x / 2 ^ k) with h | h<;>rw [h]<;>rfl
theorem bn54 (a b:Bool):M.bn a^^^M.bn b=M.bn (a^^b):=by cases a<;>cases b<;>rfl
theorem DT (T:Tx K mg a):FnOk P w K mg base CX0 4 a.dQ a.qt ["_law_found","_law_tables","_law_rows_here","_law_answers_here"] (Jl K):=by
 have dh:=@hZ P w K mg base a T
 have xM:=@um P w K mg base a T
 have di:=@ie P w K mg base a T
 have vW:=@A5 P w K mg base a T
 have sQ:=@pH P w K mg base a T
 refine T.l9.ok jG (fun vs H Q E h=>?_) (fun cdv A outer s H vs Q E hr h=>?_)
 ·obtain ⟨f,D,t,n,o,rr,ra,m,nx,os,rs,an,qq,nms,rfl,_⟩:=h;rfl
 ·obtain ⟨f,D,t,n,o,rr,ra,m,nx,os,rs,an,qq,nms,rfl,l5,ef,eD,sd,nf,q⟩:=h
  have hu1:=tS hr
  have hu0:=N0 hr
  have et:=l5.tt.t
  have en:=l5.tt.tab.n
  have er:=l5.er
  have ea:=l5.ea
  have lr:=l5.lr
  have l16:=l5.ln
  have lal:(M.adl (prs nx) (prs os) rs.length).length=nx.length:=by rw [M.adl_len,aW]
  have hq:qq < 2 ^ nx.length:=by have:=sd.lt;rwa [lal] at this
  have hn:∀ x∈nms,x < 2 ^ nx.length:=fun x hx=>by have:=nf.lt x hx;rwa [lal] at this
  have kn:=nf.kern
  have nlen:=nf.len
  refine ⟨_,((ai (NK (Mx (OB (K:=K) rfl) (pv 0) (O2 af) O3) (t4 rfl (bY (aG (i:=4) jG.nd rfl (by walk_at "o")) (bY (aG (i:=5) jG.nd rfl (by walk_at "o")) jH))))
   (ai (cJ (PW.pt (mK (dj (cI (aq dh (hr.mono (by decide)) (by rfl) T.fU T.fS T.de .nil aF (aa (pv 4) (aa (ax (aK (K:=K) rfl) (by rfl) T.eQ PySem.boot_len (aa (aX (aw (K:=K) rfl) (pv 1) af (fun _ _=>rfl)) ae)) ae))))) (jf (dj (cI (aq xM (hr.mono (by decide)) (by rfl) T.xh T.w9 T.i3 .nil aF (aa (pv 5) (aa (ax (aK (K:=K) rfl) (by rfl) T.eQ PySem.boot_len (aa (aX (aw (K:=K) rfl) (pv 1) af (fun _ _=>rfl)) ae)) ae)))))))) (aj (aI md)) aQ)
   (ai (cJ (PW.pt (mK (aP (mP (K:=K) rfl hu1) (aq di (hr.mono (by decide)) (by rfl) T.fV T.fT T.df .nil aF (aa (pv 1) (aa (pv 4) (aa (pv 2) ae)))) (pv 3) (aL _)) (jf (aP DP (aq vW (hr.mono (by decide)) (by rfl) T.ve T.u0 T.jR .nil aF (aa (pv 5) ae)) (ax (aK (K:=K) rfl) (by rfl) T.eQ PySem.boot_len (aa (pv 5) ae)) (aL _))))) (aj (aI md)) aQ)
   (ai (gj PassesOwn.never rfl (bJ (K:=K) rfl (pv 5)) (aG (i:=6) jG.nd rfl (by walk_at "o")) (aj (cJ (aP (mP (K:=K) rfl hu1) (aq di (hr.mono (by decide)) (by rfl) T.fV T.fT T.df .nil aF (aa (pv 1) (aa (pv 6) (aa (hG (osc:=ah eF) (ON:=["_law_found","_law_tables","_law_rows_here","_law_answers_here","_law_state","_law_others","_law_other"]) (N:=["_law_row"]) (n:=1) (fx:=[]) rfl rfl rfl (by decide +kernel) (bJ (K:=K) rfl (pv 2)) (cL (by decide)) (fun _ _ _ _ _=>⟨(aG (i:=0) (show List.Nodup (["_law_row"]:List Str) from by decide +kernel) rfl (by walk_at "o")),fK,af⟩)) ae)))) (hG (osc:=ah eF) (ON:=["_law_found","_law_tables","_law_rows_here","_law_answers_here","_law_state","_law_others","_law_other"]) (N:=["_law_row"]) (n:=1) (fx:=[]) rfl rfl rfl (by decide +kernel) (bJ (K:=K) rfl (pv 2)) (cL (by decide)) (fun _ _ _ _ _=>⟨(aG (i:=0) (show List.Nodup (["_law_row"]:List Str) from by decide +kernel) rfl (by walk_at "o")),fK,af⟩)) (aL _)) (aj (aI md)) aQ)))
   (aj (aI (dw jh (ax (aK (K:=K) rfl) (by rfl) T.eQ PySem.boot_len (aa (pv 5) ae)) (ar uf (ax (aK (K:=K) rfl) (by rfl) T.eQ PySem.boot_len (aa (aX (aw (K:=K) rfl) (pv 1) af (fun _ _=>rfl)) ae)) (aq vW (hr.mono (by decide)) (by rfl) T.ve T.u0 T.jR .nil aF (aa (aq sQ (hr.mono (by decide)) (by rfl) T.sy T.sv T.gM .nil aF (aa (pv 1) (aa (ax (aK (K:=K) rfl) (by rfl) T.eQ PySem.boot_len (aa (pv 2) ae)) ae))) ae))) (aL _))))))))),aE (σ':=[some _,some _,some _,some _,none,none,none]) rfl ?_⟩
  walk_at "l2"
  refine SK (SqT.of ef) (by show ¬ (HT.sIx 3 0 (some 1)=0∧HT.sIx 3 3 none=3);decide) fun tp H1 f1 s1 e1=>?_
  have e1:H1 tp=some (.tup [nat qq,.ref D]):=e1
  have et1:=s1.get et
  have en1:=s1.get en
  have eD1:=s1.get eD
  have er1:=s1.get er
  have ea1:=s1.get ea
  have l51:=l5.same s1
  walk_at "l2"
  rw [dJ]
  refine ⟨qq,nx.length,rfl,by omega,?_⟩
  rw [decide_eq_true hq]
  walk_at "l2"
  rw [dJ]
  refine ⟨D,nms,nx.length,rfl,eD1,by omega,by omega,hn,fun H2 s2=>?_⟩
  have l52:=l51.same s2
  have er2:=s2.get er1
  have ea2:=s2.get ea1
  walk_at "l2"
  refine ⟨t,n,o,rr,m,nx,os,rs,qq,rfl,l52.tt,SqL.of er2,by omega,hq,l5.br,fun D3 H3 f3 s3 e3=>?_⟩
  have hfit:M.wan (prs nx) (prs os) qq rs=an:=M.fit_of (by rw [aW];exact hq) l5.la (by rw [aW];exact l5.ba) (by rw [aW];exact sd.sm)
  rw [hfit] at e3
  have s13:=s1.trans (s2.trans s3)
  walk_at "l2"
  refine tR (dZ e3) (dZ (s13.get ea)) (by simp [depD,iG]) ?_
  rw [iE]
  walk_at "l2"
  refine ⟨D,nms,rfl,s13.get eD,by omega,fun H4 s4=>?_⟩
  rw [M.fr_inj kn.inj]
  have s14:=s13.trans s4
  have eD4:=s14.get eD
  walk_at "l2"
  refine tQ (by rw [List.length_map];simp) ?_
  walk_at "l2"
  refine iD (xs:=nms.map nat) (fun i σ H'=>∃ v,σ=[some (.ref f),some (.ref t),some (.ref rr),some (.ref ra),some (nat qq),some (.ref D),v]∧Same H H') ⟨none,rfl,s14⟩ (fun i σ H' _ ⟨_,_,e⟩=>SqL.of (e.get eD)) ?_ ?_
  ·rintro i y σ H5 hy ⟨v,rfl,s5⟩
   obtain ⟨x,hx,rfl⟩:=bH hy
   have hxm:=List.mem_of_getElem? hx
   have er5:=s5.get er
   walk_at "l2"
   intro D6 hD6
   refine cZ (xs:=rs.map nat) (fun i ys H'=>Cs (fun i ys=>ys=(List.replicate i 0).map nat) H5 D6 i ys H') (Cs.zero hD6 rfl) (fun i ys H' _ c=>SqL.of (c.same.get er5)) (fun i v ys H' hv c=>?_) (fun ys H6 c=>?_)
   ·have hi:=(List.getElem?_eq_some_iff.mp hv).1
    rw [List.length_map] at hi
    walk_at "l2"
    refine Cs.put hD6 c.same c.at' c.len (by omega) ?_
    rw [c.pv,List.replicate_succ',List.map_append];rfl
   ·have ec:=c.at'
    rw [c.pv,List.length_map] at ec
    have s6:=c.same
    clear c
    have s56:=s5.trans s6
    have l56:=l5.same s56
    walk_at "l2"
    refine ⟨t,n,o,D6,m,nx,os,List.replicate rs.length 0,x,rfl,l56.tt,SqL.of ec,by rw [List.length_replicate];omega,hn x hxm,fun r hr=>by rw [List.eq_of_mem_replicate hr];exact Nat.two_pow_pos _,fun D7 H7 f7 s7 e7=>?_⟩
    rw [M.quiet_of (by rw [aW];exact hn x hxm) (nf.sm x hxm)] at e7
    have er7:=s7.get (s6.get er5)
    walk_at "l2"
    intro D8 hD8
    refine cZ (xs:=rs.map nat) (fun i ys H'=>Cs (fun i ys=>ys=(List.replicate i 0).map nat) H7 D8 i ys H') (Cs.zero hD8 rfl) (fun i ys H' _ c=>SqL.of (c.same.get er7)) (fun i v ys H' hv c=>?_) (fun ys H8 c=>?_)
    ·have hi:=(List.getElem?_eq_some_iff.mp hv).1
     rw [List.length_map] at hi
     walk_at "l2"
     refine Cs.put hD8 c.same c.at' c.len (by omega) ?_
     rw [c.pv,List.replicate_succ',List.map_append];rfl
    ·have ec8:=c.at'
     rw [c.pv,List.length_map] at ec8
     have s8:=c.same
     clear c
     walk_at "l2"
     refine tR (dZ (s8.get e7)) (dZ ec8) (by have:=iG (List.replicate rs.length 0);simp only [depD];omega) ?_
     rw [iE]
     walk_at "l2"
     exact s56.trans (s7.trans s8)
  ·rintro σ H5 ⟨v,rfl,s5⟩
   have l55:=l5.same s5
   have et5:=l55.tt.t
   have en5:=l55.tt.tab.n
   have er5:=l55.er
   have eD5:=s5.get eD
   walk_at "l2"
   refine ⟨t,n,o,m,nx,os,rs.length,by rw [List.length_map],l55.tt,by omega,fun D6 H6 f6 s6 e6=>?_⟩
   have aml6:(M.aml (prs nx) (prs os) rs.length).length≤1000:=by
    have amlen:∀ i,(M.aml (prs nx) (prs os) i).length=i * os.length:=fun i=>by
     induction i with
     | zero=>rw [Nat.zero_mul];rfl
     | succ i ih=>show (M.aml (prs nx) (prs os) i++_).length=_;rw [List.length_append,ih,List.length_map,aW,Nat.succ_mul]
    have:=amlen rs.length
    have lo:=l5.tt.tab.lo
    have hmul:rs.length * os.length≤40 * 6:=Nat.mul_le_mul lr lo
    omega
   have hA:∀ q∈prs nx++prs os,q.1 < 2 ^ (prs nx).length:=fun q hq=>by
    rw [← List.map_append] at hq
    obtain ⟨q',hq',rfl⟩:=List.mem_map.mp hq
    rw [aW]
    exact (l5.tt.tab.bn q' hq').1
   have many:=M.others_many (T:=rs.length) (by rw [aW];omega) hA kn
   rw [aW] at many
   walk_at "l2"
   refine ⟨D6,_,rfl,e6,aml6,fun H7 s7=>?_⟩
   walk_at "l2"
   rw [List.length_map,dJ,decide_eq_true (congrArg V.int (by omega))]
   exact q H7 (s5.trans (s6.trans s7))
theorem yX (T:Tx K mg a):FnOk P w K mg base CX0 4 a.cw a.kT ["_law_found","_law_tables","_law_rows_here","_law_answers_here"] (Di K):=by
 have dh:=@hZ P w K mg base a T
 have di:=@ie P w K mg base a T
 have sP:=@pG P w K mg base a T
 refine T.iM.ok cq (fun vs H Q E h=>?_) (fun cdv A outer s H vs Q E hr h=>?_)
 ·obtain ⟨f,D,t,n,o,rr,ra,m,nx,os,rs,an,mk,rfl,_⟩:=h;rfl
 ·obtain ⟨f,D,t,n,o,rr,ra,m,nx,os,rs,an,mk,rfl,l5,ef,lk,bd,q⟩:=h
  have et:=l5.tt.t
  have en:=l5.tt.tab.n
  have eo:=l5.tt.tab.o
  have er:=l5.er
  have ea:=l5.ea
  have lr:=l5.lr
  have l16:=l5.ln
  obtain ⟨qs,eD,pt,eq⟩:=lk
  have few:(M.pl 1000 mk).length≤17:=by
   obtain ⟨y,_,_,_,B⟩:=bd.bar
   have:=M.bar_few B 1000
   rw [M.adl_len,aW] at this
   omega
  have lo:=l5.tt.tab.lo
  have hmul:rs.length * os.length≤40 * 6:=Nat.mul_le_mul lr lo
  have bal:∀ r∈M.adl (prs nx) (prs os) rs.length,r < 2 ^ (rs.length * os.length):=fun r hr=>by have:=M.adl_lt r hr;rwa [aW] at this
  have hwl:wsh nx os rs an < 2 ^ (rs.length * os.length):=by
   refine M.xor_lt_pow ?_ ?_
   ·have:=M.pkw_lt l5.ba;rwa [l5.la] at this
   ·have:=M.pkw_lt (w:=os.length) (ps:=M.wan (prs nx) (prs os) 0 rs) (fun y hy=>by have:=M.wan_lt _ _ _ _ y hy;rwa [aW] at this)
    rwa [M.wan_len] at this
  have hmk:=bd.lt _ bal hwl
  have plt:=M.pl_lt (w:=1000) hmk
  have ho0:0 < os.length:=Nat.pos_of_ne_zero fun z=>by
   rw [z,Nat.mul_zero] at hwl
   have:wsh nx os rs an=0:=by have:wsh nx os rs an < 1:=hwl;omega
   exact bd.ns (by rw [this];exact M.span_zero _)
  have lq:qs.length=(M.pl 1000 mk).length:=by have:=congrArg List.length eq;rwa [aW,List.length_map] at this
  have qat:∀ (i:Nat) (q:Pr3),qs[i]? =some q→∃ p,(M.pl 1000 mk)[i]? =some p∧q.2.1=p / os.length∧q.2.2=p % os.length∧p < rs.length * os.length∧p / os.length < rs.length∧p % os.length < os.length:=fun i q hi=>by
   have h1:(prs qs)[i]? =some q.2:=by rw [List.getElem?_map,hi];rfl
   rw [eq,List.getElem?_map,Option.map_eq_some_iff] at h1
   obtain ⟨p,hp,e⟩:=h1
   have hpl:=plt p (List.mem_of_getElem? hp)
   exact ⟨p,hp,by rw [← e],by rw [← e],hpl,(Nat.div_lt_iff_lt_mul ho0).mpr hpl,Nat.mod_lt _ ho0⟩
  have eDr:H D=some (.lst ((qs.map (·.1)).map V.ref)):=by rw [List.map_map];exact eD
  refine ⟨_,((ai (au (i:=4) cq.nd rfl (by walk_at "o") (aX (aw (K:=K) rfl) (pv 0) af (fun _ _=>rfl)))
   (ai (cJ (PW.pt (mK (dj (cI (ax (c4 (K:=K) rfl) (by rfl) T.bc PyProof.Rows.boot_isinstance (aa (pv 4) (aa (gy (v:= .ty "list") (by rfl) T.j8 PyProof.Rows.boot_list rfl) ae))))) (jf (aP DP (GR rfl (tS hr) (by rfl) (by rfl) T.eQ T.S2 (pv 4)) (ax (aK (K:=K) rfl) (by rfl) T.eQ PySem.boot_len (aa (pv 4) ae)) (aL _))))) (aj (aI md)) aQ)
   (ai (au (i:=5) cq.nd rfl (by walk_at "o") af)
   (ai (au (i:=6) cq.nd rfl (by walk_at "o") af)
   (ai (au (i:=7) cq.nd rfl (by walk_at "o") (aq di (hr.mono (by decide)) (by rfl) T.fV T.fT T.df .nil aF (aa (pv 1) (aa af (aa (pv 2) ae)))))
   (ai (gj PassesOwn.never rfl (bJ (K:=K) rfl (pv 4)) (aG (i:=8) cq.nd rfl (by walk_at "o")) (ai (cJ (PW.pt (mK (dj (cI (ax (c4 (K:=K) rfl) (by rfl) T.bc PyProof.Rows.boot_isinstance (aa (pv 8) (aa (gy (v:= .ty "tuple") (by rfl) T.pW PyProof.Rows.boot_tuple rfl) ae))))) (jf (aP DP (ax (aK (K:=K) rfl) (by rfl) T.eQ PySem.boot_len (aa (pv 8) ae)) af (aL _))))) (aj (aI md)) aQ)
   (ai (cJ (PW.pt (mK (dj (cI (aq dh (hr.mono (by decide)) (by rfl) T.fU T.fS T.de .nil aF (aa (aX (aw (K:=K) rfl) (pv 8) af (fun _ _=>rfl)) (aa af ae))))) (jf (dj (cI (aq dh (hr.mono (by decide)) (by rfl) T.fU T.fS T.de .nil aF (aa (aX (aw (K:=K) rfl) (pv 8) af (fun _ _=>rfl)) (aa af ae)))))))) (aj (aI md)) aQ)
   (ai (cJ (PW.pt (mK (aP Pb (aX (aw (K:=K) rfl) (pv 8) af (fun _ _=>rfl)) (ax (aK (K:=K) rfl) (by rfl) T.eQ PySem.boot_len (aa (pv 2) ae)) (aL _)) (jf (aP Pb (aX (aw (K:=K) rfl) (pv 8) af (fun _ _=>rfl)) (ax (aK (K:=K) rfl) (by rfl) T.eQ PySem.boot_len (aa (aX (aw (K:=K) rfl) (pv 1) af (fun _ _=>rfl)) ae)) (aL _))))) (aj (aI md)) aQ)
   (ai (au (i:=5) cq.nd rfl (by walk_at "o") (ar hX (pv 5) (aq sP (hr.mono (by decide)) (by rfl) T.sx T.su T.gL .nil aF (aa (pv 1) (aa (aX (aw (K:=K) rfl) (pv 8) af (fun _ _=>rfl)) (aa (aX (aw (K:=K) rfl) (pv 8) af (fun _ _=>rfl)) ae))))))
   (aj (au (i:=6) cq.nd rfl (by walk_at "o") (ar hX (pv 6) (ar ji (ar FP (ar hX (aX (gT (K:=K) rfl) (pv 7) (aX (aw (K:=K) rfl) (pv 8) af (fun _ _=>rfl)) (fun _ _=>rfl)) (aX (gT (K:=K) rfl) (pv 3) (aX (aw (K:=K) rfl) (pv 8) af (fun _ _=>rfl)) (fun _ _=>rfl))) (aX (aw (K:=K) rfl) (pv 8) af (fun _ _=>rfl))) af)))))))))
   (aj (aI (j3 (dw jh (pv 5) af (aL _)) (nN (dw jh (pv 6) af (aL _))))))))))))),aE (σ':=[some _,some _,some _,some _,none,none,none,none,none]) rfl ?_⟩
  walk_at "l2"
  refine QD (s_op (OK ?_))
  refine ⟨.ref D,rfl,D,qs.map (·.1),prs qs,rfl,eDr,by rw [List.length_map,aW],fun i a2 q2 h1 h2=>?_,?_,?_,by rw [aW,lq];omega,?_⟩
  ·rw [List.getElem?_map,Option.map_eq_some_iff] at h1 h2
   obtain ⟨q3,h3,rfl⟩:=h1
   obtain ⟨q4,h4,rfl⟩:=h2
   rw [h3] at h4
   have h4:=Option.some.inj h4
   subst h4
   exact pt q3 (List.mem_of_getElem? h3)
  ·rw [eq]
   refine List.pairwise_map.mpr (List.Pairwise.imp (fun {p q} hpq e=>?_) (M.pl_rise 1000 mk))
   have h1:p / os.length=q / os.length:=congrArg Prod.fst e
   have h2:p % os.length=q % os.length:=congrArg Prod.snd e
   have e1:=Nat.div_add_mod p os.length
   have e2:=Nat.div_add_mod q os.length
   rw [h1,h2,e2] at e1
   omega
  ·intro q2 hq2
   obtain ⟨i,hi⟩:=List.getElem?_of_mem hq2
   rw [List.getElem?_map,Option.map_eq_some_iff] at hi
   obtain ⟨q3,h3,rfl⟩:=hi
   obtain ⟨p,_,e1,e2,_,l1,l2⟩:=qat i q3 h3
   rw [e1,e2]
   omega
  walk_at "l2"
  refine tQ (by rw [List.length_map,List.length_map,List.length_map];simp) ?_
  walk_at "l2"
  refine ⟨t,n,o,rr,m,nx,os,rs,0,rfl,l5.tt,SqL.of er,by omega,Nat.two_pow_pos _,l5.br,fun D3 H3 f3 s3 e3=>?_⟩
  walk_at "l2"
  refine iD (xs:=refs qs) (fun i σ H'=>∃ v,σ=[some (.ref f),some (.ref t),some (.ref rr),some (.ref ra),some (.ref D),some (nat (M.lks (prs nx) (prs os) ((M.pl 1000 mk).take i))),some (nat (M.bn (M.ank os.length (M.wan (prs nx) (prs os) 0 rs) an ((M.pl 1000 mk).take i)))),some (.ref D3),v]∧Same H3 H') ⟨none,rfl,Same.refl _⟩ (fun i σ H' _ ⟨_,_,e⟩=>SqL.of (e.get (s3.get eD))) ?_ ?_
  ·rintro i y σ H4 hy ⟨v,rfl,s4⟩
   obtain ⟨q1,hq1,rfl⟩:=bH hy
   obtain ⟨p,hp,e1,e2,hpl,l1,l2⟩:=qat i q1 hq1
   have s34:=s3.trans s4
   have eq1:=s34.get (pt q1 (List.mem_of_getElem? hq1))
   rw [e1,e2] at eq1
   have l54:=l5.same s34
   have et4:=l54.tt.t
   have eo4:=l54.tt.tab.o
   have er4:=l54.er
   have ea4:=l54.ea
   have e34:=s4.get e3
   walk_at "l2"
   refine ⟨p / os.length,6,rfl,by decide,?_⟩
   rw [decide_eq_true (show p / os.length < 2 ^ 6 by omega)]
   walk_at "l2"
   refine ⟨p % os.length,3,rfl,by decide,?_⟩
   rw [decide_eq_true (show p % os.length < 2 ^ 3 by omega)]
   walk_at "l2"
   rw [List.length_map,decide_eq_false (show ¬ ((rs.length:Int)≤((p / os.length:Nat):Int)) by omega)]
   walk_at "l2"
   rw [dJ,decide_eq_false (show ¬ ((os.length:Int)≤((p % os.length:Nat):Int)) by omega)]
   walk_at "l2"
   refine ⟨t,n,o,m,nx,os,p / os.length,p % os.length,rfl,l54.tt,by omega,l2,fun H5 s5=>?_⟩
   have e35:=s5.get e34
   have ea5:=s5.get ea4
   have eq5:=s5.get eq1
   walk_at "l2"
   refine Mf (SqL.of e35) (E7 (by rw [M.wan_len];exact l1)) ?_
   walk_at "l2"
   refine Mf (SqL.of ea5) (E7 (by rw [l5.la];exact l1)) ?_
   walk_at "l2"
   have k1:M.lks (prs nx) (prs os) ((M.pl 1000 mk).take i)^^^M.bkI (nA nx) ((prs os).getD (p % os.length) (0,0)).1 (p / os.length)=M.lks (prs nx) (prs os) ((M.pl 1000 mk).take (i + 1)):=by
    rw [take_succ hp,M.lks_snoc]
    unfold M.lkq
    rw [aW,Mr]
   rw [bw,bw,S9,bw,bn54,k1,← M.ank_snoc,← take_succ hp]
   exact ⟨_,rfl,s4.trans s5⟩
  ·rintro σ H4 ⟨v,rfl,s4⟩
   rw [dJ,lq,List.take_length]
   have hA:∀ q∈prs nx++prs os,q.1 < 2 ^ (prs nx).length:=fun q hq=>by
    rw [← List.map_append] at hq
    obtain ⟨q',hq',rfl⟩:=List.mem_map.mp hq
    rw [aW]
    exact (l5.tt.tab.bn q' hq').1
   have z1:M.lks (prs nx) (prs os) (M.pl 1000 mk)=0:=M.lks_zero (T:=rs.length) (by rw [aW];omega) hA (by rw [aW];exact hmk) bd.ev
   have z2:M.ank os.length (M.wan (prs nx) (prs os) 0 rs) an (M.pl 1000 mk)=true:=by
    rw [M.ank_eq ho0 (fun y hy=>by have:=M.wan_lt _ _ _ _ y hy;rwa [aW] at this) l5.ba,M.od_bx]
    exact bd.odd
   rw [z1,z2]
   walk_at "l2"
   exact q H4 (s3.trans s4)
theorem yY (T:Tx K mg a):FnOk P w K mg base CX0 5 a.cx a.kU ["_law_found","_law_tables","_law_rows_here","_law_answers_here"] (Dj K):=by
 have Iw:=@DT P w K mg base a T
 have C0:=@yX P w K mg base a T
 refine T.iN.ok yG (fun vs H Q E h=>?_) (fun cdv A outer s H vs Q E hr h=>?_)
 ·obtain ⟨f,D,t,n,o,rr,ra,m,nx,os,rs,an,rfl,_⟩:=h;rfl
 ·obtain ⟨f,D,t,n,o,rr,ra,m,nx,os,rs,an,rfl,l5,ft,q⟩:=h
  have hu1:=tS hr
  refine ⟨_,((ai (cJ (PW.pt (mK (dj (cI (ax (c4 (K:=K) rfl) (by rfl) T.bc PyProof.Rows.boot_isinstance (aa (pv 0) (aa (gy (v:= .ty "tuple") (by rfl) T.pW PyProof.Rows.boot_tuple rfl) ae))))) (mK (aP (DQ (K:=K) rfl hu1) (pv 0) (eP ae) (aL _)) (jf (aP (JR (K:=K) rfl) (aX (aw (K:=K) rfl) (pv 0) af (fun _ _=>rfl)) (bK (aa fq (aa fq ae))) (by rfl)))))) (aj (aI md)) aQ)
   (ai (cJ (aP jh (aX (aw (K:=K) rfl) (pv 0) af (fun _ _=>rfl)) fq (aL _)) (aj (aI (j3 (dw jh (ax (aK (K:=K) rfl) (by rfl) T.eQ PySem.boot_len (aa (pv 0) ae)) af (aL _)) (nN (aq Iw (hr.mono (by decide)) (by rfl) T.HA T.Hv T.qJ .nil aF (aa (pv 0) (aa (pv 1) (aa (pv 2) (aa (pv 3) ae))))))))) aQ)
   (aj (aI (j3 (dw jh (ax (aK (K:=K) rfl) (by rfl) T.eQ PySem.boot_len (aa (pv 0) ae)) af (aL _)) (nN (aq C0 (hr.mono (by decide)) (by rfl) T.BL T.BF T.lD .nil aF (aa (pv 0) (aa (pv 1) (aa (pv 2) (aa (pv 3) ae)))))))))))),aE (σ':=[some _,some _,some _,some _]) rfl ?_⟩
  obtain ⟨d,rp,dp,dn⟩:=ft.rep1 (K:=K)
  rcases ft with ⟨qq,nms,ef,eD,sd,nf⟩ | ⟨mk,ef,lk,bd⟩
  ·walk_at "l2"
   intro pe H2 f2 s2 e2
   refine tR (rp.same s2) (show Rep K H2 (.ref pe) (.tup []) from .tup (SqT.of e2) rfl (fun i x y h=>by simp at h)) dp ?_
   rw [dn]
   have ef2:=s2.get ef
   walk_at "l2"
   intro Dl H3 f3 s3 e3
   refine Jx e3 rfl rfl ?_
   rw [show inV (V.str "fit") [V.str "fit",V.str "unfit"]=true from by decide]
   have ef3:=s3.get ef2
   have s23:=s2.trans s3
   walk_at "l2"
   refine ⟨f,D,t,n,o,rr,ra,m,nx,os,rs,an,qq,nms,rfl,l5.same s23,ef3,s23.get eD,sd,nf,fun H4 s4=>?_⟩
   exact q H4 (s23.trans s4)
  ·walk_at "l2"
   intro pe H2 f2 s2 e2
   refine tR (rp.same s2) (show Rep K H2 (.ref pe) (.tup []) from .tup (SqT.of e2) rfl (fun i x y h=>by simp at h)) dp ?_
   rw [dn]
   have ef2:=s2.get ef
   walk_at "l2"
   intro Dl H3 f3 s3 e3
   refine Jx e3 rfl rfl ?_
   rw [show inV (V.str "unfit") [V.str "fit",V.str "unfit"]=true from by decide]
   have ef3:=s3.get ef2
   have s23:=s2.trans s3
   walk_at "l2"
   refine ⟨f,D,t,n,o,rr,ra,m,nx,os,rs,an,mk,rfl,l5.same s23,ef3,lk.same s23,bd,fun H4 s4=>?_⟩
   exact q H4 (s23.trans s4)
end
section
variable {P:Program} {w:World} {K:PySem.W.Frag} {mg:Str→Option Value} {base:Heap} {a:Ad}
local macro_rules | `(tactic| walk_at "l2step") =>`(tactic| (with_reducible refine SL ?_))
theorem q0 (T:Tx K mg a):FnOk P w K mg base CX0 1 a.cS a.nc ["_law_script","_law_k"] (FC K):=by
 refine T.jY.ok AJ (fun vs H Q E h=>?_) (fun cdv A outer s H vs Q E hr h=>?_)
 ·obtain ⟨a,ns,k,rfl,_⟩:=h;rfl
 ·obtain ⟨p,ns,k,rfl,hS,h0,q⟩:=h
  refine ⟨_,((ai (cJ (aP Pa (pv 1) (ax (aK (K:=K) rfl) (by rfl) T.eQ PySem.boot_len (aa (pv 0) ae)) (aL _)) (aj (aI (aX (gT (K:=K) rfl) (pv 0) (pv 1) (fun _ _=>rfl)))) aQ)
   (aj (aI (ar cX (ar nQ af (pv 1)) af))))),aE (σ':=[some _,some _]) rfl ?_⟩
  walk_at "l2"
  rw [List.length_map]
  unfold cell at q
  refine ite2 (fun hc=>?_) (fun hc=>?_)
  ·have hc:=of_decide_eq_true hc
   have ha:atI (ns.map V.int) k=some (.int (ns.getD k.toNat 0)):=by
    obtain ⟨j,rfl⟩:=Int.eq_ofNat_of_zero_le h0
    have hj:j < ns.length:=by omega
    exact E8 (by rw [List.getElem?_map,List.getElem?_eq_getElem hj,List.getD_eq_getElem?_getD,Int.toNat_natCast,List.getElem?_eq_getElem hj];rfl)
   rw [if_pos hc] at q
   walk_at "l2"
   exact q
  ·have hc:¬ k < ns.length:=fun z=>hc (decide_eq_true z)
   rw [if_neg hc] at q
   walk_at "l2"
   exact q
theorem jJ (T:Tx K mg a):FnOk P w K mg base CX0 1 a.dP a.qp ["_law_cell_here","_law_k"] NB:=by
 refine T.l8.ok mH (fun vs H Q E h=>?_) (fun cdv A outer s H vs Q E hr h=>?_)
 ·obtain ⟨c,k,rfl,_⟩:=h;rfl
 ·obtain ⟨c,k,rfl,h0,h1,q⟩:=h
  refine ⟨_,((ai (au (i:=2) mH.nd rfl (by walk_at "o") (ar bZ (ar cX (ar cX (ar nQ (ar bZ (pv 0) af) af) (ar nQ af (pv 1))) af) af))
   (ai (au (i:=2) mH.nd rfl (by walk_at "o") (ar bZ (ar nQ (pv 2) (pv 2)) af))
   (aj (aI (ar bZ (ar nQ (pv 2) (ar cX (ar cX (pv 2) (ar nQ af (pv 1))) af)) af)))))),aE (σ':=[some _,some _,none]) rfl ?_⟩
  walk_at "l2"
  show Q (.int _) H
  generalize hx:(_:Int) * (_ + 48271 * k + 7)=x
  have r1:0≤x % 2147483587:=Int.emod_nonneg _ (by decide)
  have r2:x % 2147483587 < 2147483587:=Int.emod_lt_of_pos _ (by decide)
  obtain ⟨j,hj⟩:=Int.eq_ofNat_of_zero_le r1
  rw [hj] at r2 ⊢
  exact q j (by omega)
local macro_rules | `(tactic| walk_at "l2step") =>`(tactic| first | ((with_reducible refine' EW ?e ?a ?_);(case e=>walk_at "l2hp");(case a=>walk_at "l2side")) | ((with_reducible refine' P2 ?a ?b ?_);(case a=>walk_at "l2side");(case b=>walk_at "l2side");(with_reducible intro _ _)))
local macro_rules | `(tactic| walk_at "l2step") =>`(tactic| first | (with_reducible refine SE ?_))
theorem nR (T:Tx K mg a):FnOk P w K mg base CX0 2 a.cy a.kW ["_law_cell_here","_law_start","_law_many","_law_width","_law_digits"] Jk:=by
 have bL:=@jJ P w K mg base a T
 refine T.iO.ok eK (fun vs H Q E h=>?_) (fun cdv A outer s H vs Q E hr h=>?_)
 ·obtain ⟨c,st,n,wd,dg,rfl,_⟩:=h;rfl
 ·obtain ⟨c,st,n,wd,dg,rfl,hst,hn,hw,q⟩:=h
  have hnw:n * wd≤1024:=Nat.le_trans (Nat.mul_le_mul hn hw) (by decide)
  have hpow:(1:Int) * 2 ^ ((wd:Int).toNat)=((2 ^ wd:Nat):Int):=shl1 wd
  have hp0:=Nat.two_pow_pos wd
  have hp16:2 ^ wd≤2 ^ 16:=Nat.pow_le_pow_right (by decide) hw
  have ec:(n:Int) * (wd:Int) + 1=((n * wd + 1:Nat):Int):=by push_cast;rfl
  have hpow2:(1:Int) * 2 ^ (((n * wd + 1:Nat):Int).toNat)=((2 ^ (n * wd + 1):Nat):Int):=shl1 _
  have hp2:=Nat.two_pow_pos (n * wd + 1)
  refine ⟨_,((ai (au (i:=5) eK.nd rfl (by walk_at "o") (bK ae))
   (ai (au (i:=6) eK.nd rfl (by walk_at "o") (ar gD (ar bZ (pv 0) (ar gq af (ar cX (ar nQ (pv 2) (pv 3)) af))) af))
   (ai (gj PassesOwn.never rfl (jg (by rfl) T.pX (aa (pv 2) ae)) (aG (i:=7) eK.nd rfl (by walk_at "o")) (aj (cJ (cI (pv 4)) (ai (dU (qU (K:=K) rfl PySem.F.plainAttrs_list PySem.F.slot_list_append PySem.F.type_list_append eV (pv 5) (aa (ar bZ (pv 6) (ar gq af (pv 3))) ae)))
   (aj (au (i:=6) eK.nd rfl (by walk_at "o") (ar gD (pv 6) (ar gq af (pv 3)))))) (aj (dU (qU (K:=K) rfl PySem.F.plainAttrs_list PySem.F.slot_list_append PySem.F.type_list_append eV (pv 5) (aa (ar bZ (aq bL (hr.mono (by decide)) (by rfl) T.cM T.cK T.bS .nil aF (aa (pv 0) (aa (ar cX (pv 1) (pv 7)) ae))) (ar gq af (pv 3))) ae)))))))
   (aj (aI (pv 5))))))),aE (σ':=[some _,some _,some _,some _,some _,none,none,none]) rfl ?_⟩
  walk_at "l2"
  intro D H1 f1 s1 e1
  walk_at "l2"
  rw [ec]
  walk_at "l2"
  rw [hpow2]
  walk_at "l2"
  refine oa (fun i σ H'=>∃ (l:Int) (v:Option V) (ms:List Nat),σ=[some (.int c),some (nat st),some (nat n),some (nat wd),some (.bl dg),some (.ref D),some (.int l),v]∧Same H H'∧H' D=some (.lst (ms.map nat))∧ms.length=i∧∀ x∈ms,x < 2 ^ wd) ⟨_,none,[],rfl,s1,e1,rfl,fun _ h=>absurd h (by simp)⟩ ?_ ?_
  ·rintro i σ H' hi ⟨l,v,ms,rfl,s6,e6,el,hb⟩
   have hi':i < n:=by omega
   clear hpow2 hp2 ec
   cases dg with
   | true=>
     walk_at "l2"
     rw [hpow]
     obtain ⟨k,hk,hkl⟩:=iF (c:=l) (m:=((2 ^ wd:Nat):Int)) (by omega)
     walk_at "l2"
     rw [hk]
     refine iA e6 (by rw [List.length_map,sizeLine_eq];omega) fun H7 u7=>?_
     walk_at "l2"
     rw [hpow]
     walk_at "l2"
     refine ⟨_,_,ms++[k],rfl,fun b o e=>u7.oth _ _ (av e f1) (s6.get e),?_,by rw [List.length_append,el];rfl,fun x hx=>?_⟩
     ·rw [u7.at',List.map_append];rfl
     ·rcases List.mem_append.mp hx with h | h
      ·exact hb x h
      ·rw [List.mem_singleton.mp h];omega
   | false=>
     walk_at "l2"
     rename_i r hr'
     rw [hpow]
     obtain ⟨k,hk,hkl⟩:=iF (c:=(r:Int)) (m:=((2 ^ wd:Nat):Int)) (by omega)
     walk_at "l2"
     rw [hk]
     refine iA e6 (by rw [List.length_map,sizeLine_eq];omega) fun H7 u7=>?_
     walk_at "l2"
     refine ⟨_,_,ms++[k],rfl,fun b o e=>u7.oth _ _ (av e f1) (s6.get e),?_,by rw [List.length_append,el];rfl,fun x hx=>?_⟩
     ·rw [u7.at',List.map_append];rfl
     ·rcases List.mem_append.mp hx with h | h
      ·exact hb x h
      ·rw [List.mem_singleton.mp h];omega
  ·rintro σ H' ⟨l,v,ms,rfl,s6,e6,el,hb⟩
   walk_at "l2"
   exact q D H' ms f1 s6 e6 (by omega) hb
theorem ui (T:Tx K mg a):FnOk P w K mg base CX0 2 a.bB a.iR ["_law_masks_here","_law_cell_here","_law_start","_law_way"] LX:=by
 have bL:=@jJ P w K mg base a T
 refine T.fW.ok bT (fun vs H Q E h=>?_) (fun cdv A outer s H vs Q E hr h=>?_)
 ·obtain ⟨r,ms,c,st,wy,wd,rfl,_⟩:=h;rfl
 ·obtain ⟨r,ms,c,st,wy,wd,rfl,hp,hst,hw,hl,hb,q⟩:=h
  refine ⟨_,((ai (au (i:=4) bT.nd rfl (by walk_at "o") (bK ae))
   (ai (gj PassesOwn.never rfl (mM (K:=K) rfl (by rfl) T.dz (pv 0)) (t4 rfl (bY (aG (i:=5) bT.nd rfl (by walk_at "o")) (bY (aG (i:=6) bT.nd rfl (by walk_at "o")) jH))) (fL (cJ (aP jh (pv 3) af (aL _)) (aj (au (i:=6) bT.nd rfl (by walk_at "o") (ar ji (pv 6) (aq bL (hr.mono (by decide)) (by rfl) T.cM T.cK T.bS .nil aF (aa (pv 1) (aa (ar cX (pv 2) (pv 5)) ae)))))) aQ)
   (fL (cJ (PW.pt (FK (aP jh (pv 3) af (aL _)) (yI (aP ug (pv 5) af (aL _))))) (aj (au (i:=6) bT.nd rfl (by walk_at "o") (ar gq af (ar uf (pv 5) af)))) aQ)
   (fL (cJ (aP jh (pv 3) af (aL _)) (aj (au (i:=6) bT.nd rfl (by walk_at "o") (ar ji (pv 6) (aX (gT (K:=K) rfl) (bK (aa af (aa af ae))) (ar bZ (pv 5) af) (fun _ _=>rfl))))) aQ)
   (aj (dU (qU (K:=K) rfl PySem.F.plainAttrs_list PySem.F.slot_list_append PySem.F.type_list_append eV (pv 4) (aa (pv 6) ae))))))))
   (aj (aI (pv 4)))))),aE (σ':=[some _,some _,some _,some _,none,none,none]) rfl ?_⟩
  walk_at "l2"
  intro D H1 f1 s1 e1
  walk_at "l2"
  refine og (xs:=ms.map nat) (fun i σ H'=>∃ (v v':Option V) (ms2:List Nat),σ=[some (.ref r),some (.int c),some (nat st),some (nat wy),some (.ref D),v,v']∧Same H H'∧H' D=some (.lst (ms2.map nat))∧ms2.length=i∧∀ x∈ms2,x < 2 ^ wd) ⟨none,none,[],rfl,s1,e1,rfl,fun _ h=>absurd h (by simp)⟩ (fun i σ H' _ ⟨_,_,_,_,e,_⟩=>SqL.of (e.get hp)) ?_ ?_
  ·rintro i y σ H' p H7 hy ⟨v,v',ms2,rfl,s6,e6,el,hb2⟩ fp s7 e7
   obtain ⟨x,hx,rfl⟩:=bH hy
   have hi:=(List.getElem?_eq_some_iff.mp hx).1
   have hxb:=hb x (List.mem_of_getElem? hx)
   have eD7:=s7.get e6
   walk_at "l2"
   refine pf (fun σ H2=>H7=H2∧∃ x:Nat,x < 2 ^ wd∧σ=[some (.ref r),some (.int c),some (nat st),some (nat wy),some (.ref D),some (nat i),some (nat x)]) ?_ ?_
   ·walk_at "l2"
    refine iteB (fun hc=>?_) (fun hc=>?_)
    ·walk_at "l2"
     rw [bR]
     exact ⟨_,Nat.lt_of_le_of_lt Nat.and_le_left hxb,rfl⟩
    ·walk_at "l2"
     exact ⟨_,hxb,rfl⟩
   ·rintro σ H2 ⟨rfl,x2,hx2,rfl⟩
    walk_at "l2"
    refine pf (fun σ H2=>H7=H2∧∃ x:Nat,x < 2 ^ wd∧σ=[some (.ref r),some (.int c),some (nat st),some (nat wy),some (.ref D),some (nat i),some (nat x)]) ?_ ?_
    ·walk_at "l2"
     refine iteB (fun hc=>?_) (fun hc=>?_)
     ·walk_at "l2"
      refine iteB (fun hc2=>?_) (fun hc2=>?_)
      ·have hi0:0 < i:=by have:=of_decide_eq_true hc2;omega
       have e1:(i:Int) - 1=((i - 1:Nat):Int):=by omega
       walk_at "l2"
       rw [e1]
       walk_at "l2"
       rw [shl1]
       exact ⟨_,Nat.pow_lt_pow_right (by decide) (show i - 1 < wd by omega),rfl⟩
      ·walk_at "l2"
       exact ⟨_,hx2,rfl⟩
     ·walk_at "l2"
      exact ⟨_,hx2,rfl⟩
    ·rintro σ H2 ⟨rfl,x3,hx3,rfl⟩
     walk_at "l2"
     refine pf (fun σ H2=>Same H7 H2∧∃ x:Nat,x < 2 ^ wd∧σ=[some (.ref r),some (.int c),some (nat st),some (nat wy),some (.ref D),some (nat i),some (nat x)]) ?_ ?_
     ·walk_at "l2"
      refine iteB (fun hc=>?_) (fun hc=>?_)
      ·walk_at "l2"
       intro D8 H8 f8 s8 e8
       have key:∃ k:Nat,atI [V.int 43690,.int 21845] ((i:Int) % 2)=some (nat k):=by
        rcases Int.emod_two_eq (i:Int) with h | h<;>rw [h]
        ·exact ⟨43690,rfl⟩
        ·exact ⟨21845,rfl⟩
       obtain ⟨k,hk⟩:=key
       walk_at "l2"
       rw [bR]
       exact ⟨s8,_,Nat.lt_of_le_of_lt Nat.and_le_left hx3,rfl⟩
      ·walk_at "l2"
       exact ⟨Same.refl _,_,hx3,rfl⟩
     ·rintro σ H2 ⟨s8,x4,hx4,rfl⟩
      walk_at "l2"
      refine iA (s8.get eD7) (by rw [List.length_map,sizeLine_eq];omega) fun H9 u9=>?_
      walk_at "l2"
      refine ⟨_,_,ms2++[x4],rfl,fun b o e=>u9.oth _ _ (av e f1) (s8.get (s7.get (s6.get e))),?_,by rw [List.length_append,el];rfl,fun z hz=>?_⟩
      ·rw [u9.at',List.map_append];rfl
      ·rcases List.mem_append.mp hz with h | h
       ·exact hb2 z h
       ·rw [List.mem_singleton.mp h];exact hx4
  ·rintro σ H' ⟨v,v',ms2,rfl,s6,e6,el,hb2⟩
   rw [List.length_map] at el
   walk_at "l2"
   exact q D H' ms2 f1 s6 e6 el hb2
theorem uk (T:Tx K mg a):FnOk P w K mg base CX0 3 a.bD a.iT ["_law_script","_law_start","_law_most"] (L6 K):=by
 have bM:=@q0 P w K mg base a T
 have bL:=@jJ P w K mg base a T
 have eI:=@nR P w K mg base a T
 have xI:=@ui P w K mg base a T
 refine T.fY.ok az (fun vs H Q E h=>?_) (fun cdv A outer s H vs Q E hr h=>?_)
 ·obtain ⟨p,ns,st,mo,rfl,_⟩:=h;rfl
 ·obtain ⟨p,ns,st,mo,rfl,hS,hst,hmo,q⟩:=h
  refine ⟨_,((ai (au (i:=3) az.nd rfl (by walk_at "o") (aq bM (hr.mono (by decide)) (by rfl) T.bW T.bU T.bz .nil aF (aa (pv 0) (aa (pv 1) ae))))
   (ai (au (i:=4) az.nd rfl (by walk_at "o") (ar bZ (ar gD (pv 3) af) (ar cX (pv 2) af)))
   (fL (cJ (aP jh (ar bZ (ar gD (pv 3) af) af) af (aL _)) (aj (au (i:=4) az.nd rfl (by walk_at "o") (ar bZ (ar gD (pv 3) af) af))) aQ)
   (ai (au (i:=5) az.nd rfl (by walk_at "o") (ar bZ (aq bL (hr.mono (by decide)) (by rfl) T.cM T.cK T.bS .nil aF (aa (pv 3) (aa af ae))) af))
   (ai (au (i:=6) az.nd rfl (by walk_at "o") (ar bZ (aq bL (hr.mono (by decide)) (by rfl) T.cM T.cK T.bS .nil aF (aa (pv 3) (aa af ae))) af))
   (fL (cJ (aP jh (ar bZ (ar gD (pv 3) af) af) af (aL _)) (ai (au (i:=5) az.nd rfl (by walk_at "o") (ar bZ (aq bL (hr.mono (by decide)) (by rfl) T.cM T.cK T.bS .nil aF (aa (pv 3) (aa af ae))) af))
   (aj (au (i:=6) az.nd rfl (by walk_at "o") (ar bZ (aq bL (hr.mono (by decide)) (by rfl) T.cM T.cK T.bS .nil aF (aa (pv 3) (aa af ae))) af)))) aQ)
   (ai (au (i:=7) az.nd rfl (by walk_at "o") (dw jh (ar bZ (pv 3) af) af (aL _)))
   (ai (au (i:=8) az.nd rfl (by walk_at "o") (ar bZ (aq bL (hr.mono (by decide)) (by rfl) T.cM T.cK T.bS .nil aF (aa (pv 3) (aa af ae))) af))
   (ai (au (i:=9) az.nd rfl (by walk_at "o") (aq eI (hr.mono (by decide)) (by rfl) T.gw T.gv T.dD .nil aF (aa (aq bM (hr.mono (by decide)) (by rfl) T.bW T.bU T.bz .nil aF (aa (pv 0) (aa (ar cX (pv 1) af) ae))) (aa af (aa (pv 4) (aa (pv 4) (aa (pv 7) ae)))))))
   (ai (au (i:=10) az.nd rfl (by walk_at "o") (aq eI (hr.mono (by decide)) (by rfl) T.gw T.gv T.dD .nil aF (aa (aq bM (hr.mono (by decide)) (by rfl) T.bW T.bU T.bz .nil aF (aa (pv 0) (aa (ar cX (pv 1) af) ae))) (aa af (aa (pv 4) (aa (pv 5) (aa (pv 7) ae)))))))
   (fL (cJ (dj (cI (pv 7))) (ai (au (i:=9) az.nd rfl (by walk_at "o") (aq xI (hr.mono (by decide)) (by rfl) T.xa T.w4 T.iY .nil aF (aa (pv 9) (aa (aq bM (hr.mono (by decide)) (by rfl) T.bW T.bU T.bz .nil aF (aa (pv 0) (aa (ar cX (pv 1) af) ae))) (aa af (aa (pv 8) ae))))))
   (aj (cJ (aP ug (pv 8) af (aL _)) (aj (pq (osc:=ah bA) (ON:=["_law_script","_law_start","_law_most","_law_cell_here","_law_stores","_law_inputs","_law_outputs","_law_digits","_law_way","_law_one","_law_other","_law_shown","_law_straight"]) (N:=["_law_k","_law_mask","_law_script","_law_start"]) (n:=2) (fx:=[0,1]) (i:=10) az.nd rfl rfl rfl rfl rfl rfl (by decide +kernel) (mM (K:=K) rfl (by rfl) T.dz (pv 10)) (KF (lR (cL (by decide)) (lR (cL (by decide)) EA))) (fun _ _ _ _ _=>⟨(DL (K:=K) (n:=2) rfl rfl (bY (aG (i:=0) (show List.Nodup (["_law_k","_law_mask","_law_script","_law_start"]:List Str) from by decide +kernel) rfl (by walk_at "o")) (bY (aG (i:=1) (show List.Nodup (["_law_k","_law_mask","_law_script","_law_start"]:List Str) from by decide +kernel) rfl (by walk_at "o")) jH))),fK,(ar ji (pv 1) (aq bL (hr.mono (by decide)) (by rfl) T.cM T.cK T.bS .nil aF (aa (aq bM (hr.mono (by decide)) (by rfl) T.bW T.bU T.bz .nil aF (aa (pv 2) (aa (ar cX (pv 3) af) ae))) (aa (ar cX af (pv 0)) ae))))⟩))) aQ))) aQ)
   (ai (au (i:=11) az.nd rfl (by walk_at "o") (aq eI (hr.mono (by decide)) (by rfl) T.gw T.gv T.dD .nil aF (aa (aq bM (hr.mono (by decide)) (by rfl) T.bW T.bU T.bz .nil aF (aa (pv 0) (aa (ar cX (pv 1) af) ae))) (aa af (aa (pv 6) (aa (pv 4) (aa (pv 7) ae)))))))
   (ai (au (i:=12) az.nd rfl (by walk_at "o") (aq eI (hr.mono (by decide)) (by rfl) T.gw T.gv T.dD .nil aF (aa (aq bM (hr.mono (by decide)) (by rfl) T.bW T.bU T.bz .nil aF (aa (pv 0) (aa (ar cX (pv 1) af) ae))) (aa af (aa (pv 6) (aa (pv 5) (aa (pv 7) ae)))))))
   (fL (cJ (PW.pt (FK (dj (cI (pv 7))) (yI (aP ug (pv 8) af (aL _))))) (aj (pq (osc:=ah bA) (ON:=["_law_script","_law_start","_law_most","_law_cell_here","_law_stores","_law_inputs","_law_outputs","_law_digits","_law_way","_law_one","_law_other","_law_shown","_law_straight"]) (N:=["_law_k","_law_mask","_law_script","_law_start"]) (n:=2) (fx:=[0,1]) (i:=11) az.nd rfl rfl rfl rfl rfl rfl (by decide +kernel) (mM (K:=K) rfl (by rfl) T.dz (pv 11)) (KF (lR (cL (by decide)) (lR (cL (by decide)) EA))) (fun _ _ _ _ _=>⟨(DL (K:=K) (n:=2) rfl rfl (bY (aG (i:=0) (show List.Nodup (["_law_k","_law_mask","_law_script","_law_start"]:List Str) from by decide +kernel) rfl (by walk_at "o")) (bY (aG (i:=1) (show List.Nodup (["_law_k","_law_mask","_law_script","_law_start"]:List Str) from by decide +kernel) rfl (by walk_at "o")) jH))),fK,(ar ji (pv 1) (aq bL (hr.mono (by decide)) (by rfl) T.cM T.cK T.bS .nil aF (aa (aq bM (hr.mono (by decide)) (by rfl) T.bW T.bU T.bz .nil aF (aa (pv 2) (aa (ar cX (pv 3) af) ae))) (aa (ar cX af (pv 0)) ae))))⟩))) aQ)
   (fL (cJ (PW.pt (FK (dj (cI (pv 7))) (yI (aP ug (pv 8) af (aL _))))) (aj (pq (osc:=ah bA) (ON:=["_law_script","_law_start","_law_most","_law_cell_here","_law_stores","_law_inputs","_law_outputs","_law_digits","_law_way","_law_one","_law_other","_law_shown","_law_straight"]) (N:=["_law_mask"]) (n:=1) (fx:=[]) (i:=12) az.nd rfl rfl rfl rfl rfl rfl (by decide +kernel) (bJ (K:=K) rfl (pv 12)) (cL (by decide)) (fun _ _ _ _ _=>⟨(aG (i:=0) (show List.Nodup (["_law_mask"]:List Str) from by decide +kernel) rfl (by walk_at "o")),fK,af⟩))) aQ)
   (aj (aI (eP (aa (pv 5) (aa (xX (K:=K) rfl rfl (by rfl) (by rfl) T.j8 T.Rx (pv 9) (pv 10)) (aa (xX (K:=K) rfl rfl (by rfl) (by rfl) T.j8 T.Rx (pv 11) (pv 12)) ae)))))))))))))))))))))),aE (σ':=[some _,some _,some _,none,none,none,none,none,none,none,none,none,none]) rfl ?_⟩
  walk_at "l2"
  obtain ⟨S0,eS,lS⟩:=iF (c:=cell ns (st:Int) / 2) (m:=(mo:Int) + 1) (by omega)
  rw [eS]
  generalize cell ns (st:Int)=c
  refine pf (fun σ H2=>H=H2∧∃ S:Nat,S≤16∧σ=[some (.ref p),some (nat st),some (nat mo),some (.int c),some (nat S),none,none,none,none,none,none,none,none]) ?_ ?_
  ·walk_at "l2"
   refine iteB (fun hc=>?_) (fun hc=>?_)
   ·walk_at "l2"
    obtain ⟨k,hk,hkl⟩:=iF (c:=c / 512) (m:=17) (by decide)
    rw [hk]
    exact ⟨_,by omega,rfl⟩
   ·walk_at "l2"
    exact ⟨_,by omega,rfl⟩
  ·rintro σ H2 ⟨rfl,S,hS16,rfl⟩
   clear eS lS
   walk_at "l2"
   rename_i r1 h1 r2 h2
   have ei:(r1:Int) % 4=((r1 % 4:Nat):Int):=by omega
   have eo:(r2:Int) % 4=((r2 % 4:Nat):Int):=by omega
   rw [ei,eo]
   refine pf (fun σ H2=>H=H2∧∃ I O:Nat,(I≤6∧O≤6)∧σ=[some (.ref p),some (nat st),some (nat mo),some (.int c),some (nat S),some (nat I),some (nat O),none,none,none,none,none,none]) ?_ ?_
   ·walk_at "l2"
    refine iteB (fun hc=>?_) (fun hc=>?_)
    ·walk_at "l2"
     rename_i r3 h3 r4 h4
     have ei:(r3:Int) % 7=((r3 % 7:Nat):Int):=by omega
     have eo:(r4:Int) % 7=((r4 % 7:Nat):Int):=by omega
     rw [ei,eo]
     exact ⟨_,_,⟨by omega,by omega⟩,rfl⟩
    ·walk_at "l2"
     exact ⟨_,_,⟨by omega,by omega⟩,rfl⟩
   ·rintro σ H2 ⟨rfl,I,O,⟨hI,hO⟩,rfl⟩
    clear ei eo h1 h2
    walk_at "l2"
    rename_i r5 h5
    have ew:(r5:Int) % 5=((r5 % 5:Nat):Int):=by omega
    rw [ew]
    generalize hwy:r5 % 5=wy
    have hwy5:wy < 5:=by omega
    generalize hdg:decide (V.int (c % 2)=V.int 0)=dg
    clear ew hwy hdg h5
    refine ⟨_,100,S,S,dg,rfl,by decide,by omega,hS16,fun D1 H1 ms1 f1 s1 e1 l1 b1=>?_⟩
    have hS1:=Same.seq s1 hS
    walk_at "l2"
    refine ⟨_,140,S,I,dg,rfl,by decide,by omega,by omega,fun D2 H2 ms2 f2 s2 e2 l2 b2=>?_⟩
    have hS2:=Same.seq s2 hS1
    have e1':=s2.get e1
    walk_at "l2"
    refine pf (fun σ H3=>∃ (D1 D2:Addr) (ms1 ms2:List Nat),σ=[some (.ref p),some (nat st),some (nat mo),some (.int c),some (nat S),some (nat I),some (nat O),some (.bl dg),some (nat wy),some (.ref D1),some (.ref D2),none,none]∧Same H H3∧H3 D1=some (.lst (ms1.map nat))∧H3 D2=some (.lst (ms2.map nat))∧ms1.length=S∧ms2.length=S∧(∀ x∈ms1,x < 2 ^ S)∧∀ x∈ms2,x < 2 ^ I) ?_ ?_
    ·walk_at "l2"
     cases dg with
     | true=>
       walk_at "l2"
       exact ⟨D1,D2,ms1,ms2,rfl,s1.trans s2,e1',e2,l1,l2,b1,b2⟩
     | false=>
       walk_at "l2"
       refine ⟨D1,ms1,_,180,wy,S,rfl,e1',by decide,hS16,by omega,b1,fun D3 H3 ms3 f3 s3 e3 l3 b3=>?_⟩
       have e23:=s3.get e2
       have hS3:=Same.seq s3 hS2
       walk_at "l2"
       refine iteB (fun hc=>?_) (fun hc=>?_)
       ·walk_at "l2"
        intro D hD
        refine yi (xs:=ms2.map nat) (fun i ys H'=>Cs (fun i ys=>∃ qs:List Nat,ys=qs.map nat∧qs.length=i∧∀ x∈qs,x < 2 ^ I) H3 D i ys H') (Cs.zero hD ⟨[],rfl,rfl,fun _ h=>absurd h (by simp)⟩) (fun i ys H' _ c=>SqL.of (c.same.get e23)) (fun i v ys H' p' H7 hv c' fp s7 e7=>?_) (fun ys H' c'=>?_)
        ·obtain ⟨x,hx,rfl⟩:=bH hv
         obtain ⟨qs,eqs,lqs,bqs⟩:=c'.pv
         have hi:=(List.getElem?_eq_some_iff.mp hx).1
         have hS7:=Same.seq s7 (Same.seq c'.same hS3)
         walk_at "l2"
         rw [bR]
         refine Cs.put hD (c'.same.trans s7) (s7.get c'.at') c'.len (by omega) ⟨qs++[_],by rw [eqs,List.map_append];rfl,by rw [List.length_append,lqs];rfl,fun z hz=>?_⟩
         rcases List.mem_append.mp hz with h | h
         ·exact bqs z h
         ·rw [List.mem_singleton.mp h];exact Nat.lt_of_le_of_lt Nat.and_le_left (b2 x (List.mem_of_getElem? hx))
        ·obtain ⟨qs,eqs,lqs,bqs⟩:=c'.pv
         rw [List.length_map] at lqs
         have ec:=c'.at'
         rw [eqs] at ec
         exact ⟨D3,D,ms3,qs,rfl,s1.trans (s2.trans (s3.trans c'.same)),c'.same.get e3,ec,by omega,by omega,b3,bqs⟩
       ·walk_at "l2"
        exact ⟨D3,D2,ms3,ms2,rfl,s1.trans (s2.trans s3),e3,e23,by omega,l2,b3,b2⟩
    ·rintro σ H3 ⟨D1,D2,ms1,ms2,rfl,s3,e1,e2,l1,l2,b1,b2⟩
     have hS3:=Same.seq s3 hS
     walk_at "l2"
     refine ⟨_,260,O,S,dg,rfl,by decide,by omega,hS16,fun D4 H4 ms4 f4 s4 e4 l4 b4=>?_⟩
     have hS4:=Same.seq s4 hS3
     walk_at "l2"
     refine ⟨_,280,O,I,dg,rfl,by decide,by omega,by omega,fun D5 H5 ms5 f5 s5 e5 l5 b5=>?_⟩
     have hS5:=Same.seq s5 hS4
     have e45:=s5.get e4
     walk_at "l2"
     refine pf (fun σ H6=>∃ (D4:Addr) (ms4:List Nat),σ=[some (.ref p),some (nat st),some (nat mo),some (.int c),some (nat S),some (nat I),some (nat O),some (.bl dg),some (nat wy),some (.ref D1),some (.ref D2),some (.ref D4),some (.ref D5)]∧Same H5 H6∧H6 D4=some (.lst (ms4.map nat))∧ms4.length=O∧∀ x∈ms4,x < 2 ^ S) ?_ ?_
     ·walk_at "l2"
      refine iteB (fun hc=>?_) (fun hc=>?_)
      ·walk_at "l2"
       refine iteB (fun hc=>?_) (fun hc=>?_)
       ·walk_at "l2"
        intro D hD
        refine yi (xs:=ms4.map nat) (fun i ys H'=>Cs (fun i ys=>∃ qs:List Nat,ys=qs.map nat∧qs.length=i∧∀ x∈qs,x < 2 ^ S) H5 D i ys H') (Cs.zero hD ⟨[],rfl,rfl,fun _ h=>absurd h (by simp)⟩) (fun i ys H' _ c=>SqL.of (c.same.get e45)) (fun i v ys H' p' H7 hv c' fp s7 e7=>?_) (fun ys H' c'=>?_)
        ·obtain ⟨x,hx,rfl⟩:=bH hv
         obtain ⟨qs,eqs,lqs,bqs⟩:=c'.pv
         have hi:=(List.getElem?_eq_some_iff.mp hx).1
         have hS7:=Same.seq s7 (Same.seq c'.same hS5)
         walk_at "l2"
         rw [bR]
         refine Cs.put hD (c'.same.trans s7) (s7.get c'.at') c'.len (by omega) ⟨qs++[_],by rw [eqs,List.map_append];rfl,by rw [List.length_append,lqs];rfl,fun z hz=>?_⟩
         rcases List.mem_append.mp hz with h | h
         ·exact bqs z h
         ·rw [List.mem_singleton.mp h];exact Nat.lt_of_le_of_lt Nat.and_le_left (b4 x (List.mem_of_getElem? hx))
        ·obtain ⟨qs,eqs,lqs,bqs⟩:=c'.pv
         rw [List.length_map] at lqs
         have ec:=c'.at'
         rw [eqs] at ec
         exact ⟨D,qs,rfl,c'.same,ec,by omega,bqs⟩
       ·walk_at "l2"
        exact ⟨D4,ms4,rfl,Same.refl _,e45,l4,b4⟩
      ·walk_at "l2"
       exact ⟨D4,ms4,rfl,Same.refl _,e45,l4,b4⟩
     ·rintro σ H6 ⟨D4,ms4,rfl,s6,e4,l4,b4⟩
      have e56:=s6.get e5
      have e16:=s6.get (s5.get (s4.get e1))
      have e26:=s6.get (s5.get (s4.get e2))
      have s06:=s3.trans (s4.trans (s5.trans s6))
      clear hS1 hS2 hS3 hS4 hS5 e45
      walk_at "l2"
      refine pf (fun σ H7=>∃ (D5:Addr) (ms5:List Nat),σ=[some (.ref p),some (nat st),some (nat mo),some (.int c),some (nat S),some (nat I),some (nat O),some (.bl dg),some (nat wy),some (.ref D1),some (.ref D2),some (.ref D4),some (.ref D5)]∧Same H6 H7∧H7 D5=some (.lst (ms5.map nat))∧ms5.length=O∧∀ x∈ms5,x < 2 ^ I) ?_ ?_
      ·walk_at "l2"
       refine iteB (fun hc=>?_) (fun hc=>?_)
       ·walk_at "l2"
        refine iteB (fun hc=>?_) (fun hc=>?_)
        ·walk_at "l2"
         intro D hD
         refine cZ (xs:=ms5.map nat) (fun i ys H'=>Cs (fun i ys=>ys=(List.replicate i 0).map nat) H6 D i ys H') (Cs.zero hD rfl) (fun i ys H' _ c=>SqL.of (c.same.get e56)) (fun i v ys H' hv c'=>?_) (fun ys H' c'=>?_)
         ·have hi:=(List.getElem?_eq_some_iff.mp hv).1
          rw [List.length_map] at hi
          walk_at "l2"
          refine Cs.put hD c'.same c'.at' c'.len (by omega) ?_
          rw [c'.pv,List.replicate_succ',List.map_append];rfl
         ·have ec:=c'.at'
          rw [c'.pv,List.length_map] at ec
          refine ⟨D,List.replicate ms5.length 0,rfl,c'.same,ec,by rw [List.length_replicate];exact l5,fun x hx=>?_⟩
          rw [List.eq_of_mem_replicate hx];exact Nat.two_pow_pos _
        ·walk_at "l2"
         exact ⟨D5,ms5,rfl,Same.refl _,e56,l5,b5⟩
       ·walk_at "l2"
        exact ⟨D5,ms5,rfl,Same.refl _,e56,l5,b5⟩
      ·rintro σ H7 ⟨D5,ms5,rfl,s7,e5,l5,b5⟩
       walk_at "l2"
       refine ⟨D1,D2,ms1.map nat,ms2.map nat,rfl,rfl,SqL.of (s7.get e16),SqL.of (s7.get e26),by rw [List.length_map,List.length_map];omega,fun Dn pn H8 f8 s8 e8 lp8 t8=>?_⟩
       obtain ⟨nx,rn,ptn,lnx,mn⟩:=IH (by omega) lp8 t8
       rw [← rn] at e8
       walk_at "l2"
       refine ⟨D4,D5,ms4.map nat,ms5.map nat,rfl,rfl,SqL.of (s8.get (s7.get e4)),SqL.of (s8.get e5),by rw [List.length_map,List.length_map];omega,fun Do po H9 f9 s9 e9 lp9 t9=>?_⟩
       obtain ⟨os,ro,pto,los,mo'⟩:=IH (by omega) lp9 t9
       rw [← ro] at e9
       walk_at "l2"
       intro t H10 f10 s10 e10
       have s07:=s06.trans s7
       refine q t Dn Do H10 I nx os (s07.trans (s8.trans (s9.trans s10))) (lV s07 f8) (lV (s07.trans s8) f9) ⟨e10,hI,s10.get (s9.get e8),s10.get e9,(ptn.same s9).same s10,pto.same s10,by omega,by omega,fun pr hpr=>?_⟩ (by omega)
       rw [lnx,l1]
       rcases List.mem_append.mp hpr with h | h
       ·exact ⟨b1 _ (mn pr h).1,b2 _ (mn pr h).2⟩
       ·exact ⟨b4 _ (mo' pr h).1,b5 _ (mo' pr h).2⟩
theorem A4 (T:Tx K mg a):FnOk P w K mg base CX0 3 a.cQ a.m8 ["_law_cell_here","_law_many","_law_width"] Ji:=by
 have eI:=@nR P w K mg base a T
 refine T.jW.ok AI (fun vs H Q E h=>?_) (fun cdv A outer s H vs Q E hr h=>?_)
 ·obtain ⟨c,n,wd,rfl,_⟩:=h;rfl
 ·obtain ⟨c,n,wd,rfl,hn,hw,q⟩:=h
  refine ⟨_,((aj (aI (aq eI (hr.mono (by decide)) (by rfl) T.gw T.gv T.dD .nil aF (aa (pv 0) (aa af (aa (pv 1) (aa (pv 2) (aa (dw jh (ar bZ (pv 0) af) af (aL _)) ae))))))))),aE (σ':=[some _,some _,some _]) rfl ?_⟩
  walk_at "l2"
  exact ⟨c,500,n,wd,_,rfl,by decide,hn,hw,q⟩
end
local macro_rules | `(tactic| walk_at "l2step") =>`(tactic| first | ((with_reducible refine' EW ?e ?a ?_);(case e=>walk_at "l2hp");(case a=>walk_at "l2side")) | ((with_reducible refine' P2 ?a ?b ?_);(case a=>walk_at "l2side");(case b=>walk_at "l2side");(with_reducible intro _ _)))
section
variable {P:Program} {w:World} {K:PySem.W.Frag} {mg:Str→Option Value} {base:Heap} {a:Ad}
local macro_rules | `(tactic| walk_at "l2step") =>`(tactic| first | ((with_reducible refine' qD ?e ?_);(case e=>walk_at "l2kind")) | ((with_reducible refine' yq ?e ?_);(case e=>walk_at "l2kind")) | (with_reducible refine nI ?_) | (with_reducible refine tP ?_))
theorem OJ {H:Hp} {Q:VK} {a b:Nat} (h:0 < b) (q:Q (nat (a % b)) H):rI (fun _ j=>0 < j) (fun i j=>V.int (i % j)) (nat a) (nat b) H Q:=⟨_,_,rfl,rfl,by omega,by show Q (V.int ((a:Int) % (b:Int))) H;rw [← Int.natCast_emod];exact q⟩
theorem uj (T:Tx K mg a):FnOk P w K mg base CX0 9 a.bC a.iS ["_law_machine_here","_law_rows_here","_law_answers_here"] (Jj K a.ao):=by
 have CZ:=@JU P w K mg base a T
 refine T.fX.ok eJ (fun vs H Q E h=>?_) (fun cdv A outer s H vs Q E hr h=>?_)
 ·obtain ⟨p,m,nx,os,y,z,o1,o2,rfl,_⟩:=h;rfl
 ·obtain ⟨p,m,nx,os,y,z,o1,o2,rfl,ma,g,hl,r1,r2,hz2,bad,q⟩:=h
  have hu1:=tS hr
  refine ⟨_,((ai (au (i:=3) eJ.nd rfl (by walk_at "o") (bK ae))
   (ai (Ra (i:=4) ⟨rfl,rfl⟩ thr0 T.Ez (by rfl) T.ED eJ.nd rfl rfl (fun _ _=>(aj (dU (lO CZ (hr.mono (by decide)) (by rfl) T.FZ T.FV T.yr .nil dF (aa (pv 0) (aa (pv 1) (aa (pv 2) ae))))))) (fun _ _=>(aj (au (i:=3) eJ.nd rfl (by walk_at "o") (bK (aa (ax (Cr (K:=K) rfl) (by rfl) T.bc PyProof.Rows.boot_isinstance (aa (pv 4) (aa (pE (v:= .ref a.aN) (by rfl) T.sY rfl) ae))) (aa (ax (Cr (K:=K) rfl) (by rfl) T.bc PyProof.Rows.boot_isinstance (aa (pv 4) (aa (pE (v:= .ref a.aD) (by rfl) T.vh rfl) ae))) ae)))))))
   (aj (aI (dw (DQ (K:=K) rfl hu1) (pv 3) (bK (aa md (aa md ae))) (aL _))))))),aE (σ':=[some _,some _,some _,none,none]) rfl ?_⟩
  walk_at "l2"
  intro L1 H1 f1 s1 e1
  walk_at "l2"
  refine SJ ?_
  walk_at "l2"
  refine ⟨p,m,nx,os,y,z,o1,o2,rfl,ma.same s1,g,hl,r1.same s1,r2.same s1,fun xs e=>?_,fun rs an h1 h2 h3 h4 h5 h6=>?_,fun _ H2 s2=>?_⟩
  ·obtain ⟨r,e1,e2⟩:=hz2 xs e
   exact ⟨r,e1,s1.get e2⟩
  ·subst h1 h2
   rw [lM h3 h4,lM (by omega) h6,show eqlB (some (rs.map nat)) (some (an.map nat))=true from by show decide ((rs.map nat).length=(an.map nat).length)=true;rw [List.length_map,List.length_map];exact decide_eq_true h5.symm] at bad
   cases bad
  ·refine Mg T.eN fun y H3 n3 u3=>?_
   have ex:=u3.at'
   have s3:=IX n3 u3
   walk_at "l2"
   refine NF ex T.F6 rfl T.ip ?_
   walk_at "l2"
   refine NF ex T.F6 rfl T.gF ?_
   walk_at "l2"
   intro L4 H4 f4 s4 e4
   walk_at "l2"
   refine QL ?_
   walk_at "l2"
   intro L5 H5 f5 s5 e5
   refine tR (JF (bs:=[true,false]) (s5.get e4)) (JF (bs:=[true,false]) e5) (by simp [depD,jM]) ?_
   rw [iE]
   exact q _ ((((s1.trans s2).trans s3).trans s4).trans s5)
theorem wt (T:Tx K mg a):FnOk P w K mg base CX0 2 a.bO a.jO ["_law_answers_here","_law_cell_here","_law_outputs"] (Az K):=by
 have bL:=@jJ P w K mg base a T
 refine T.gZ.ok fP (fun vs H Q E h=>?_) (fun cdv A outer s H vs Q E hr h=>?_)
 ·obtain ⟨r,an,c,ou,rfl,_⟩:=h;rfl
 ·obtain ⟨r,an,c,ou,rfl,er,hne,hl,ho,ho2,hb,q⟩:=h
  have hl0:0 < an.length:=List.length_pos_iff.mpr hne
  refine ⟨_,((ai (au (i:=3) fP.nd rfl (by walk_at "o") (gm (jA (K:=K) rfl) (by rfl) T.j8 PyProof.Rows.boot_list (aa (pv 0) ae)))
   (ai (gj PassesOwn.never rfl (jg (by rfl) T.pX (aa (ar cX af (ar bZ (pv 1) af)) ae)) (aG (i:=4) fP.nd rfl (by walk_at "o")) (ai (au (i:=5) fP.nd rfl (by walk_at "o") (ar bZ (aq bL (hr.mono (by decide)) (by rfl) T.cM T.cK T.bS .nil aF (aa (pv 1) (aa (ar cX af (pv 4)) ae))) (ax (aK (K:=K) rfl) (by rfl) T.eQ PySem.boot_len (aa (pv 3) ae))))
   (aj (NK (ar hX (aX (gT (K:=K) rfl) (pv 3) (pv 5) (fun _ _=>rfl)) (ar gq af (ar bZ (aq bL (hr.mono (by decide)) (by rfl) T.cM T.cK T.bS .nil aF (aa (pv 1) (aa (ar cX af (pv 4)) ae))) (pv 2)))) (Rf (pv 3) (pv 5) Mc)))))
   (aj (aI (pv 3)))))),aE (σ':=[some _,some _,some _,none,none,none]) rfl ?_⟩
  walk_at "l2"
  intro D H1 f1 s1 e1
  walk_at "l2"
  obtain ⟨n3,en3,ln3⟩:=iF (c:=c) (m:=3) (by decide)
  rw [en3]
  refine oa (fun i σ H'=>∃ (bn:List Nat) (v w:Option V),σ=[some (.ref r),some (.int c),some (nat ou),some (.ref D),v,w]∧Same H H'∧H' D=some (.lst (bn.map nat))∧bn.length=an.length∧∀ x∈bn,x < 2 ^ ou) ⟨an,none,none,rfl,s1,e1,rfl,hb⟩ ?_ ?_
  ·rintro i σ H2 hi ⟨bn,v,w,rfl,s2,e2,l2,b2⟩
   have hi':i < 4:=by omega
   have hl2:0 < bn.length:=by omega
   clear hi ln3 en3
   generalize hlen:bn.length=lb at hl2 l2
   walk_at "l2"
   rename_i r1 hr1
   rw [List.length_map,hlen]
   refine OJ hl2 ?_
   have hm:=Nat.mod_lt r1 hl2
   generalize r1 % lb=k1 at hm
   clear hr1
   have eat:atI (bn.map nat) (k1:Int)=some (nat (bn.getD k1 0)):=E7 (by omega)
   walk_at "l2"
   rename_i r2 hr2
   have hk2:=Nat.mod_lt r2 ho
   rw [← Int.natCast_emod]
   generalize r2 % ou=k2 at hk2
   have hk3:k2≤60:=by omega
   clear hr2
   walk_at "l2"
   rw [shl1,bw]
   refine QP ?_
   walk_at "l2"
   refine QE e2 (by rw [List.length_map];omega) fun H4 u4=>?_
   have e4:=u4.at'
   rw [show (bn.map nat).set k1 (V.int ((bn.getD k1 0^^^2 ^ k2:Nat):Int))=(bn.set k1 (bn.getD k1 0^^^2 ^ k2)).map nat from (List.map_set ..).symm] at e4
   refine ⟨bn.set k1 (bn.getD k1 0^^^2 ^ k2),_,_,rfl,fun b ob e=>u4.oth _ _ (av e f1) (s2.get e),e4,by rw [List.length_set];omega,fun x hx=>?_⟩
   rcases List.mem_or_eq_of_mem_set hx with h | h
   ·exact b2 x h
   ·rw [h]
    refine M.xor_lt_pow ?_ (Nat.pow_lt_pow_right (by decide) hk2)
    rw [List.getD_eq_getElem?_getD,List.getElem?_eq_getElem (by omega)]
    exact b2 _ (List.getElem_mem _)
  ·rintro σ H2 ⟨bn,v,w,rfl,s2,e2,l2,b2⟩
   walk_at "l2"
   exact q D H2 bn f1 s2 e2 l2 b2
end
local macro_rules | `(tactic| walk_at "l2step") =>`(tactic| first | ((with_reducible refine' EW ?e ?a ?_);(case e=>walk_at "l2hp");(case a=>walk_at "l2side")) | ((with_reducible refine' P2 ?a ?b ?_);(case a=>walk_at "l2side");(case b=>walk_at "l2side");(with_reducible intro _ _)))
section
variable {P:Program} {w:World} {K:PySem.W.Frag} {mg:Str→Option Value} {base:Heap} {a:Ad}
local macro_rules | `(tactic| walk_at "l2step") =>`(tactic| first | ((with_reducible refine' qD ?e ?_);(case e=>walk_at "l2kind")) | ((with_reducible refine' yq ?e ?_);(case e=>walk_at "l2kind")) | (with_reducible refine nI ?_) | (with_reducible refine tP ?_))
theorem Cv {K:PySem.W.Frag} {C B:Addr} {H:Hp} {Q:VK} {E:XK} {p y z:Addr} {m:Nat} {nx os:List Pr3} {rs an:List Nat} (ma:MaA H C p m nx os) (g:MaG m nx os) (hl:nx.length≤60) (ey:H y=some (.lst (rs.map nat))) (ez:H z=some (.lst (an.map nat))) (lr:rs.length≤40) (br:∀ r∈rs,r < 2 ^ m) (la:an.length=rs.length) (ba:∀ r∈an,r < 2 ^ os.length)
  (q:∀ t D H2,H D=none→Same H H2→Fts H2 t D nx os rs an→Q (.ref t) H2):Jn K C B [.ref p,.ref y,.ref z] H Q E:=by
 refine ⟨p,m,nx,os,.ref y,.ref z,some (rs.map nat),some (an.map nat),rfl,ma,g,hl,⟨y,rfl,SqL.of ey,dW.nats _ _ _⟩,⟨z,rfl,SqL.of ez,dW.nats _ _ _⟩,fun xs e=>⟨z,rfl,by cases e;exact ez⟩,fun rs' an' h1 h2 _ _ _ _ t D H2 f s ft=>?_,fun bad=>?_⟩
 ·obtain rfl:=jk (Option.some.inj h1)
  obtain rfl:=jk (Option.some.inj h2)
  exact q t D H2 f s ft
 ·rw [lM lr br,lM (by omega) ba,show eqlB (some (rs.map nat)) (some (an.map nat))=true from by show decide ((rs.map nat).length=(an.map nat).length)=true;rw [List.length_map,List.length_map];exact decide_eq_true la.symm] at bad
  cases bad
theorem F0 {H:Hp} {t D:Addr} {nx os:List Pr3} {rs an:List Nat} (x:Fts H t D nx os rs an):(∃ xs,H t=some (.tup xs)∧atI xs (-1)=some (.ref D))∧∃ ys,H D=some (.lst ys):=by
 rcases x with ⟨q,nms,h1,h2,_⟩ | ⟨mk,h1,⟨qs,h2,_⟩,_⟩
 ·exact ⟨⟨_,h1,rfl⟩,_,h2⟩
 ·exact ⟨⟨_,h1,rfl⟩,_,h2⟩
theorem PL {H H2:Hp} {t D D':Addr} {nx os:List Pr3} {rs an:List Nat} {ys zs:List V} (x:Fts H t D nx os rs an) (u:Upd H H2 D' (.lst zs)) (e:H D'=some (.lst ys)) (ne:D≠D'):Fts H2 t D nx os rs an:=by
 rcases x with ⟨q,nms,h1,h2,h3⟩ | ⟨mk,h1,⟨qs,h2,h3,h4⟩,bd⟩
 ·exact .inl ⟨q,nms,u.oth _ _ (ig h1 e (by simp)) h1,u.oth _ _ ne h2,h3⟩
 ·exact .inr ⟨mk,u.oth _ _ (ig h1 e (by simp)) h1,⟨qs,u.oth _ _ ne h2,fun q hq=>u.oth _ _ (ig (h3 q hq) e (by simp)) (h3 q hq),h4⟩,bd⟩
theorem FD {K:PySem.W.Frag} {H:Hp} {D:Addr} {v w:V} {d e:Dt} (h:H D=some (.lst [v,w])) (r1:Rep K H v d) (r2:Rep K H w e):Rep K H (.ref D) (.lst [d,e]):=by
 refine .lst (SqL.of h) rfl fun k x d' hx hd=>?_
 match k,hx,hd with
 | 0,hx,hd=>cases hx;cases hd;exact r1
 | 1,hx,hd=>cases hx;cases hd;exact r2
 | k + 2,hx,_=>simp at hx
theorem Rq (T:Tx K mg a):FnOk P w K mg base CX0 10 a.BU a.PV ["_law_script"] (FA K):=by
 have bM:=@q0 P w K mg base a T
 have xK:=@uk P w K mg base a T
 have C3:=@yY P w K mg base a T
 have Fq:=@A4 P w K mg base a T
 have di:=@ie P w K mg base a T
 have xJ:=@uj P w K mg base a T
 have Ap:=@wt P w K mg base a T
 have CZ:=@JU P w K mg base a T
 have oK:=@mQ P w K mg base a T
 refine T.Np.ok i9 (fun vs H Q E h=>?_) (fun cdv A outer s H vs Q E hr h=>?_)
 ·obtain ⟨p,ns,rfl,_⟩:=h;rfl
 ·obtain ⟨p0,ns,rfl,hS,hlen,q⟩:=h
  have hu1:=tS hr
  refine ⟨_,((ai (au (i:=1) i9.nd rfl (by walk_at "o") (aq xK (hr.mono (by decide)) (by rfl) T.xg T.w8 T.i0 .nil aF (aa (pv 0) (aa af (aa af ae)))))
   (ai (au (i:=2) i9.nd rfl (by walk_at "o") (DN T.Lz oK (hr.mono (by decide)) (by rfl) T.KL T.fh .nil aF (aa (aX (aw (K:=K) rfl) (pv 1) af (fun _ _=>rfl)) (aa (gm (jA (K:=K) rfl) (by rfl) T.j8 PyProof.Rows.boot_list (aa (aX (aw (K:=K) rfl) (pv 1) af (fun _ _=>rfl)) ae)) (aa (gm (jA (K:=K) rfl) (by rfl) T.j8 PyProof.Rows.boot_list (aa (aX (aw (K:=K) rfl) (pv 1) af (fun _ _=>rfl)) ae)) ae)))))
   (ai (au (i:=3) i9.nd rfl (by walk_at "o") (aq bM (hr.mono (by decide)) (by rfl) T.bW T.bU T.bz .nil aF (aa (pv 0) (aa af ae))))
   (ai (au (i:=4) i9.nd rfl (by walk_at "o") (aq Fq (hr.mono (by decide)) (by rfl) T.EC T.Ex T.nr .nil aF (aa (aq bM (hr.mono (by decide)) (by rfl) T.bW T.bU T.bz .nil aF (aa (pv 0) (aa af ae))) (aa (aX (gT (K:=K) rfl) (bK (aa (ar bZ (ar gD (pv 3) af) af) (aa (ar bZ (ar gD (pv 3) af) af) ae))) (ar bZ (ar gD (pv 3) af) af) (fun _ _=>rfl)) (aa (aX (aw (K:=K) rfl) (pv 1) af (fun _ _=>rfl)) ae)))))
   (ai (au (i:=5) i9.nd rfl (by walk_at "o") (aq di (hr.mono (by decide)) (by rfl) T.fV T.fT T.df .nil aF (aa (pv 1) (aa (ar bZ (aq bM (hr.mono (by decide)) (by rfl) T.bW T.bU T.bz .nil aF (aa (pv 0) (aa af ae))) (ar gq af (ax (aK (K:=K) rfl) (by rfl) T.eQ PySem.boot_len (aa (aX (aw (K:=K) rfl) (pv 1) af (fun _ _=>rfl)) ae)))) (aa (pv 4) ae)))))
   (fL (au (i:=6) i9.nd rfl (by walk_at "o") (j3 (dw jh (ar bZ (pv 3) af) af (aL _)) (j3 (dw (mP (K:=K) rfl hu1) (pv 4) (bK ae) (aL _)) (nN (dw (mP (K:=K) rfl hu1) (aX (aw (K:=K) rfl) (pv 1) af (fun _ _=>rfl)) (bK ae) (aL _))))))
   (fL (cJ (cI (pv 6)) (aj (au (i:=5) i9.nd rfl (by walk_at "o") (aq Ap (hr.mono (by decide)) (by rfl) T.zG T.zA T.jQ .nil aF (aa (pv 5) (aa (ar gD (pv 3) af) (aa (ax (aK (K:=K) rfl) (by rfl) T.eQ PySem.boot_len (aa (aX (aw (K:=K) rfl) (pv 1) af (fun _ _=>rfl)) ae)) ae)))))) aQ)
   (ai (au (i:=7) i9.nd rfl (by walk_at "o") (bK (aa (gm (jA (K:=K) rfl) (by rfl) T.j8 PyProof.Rows.boot_list (aa (pv 4) ae)) (aa (gm (jA (K:=K) rfl) (by rfl) T.j8 PyProof.Rows.boot_list (aa (pv 5) ae)) ae))))
   (ai (au (i:=8) i9.nd rfl (by walk_at "o") (lO CZ (hr.mono (by decide)) (by rfl) T.FZ T.FV T.yr .nil thr0 (aa (pv 2) (aa (aX (gT (K:=K) rfl) (pv 7) af (fun _ _=>rfl)) (aa (aX (gT (K:=K) rfl) (pv 7) af (fun _ _=>rfl)) ae)))))
   (fL (cJ (PW.pt (mK (aP (mP (K:=K) rfl hu1) (pv 7) (bK (aa (pv 4) (aa (pv 5) ae))) (aL _)) (jf (dj (cI (aq C3 (hr.mono (by decide)) (by rfl) T.BM T.BG T.lE .nil aF (aa (pv 8) (aa (pv 1) (aa (pv 4) (aa (pv 5) ae)))))))))) (aj (aI md)) aQ)
   (fL (cJ (PW.pt (FK (dj (cI (pv 6))) (yI (aP DP (aX (aw (K:=K) rfl) (pv 8) af (fun _ _=>rfl)) fq (aL _))))) (aj (aI md)) aQ)
   (ai (au (i:=9) i9.nd rfl (by walk_at "o") (lO CZ (hr.mono (by decide)) (by rfl) T.FZ T.FV T.yr .nil thr0 (aa (pv 2) (aa (pv 4) (aa (pv 5) ae)))))
   (fL (cJ (aP (mP (K:=K) rfl hu1) (pv 9) (pv 8) (aL _)) (aj (aI md)) aQ)
   (ai (dU (kI (K:=K) rfl PySem.F.plainAttrs_list PySem.F.slot_list_clear PySem.F.type_list_clear MJ (aX (aw (K:=K) rfl) (pv 8) (Rh Nq af) (fun _ _=>rfl))))
   (ai (cJ (aP (mP (K:=K) rfl hu1) (lO CZ (hr.mono (by decide)) (by rfl) T.FZ T.FV T.yr .nil thr0 (aa (pv 2) (aa (pv 4) (aa (pv 5) ae)))) (pv 9) (aL _)) (aj (aI md)) aQ)
   (ai (au (i:=10) i9.nd rfl (by walk_at "o") (bK (aa (eP (aa NN (aa (pv 5) ae))) (aa (eP (aa (ar mx (pv 4) (bK (aa (ar gq af (aX (aw (K:=K) rfl) (pv 1) af (fun _ _=>rfl))) ae))) (aa (ar mx (pv 5) (bK (aa af ae))) ae))) (aa (eP (aa (ar JQ (bK (aa af ae)) af) (aa (ar JQ (bK (aa af ae)) af) ae))) (aa (eP (aa (pv 4) (aa (ar mx (pv 5) (bK (aa af ae))) ae))) ae))))))
   (ai (au (i:=10) i9.nd rfl (by walk_at "o") (ar mx (pv 10) (bK (aa (eP (aa (ar mx (pv 4) (bK (aa af ae))) (aa (ar mx (pv 5) (bK (aa (Rh Nq af) ae))) ae))) (aa (eP (aa (ar mx (pv 4) (bK (aa md ae))) (aa (ar mx (pv 5) (bK (aa af ae))) ae))) (aa (eP (aa (pv 4) (aa (gm (nk (K:=K) rfl) (by rfl) T.pW PyProof.Rows.boot_tuple (aa (pv 5) ae)) ae))) (aa (eP (aa (bK (aa af ae)) (aa (bK (aa NN ae)) ae))) ae)))))))
   (aj (aI (dw (DQ (K:=K) rfl hu1) (hG (osc:=ah Dy) (ON:=["_law_script","_law_tables","_law_machine_here","_law_cell_here","_law_rows_here","_law_answers_here","_law_spoilt_here","_law_handed","_law_found","_law_again","_law_bad"]) (N:=["_law_pair","_law_machine_here"]) (n:=1) (fx:=[2]) rfl rfl rfl (by decide +kernel) (bJ (K:=K) rfl (pv 10)) (cL (by decide)) (fun _ _ _ _ _=>⟨(aG (i:=0) (show List.Nodup (["_law_pair","_law_machine_here"]:List Str) from by decide +kernel) rfl (by walk_at "o")),(yJ (dj (cI (aq xJ (hr.mono (by decide)) (by rfl) T.xc T.w6 T.iZ .nil aF (aa (pv 1) (aa (aX (aw (K:=K) rfl) (pv 0) af (fun _ _=>rfl)) (aa (aX (aw (K:=K) rfl) (pv 0) af (fun _ _=>rfl)) ae))))))),(pv 0)⟩)) (bK ae) (aL _)))))))))))))))))))))),aE (σ':=[some _,none,none,none,none,none,none,none,none,none,none]) rfl ?_⟩
  walk_at "l2"
  refine ⟨p0,ns,0,6,rfl,hS,by decide,by decide,fun t n o H1 m nx os s1 fn fo tt hl=>?_⟩
  have hS1:=Same.seq s1 hS
  have e0:=tt.t
  have en:=tt.tab.n
  have eo:=tt.tab.o
  have m6:=tt.tab.m6
  walk_at "l2"
  intro Dn H2 f2 s2 e2
  have eo2:=s2.get eo
  have e02:=s2.get e0
  walk_at "l2"
  intro Do H3 f3 s3 e3
  walk_at "l2"
  intro x dx H4 f4 s4 e4
  have s24:=s3.trans s4
  have s14:=s2.trans s24
  refine ⟨x,dx,Dn,Do,m,nx,os,rfl,e4,⟨m6,s24.get e2,s4.get e3,tt.tab.pn.same s14,tt.tab.po.same s14,tt.tab.ln,tt.tab.lo,tt.tab.bn⟩,fun H5 k ma=>⟨rfl,?_⟩⟩
  have s15:Same H1 H5:=fun b ob e=>k b ob (av (s3.get (s2.get e)) f4) (s14.get e)
  have tt5:=tt.same s15
  have hS5:=Same.seq s15 hS1
  have e05:=tt5.t
  have en5:=tt5.tab.n
  have g:=tt5.tab.g
  clear k s15 s14 s24 e4 s4 f4 e3 s3 f3 e02 eo2 e2 s2 f2 eo en e0 tt hS1 s1 fn fo
  walk_at "l2"
  generalize hc:cell ns 5=c
  intro D6 H6 f6 s6 e6
  have hS6:=Same.seq s6 hS5
  have key:∃ T':Nat,T'≤40∧atI [V.int (c / 8 % 12),V.int (c / 8 % 41)] (c / 4 % 2)=some (nat T'):=by
   obtain ⟨t1,h1,l1⟩:=iF (c:=c / 8) (m:=12) (by decide)
   obtain ⟨t2,h2,l2⟩:=iF (c:=c / 8) (m:=41) (by decide)
   rcases Int.emod_two_eq (c / 4) with h | h<;>rw [h]
   ·exact ⟨t1,by omega,by rw [h1];rfl⟩
   ·exact ⟨t2,by omega,by rw [h2];rfl⟩
  obtain ⟨T',hT,hat⟩:=key
  generalize [V.int (c / 8 % 12),V.int (c / 8 % 41)]=both at hat e6
  have tt6:=tt5.same s6
  have ma6:=ma.same s6
  have e06:=tt6.t
  have en6:=tt6.tab.n
  have eo6:=tt6.tab.o
  have hp0:=Nat.two_pow_pos nx.length
  clear s6 tt5 ma hS5 e05 en5
  walk_at "l2"
  refine ⟨_,T',m,rfl,by omega,by omega,fun Dr H7 rs f7 s7 e7 l7 b7=>?_⟩
  have hS7:=Same.seq s7 hS6
  have tt7:=tt6.same s7
  have ma7:=ma6.same s7
  have e07:=tt7.t
  have en7:=tt7.tab.n
  clear hat e6 s7 f7 f6 tt6 ma6 hS6 e06 en6 eo6
  walk_at "l2"
  rw [dJ]
  walk_at "l2"
  rw [shl1]
  walk_at "l2"
  obtain ⟨a0,ea,la⟩:=iF (c:=cell ns 7) (m:=((2 ^ nx.length:Nat):Int)) (by omega)
  rw [ea]
  have ha0:a0 < 2 ^ nx.length:=by omega
  clear ea la
  refine ⟨t,n,o,Dr,m,nx,os,rs,a0,rfl,tt7,SqL.of e7,by omega,ha0,b7,fun Da H8 f8 s8 e8=>?_⟩
  have hS8:=Same.seq s8 hS7
  have tt8:=tt7.same s8
  have ma8:=ma7.same s8
  have e08:=tt8.t
  have eo8:=tt8.tab.o
  have er8:=s8.get e7
  clear hS7 tt7 ma7 e07 en7 e7 s8 f8
  have hwl:∀ y∈M.wan (prs nx) (prs os) a0 rs,y < 2 ^ os.length:=fun y hy=>by have:=M.wan_lt _ _ _ _ y hy;rwa [aW] at this
  have lo6:=tt8.tab.lo
  have nilR:∀ {H':Hp} {D:Addr},H' D=some (.lst [])→Rep K H' (.ref D) (.lst []):=fun e=> .lst (SqL.of e) rfl (fun i x y h=>by simp at h)
  walk_at "l2"
  refine pf (fun σ Hx=>∃ sp:Bool,σ=[some (.ref p0),some (.ref t),some (.ref x),some (.int c),some (.ref Dr),some (.ref Da),some (.bl sp),none,none,none,none]∧Same H8 Hx∧(sp=true→rs≠[]∧os≠[])) ?_ ?_
  ·walk_at "l2"
   refine iteB (fun hc=>?_) (fun hc=>?_)
   ·walk_at "l2"
    intro D9 H9 f9 s9 e9
    refine tR (dZ (s9.get er8)) (nilR e9) (by have:=iG rs;simp only [depD];omega) ?_
    have e09:=s9.get e08
    have eo9:=s9.get eo8
    by_cases hrs:rs=[]
    ·subst hrs
     walk_at "l2"
     exact ⟨s9,fun h=>by cases h⟩
    ·have:(!eqD (.lst (rs.map natD)) (.lst []))=true:=by cases rs with | nil=>exact absurd rfl hrs | cons _ _=>rfl
     rw [if_pos rfl,this]
     walk_at "l2"
     intro D10 H10 f10 s10 e10
     refine tR (nK (s10.get eo9) ((tt8.tab.po.same s9).same s10)) (nilR e10) (by have:=BV os;simp only [depD];omega) ?_
     walk_at "l2"
     exact ⟨s9.trans s10,fun h=>⟨hrs,fun z=>by subst z;cases h⟩⟩
   ·walk_at "l2"
    exact ⟨Same.refl _,fun h=>by cases h⟩
  rintro σ H9 ⟨sp,rfl,s9,hsp⟩
  have er9:=s9.get er8
  have e89:=s9.get e8
  have tt9:=tt8.same s9
  have ma9:=ma8.same s9
  have e09:=tt9.t
  have eo9:=tt9.tab.o
  have en9:=tt9.tab.n
  clear s9 er8 e8 tt8 ma8 e08 eo8 hS8
  walk_at "l2"
  refine pf (fun σ Hx=>∃ (Db:Addr) (an:List Nat),σ=[some (.ref p0),some (.ref t),some (.ref x),some (.int c),some (.ref Dr),some (.ref Db),some (.bl sp),none,none,none,none]∧Same H9 Hx∧Hx Db=some (.lst (an.map nat))∧an.length=rs.length∧(∀ y∈an,y < 2 ^ os.length)∧(sp=false→an=M.wan (prs nx) (prs os) a0 rs)) ?_ ?_
  ·cases sp with
   | false=>
     walk_at "l2"
     exact ⟨Da,_,rfl,Same.refl _,e89,M.wan_len _ _ _ _,hwl,fun _=>rfl⟩
   | true=>
     obtain ⟨hr1,ho1⟩:=hsp rfl
     walk_at "l2"
     rw [dJ]
     refine ⟨Da,_,_,os.length,rfl,e89,fun z=>hr1 (by have:=congrArg List.length z;rw [M.wan_len] at this;exact List.length_eq_zero_iff.mp this),by rw [M.wan_len];omega,List.length_pos_iff.mpr ho1,by omega,hwl,fun Db H10 bn f10 s10 e10 l10 b10=>?_⟩
     rw [M.wan_len] at l10
     walk_at "l2"
     exact ⟨Db,bn,rfl,s10,e10,l10,b10,fun h=>by cases h⟩
  rintro σ H10 ⟨Db,an,rfl,s10,ea10,lan,ban,han⟩
  have er10:=s10.get er9
  have tt10:=tt9.same s10
  have ma10:=ma9.same s10
  clear s10 er9 tt9 ma9 e09 eo9 en9 e89 hsp
  walk_at "l2"
  intro D11 H11 f11 s11 e11
  have ea11:=s11.get ea10
  walk_at "l2"
  intro D12 H12 f12 s12 e12
  walk_at "l2"
  intro D13 H13 f13 s13 e13
  have s1013:=s11.trans (s12.trans s13)
  have e1113:=(s12.trans s13).get e11
  have e1213:=s13.get e12
  have lr:rs.length≤40:=by omega
  have l60:nx.length≤60:=by omega
  have ma13:=ma10.same s1013
  walk_at "l2"
  refine Cv ma13 g l60 e1113 e1213 lr b7 lan ban fun tf Df H14 f14 s14 ft=>?_
  have s1014:=s1013.trans s14
  have e1314:=s14.get e13
  have e1114:=s14.get e1113
  have e1214:=s14.get e1213
  have ea14:=s1014.get ea10
  have er14:=s1014.get er10
  have tt14:=tt10.same s1014
  have ma14:=ma13.same s14
  have fD:∀ b ob,H10 b=some ob→b≠Df:=fun b ob e=>av (s1013.get e) f14
  clear e1113 e1213 ma13 s14 e13 s13 e12 s12 f12 f13 e11 ea11 s11 f11 s1013
  have l5:L54 K H14 t n o Dr Db m nx os rs an:=⟨tt14,er14,ea14,lr,b7,lan,ban,hl⟩
  walk_at "l2"
  refine pf (fun σ Hx=>σ=[some (.ref p0),some (.ref t),some (.ref x),some (.int c),some (.ref Dr),some (.ref Db),some (.bl sp),some (.ref D13),some (.ref tf),none,none]∧Same H14 Hx) ?_ ?_
  ·walk_at "l2"
   intro D15 H15 f15 s15 e15
   refine tR (FD (s15.get e1314) (dZ (s15.get e1114)) (dZ (s15.get e1214))) (FD e15 (dZ (s15.get er14)) (dZ (s15.get ea14))) (by have h1:=iG rs;have h2:=iG an;simp only [depD,jM];omega) ?_
   rw [iE]
   walk_at "l2"
   refine ⟨tf,Df,t,n,o,Dr,Db,m,nx,os,rs,an,rfl,l5.same s15,ft.same s15,fun H16 s16=>?_⟩
   walk_at "l2"
   exact s15.trans s16
  rintro σ H15 ⟨rfl,s15⟩
  have ft15:=ft.same s15
  have l515:=l5.same s15
  have ma15:=ma14.same s15
  have s1015:=s1014.trans s15
  clear s15 ft l5 ma14 tt14 ea14 er14 e1214 e1114 e1314 s1014 f14
  have bal:∀ r∈M.adl (prs nx) (prs os) rs.length,r < 2 ^ 1000:=fun r hr=>by
   have:=M.adl_lt r hr
   rw [aW] at this
   have hmul:rs.length * os.length≤40 * 6:=Nat.mul_le_mul lr lo6
   exact cn this (by omega)
  walk_at "l2"
  refine pf (fun σ Hx=>H15=Hx∧σ=[some (.ref p0),some (.ref t),some (.ref x),some (.int c),some (.ref Dr),some (.ref Db),some (.bl sp),some (.ref D13),some (.ref tf),none,none]) ?_ ?_
  ·cases sp with
   | true=>
     walk_at "l2"
     rfl
   | false=>
     rcases ft15 with ⟨qq,nms,ef,_⟩ | ⟨mk,_,_,bd⟩
     ·walk_at "l2"
      rfl
     ·exfalso
      apply bd.ns
      rw [han rfl]
      have:=M.fit_span (ps:=prs nx) (os:=prs os) (rs:=rs) (x:=a0) (by rw [aW];exact ha0)
      rwa [aW] at this
  rintro σ Hx ⟨rfl,rfl⟩
  have er15:=l515.er
  have ea15:=l515.ea
  walk_at "l2"
  refine Cv ma15 g l60 er15 ea15 lr b7 lan ban fun ta Da2 H16 f16 s16 ft2=>?_
  have s1016:=s1015.trans s16
  have ft16:=ft15.same s16
  obtain ⟨⟨xsl,ext,eat⟩,ysl,eyl⟩:=F0 ft16
  have neD:Da2≠Df:=by
   obtain ⟨_,ys',ey'⟩:=F0 ft15
   exact (av ey' f16).symm
  walk_at "l2"
  refine pf (fun σ Hx=>H16=Hx∧σ=[some (.ref p0),some (.ref t),some (.ref x),some (.int c),some (.ref Dr),some (.ref Db),some (.bl sp),some (.ref D13),some (.ref tf),some (.ref ta),none]) ?_ ?_
  ·walk_at "l2"
   obtain ⟨d,r1,r2,hd⟩:=ft2.rep2 (K:=K) bal ft16
   refine tR r1 r2 hd ?_
   rw [iE]
   walk_at "l2"
   rfl
  rintro σ Hx ⟨rfl,rfl⟩
  clear ft15 l515 er15 ea15 ma15 s16 f16 s1015
  walk_at "l2"
  refine OS eyl fun H17 u17=>?_
  have s17:Same H10 H17:=fun b ob e=>u17.oth _ _ (fD b ob e) (s1016.get e)
  have ft17:=PL ft2 u17 eyl neD
  clear ft2 ft16 ext eat eyl neD u17 s1016 fD ysl xsl
  have ma17:=ma10.same s17
  have er17:=s17.get er10
  have ea17:=s17.get ea10
  walk_at "l2"
  refine Cv ma17 g l60 er17 ea17 lr b7 lan ban fun tb Db2 H18 f18 s18 ft3=>?_
  walk_at "l2"
  obtain ⟨d,r1,r2,hd⟩:=ft3.rep2 (K:=K) bal (ft17.same s18)
  refine tR r1 r2 hd ?_
  rw [iE]
  have s1018:=s17.trans s18
  clear ft3 ft17 r1 r2 hd d ma17 er17 ea17 s17 s18 f18
  have ma18:=ma10.same s1018
  have er18:=s1018.get er10
  have ea18:=s1018.get ea10
  have e018:=(tt10.same s1018).t
  clear ma10 er10 ea10 tt10 s1018 bal han
  have kr:∀ {H':Hp} {v:V} {k:String},(jl K H' v k)→dW K H' (rs.map nat++[v]):=fun h=>(dW.nats _ _ _).app (dW.one h)
  have kn:∀ {H':Hp} {v:V} {k:String},(jl K H' v k)→dW K H' (an.map nat++[v]):=fun h=>(dW.nats _ _ _).app (dW.one h)
  have lsn:∀ (l:List Nat) (v:V),l.length≤40→(l.map nat).length + [v].length≤sizeLine:=fun l v h=>by rw [List.length_map,sizeLine_eq,List.length_singleton];omega
  walk_at "l2"
  intro B1 G1 fB1 s1 b1
  have bd1:Bd54 K m os.length G1 B1:=⟨.non,.ref Db,none,some (an.map nat),b1,⟨"NoneType",rfl,by decide⟩,⟨Db,rfl,SqL.of (s1.get ea18),dW.nats _ _ _⟩,fun zs ez=>⟨Db,rfl,by cases ez;exact s1.get ea18⟩,rfl⟩
  have er:=s1.get er18
  have ea:=s1.get ea18
  have e0:=s1.get e018
  have ma:=ma18.same s1
  clear b1 fB1 er18 ea18 e018 ma18 s1
  walk_at "l2"
  rw [shl1]
  intro L1 G2 f2 s2 l1
  walk_at "l2"
  refine we (s2.get er) l1 (lsn _ _ (by omega)) fun C1 G3 f3 s3 c1=>?_
  have s23:=s2.trans s3
  have ea3:=s23.get ea
  walk_at "l2"
  intro L2 G4 f4 s4 l2
  walk_at "l2"
  refine we (s4.get ea3) l2 (lsn _ _ (by omega)) fun C2 G5 f5 s5 c2=>?_
  walk_at "l2"
  intro B2 G6 f6 s6 b2
  have s16:=s23.trans (s4.trans (s5.trans s6))
  have bd2:Bd54 K m os.length G6 B2:=qH b2 (s6.get (s5.get (s4.get c1))) (s6.get c2) (kr (k:="int") rfl) (kn (k:="int") rfl) (.inl ⟨_,List.mem_append_right _ List.mem_cons_self,MK (Nat.le_refl _)⟩)
  replace bd1:=bd1.same s16
  replace er:=s16.get er
  replace ea:=s16.get ea
  replace e0:=s16.get e0
  replace ma:=ma.same s16
  clear b2 s16 s6 f6 c2 s5 f5 l2 s4 f4 ea3 s23 c1 s3 f3 l1 s2 f2
  have k41:∀ {H':Hp},dW K H' ((List.replicate 41 0).map nat):=fun {H'}=>dW.nats K H' _
  have r41:(List.replicate (41:Int).toNat [V.int 0]).flatten=(List.replicate 41 0).map nat:=by decide
  have l41:((List.replicate 41 0).map nat).length=41:=by decide
  walk_at "l2"
  intro L1 G7 f7 s7 l1
  walk_at "l2"
  refine OH l1 (by decide) (by decide) (by rw [sizeLine_eq];decide) fun C1 G8 f8 s8 c1=>?_
  rw [r41] at c1
  walk_at "l2"
  intro L2 G9 f9 s9 l2
  walk_at "l2"
  refine OH l2 (by decide) (by decide) (by rw [sizeLine_eq];decide) fun C2 G10 f10 s10 c2=>?_
  rw [r41] at c2
  clear r41
  walk_at "l2"
  intro B3 G11 f11 s11 b3
  have s16:=s7.trans (s8.trans (s9.trans (s10.trans s11)))
  have bd3:Bd54 K m os.length G11 B3:=qH b3 (s11.get (s10.get (s9.get c1))) (s11.get c2) k41 k41 (.inr (.inr (.inl (by rw [l41];decide))))
  replace bd1:=bd1.same s16
  replace bd2:=bd2.same s16
  replace er:=s16.get er
  replace ea:=s16.get ea
  replace e0:=s16.get e0
  replace ma:=ma.same s16
  clear b3 s16 s11 f11 c2 s10 f10 l2 s9 f9 c1 s8 f8 l1 s7 f7 k41 l41
  walk_at "l2"
  intro L1 G12 f12 s12 l1
  walk_at "l2"
  refine we (s12.get ea) l1 (lsn _ _ (by omega)) fun C1 G13 f13 s13 c1=>?_
  walk_at "l2"
  intro B4 G14 f14 s14 b4
  have s16:=s12.trans (s13.trans s14)
  replace bd1:=bd1.same s16
  replace bd2:=bd2.same s16
  replace bd3:=bd3.same s16
  replace er:=s16.get er
  replace ea:=s16.get ea
  replace e0:=s16.get e0
  replace ma:=ma.same s16
  have bd4:Bd54 K m os.length G14 B4:=qH b4 er (s14.get c1) (dW.nats _ _ _) (kn (k:="int") rfl) (.inr (.inr (.inr (by rw [List.length_append,List.length_map,List.length_map,List.length_singleton];omega))))
  clear b4 s16 s14 f14 c1 s13 f13 l1 s12 f12
  walk_at "l2"
  intro DB1 G15 f15 s15 db1
  replace bd1:=bd1.same s15
  replace bd2:=bd2.same s15
  replace bd3:=bd3.same s15
  replace bd4:=bd4.same s15
  replace er:=s15.get er
  replace ea:=s15.get ea
  replace e0:=s15.get e0
  replace ma:=ma.same s15
  clear s15 f15
  walk_at "l2"
  intro L1 G16 f16 s16 l1
  walk_at "l2"
  refine we (s16.get er) l1 (lsn _ _ (by omega)) fun C1 G17 f17 s17 c1=>?_
  have ea3:=s17.get (s16.get ea)
  walk_at "l2"
  intro L2 G18 f18 s18 l2
  walk_at "l2"
  refine we (s18.get ea3) l2 (lsn _ _ (by omega)) fun C2 G19 f19 s19 c2=>?_
  walk_at "l2"
  intro B5 G20 f20 s20 b5
  have ss:=s16.trans (s17.trans (s18.trans (s19.trans s20)))
  have bd5:Bd54 K m os.length G20 B5:=qH b5 (s20.get (s19.get (s18.get c1))) (s20.get c2) (kr (k:="int") rfl) (kn (k:="int") rfl) (.inr (.inl ⟨_,List.mem_append_right _ List.mem_cons_self,Kd (by decide)⟩))
  replace db1:=ss.get db1
  replace bd1:=bd1.same ss
  replace bd2:=bd2.same ss
  replace bd3:=bd3.same ss
  replace bd4:=bd4.same ss
  replace er:=ss.get er
  replace ea:=ss.get ea
  replace e0:=ss.get e0
  replace ma:=ma.same ss
  clear b5 ss s20 f20 c2 s19 f19 l2 s18 f18 ea3 c1 s17 f17 l1 s16 f16
  walk_at "l2"
  intro L1 G21 f21 s21 l1
  walk_at "l2"
  refine we (s21.get er) l1 (lsn _ _ (by omega)) fun C1 G22 f22 s22 c1=>?_
  have ea3:=s22.get (s21.get ea)
  walk_at "l2"
  intro L2 G23 f23 s23 l2
  walk_at "l2"
  refine we (s23.get ea3) l2 (lsn _ _ (by omega)) fun C2 G24 f24 s24 c2=>?_
  walk_at "l2"
  intro B6 G25 f25 s25 b6
  have ss:=s21.trans (s22.trans (s23.trans (s24.trans s25)))
  have bd6:Bd54 K m os.length G25 B6:=qH b6 (s25.get (s24.get (s23.get c1))) (s25.get c2) (kr (k:="bool") rfl) (kn (k:="int") rfl) (.inl ⟨.bl true,List.mem_append_right _ List.mem_cons_self,rfl⟩)
  replace db1:=ss.get db1
  replace bd1:=bd1.same ss
  replace bd2:=bd2.same ss
  replace bd3:=bd3.same ss
  replace bd4:=bd4.same ss
  replace bd5:=bd5.same ss
  replace er:=ss.get er
  replace ea:=ss.get ea
  replace e0:=ss.get e0
  replace ma:=ma.same ss
  clear b6 ss s25 f25 c2 s24 f24 l2 s23 f23 ea3 c1 s22 f22 l1 s21 f21
  walk_at "l2"
  intro T7 G26 f26 s26 t7
  walk_at "l2"
  intro B7 G27 f27 s27 b7'
  have ss:=s26.trans s27
  replace db1:=ss.get db1
  replace bd1:=bd1.same ss
  replace bd2:=bd2.same ss
  replace bd3:=bd3.same ss
  replace bd4:=bd4.same ss
  replace bd5:=bd5.same ss
  replace bd6:=bd6.same ss
  replace er:=ss.get er
  replace ea:=ss.get ea
  replace e0:=ss.get e0
  replace ma:=ma.same ss
  have bd7:Bd54 K m os.length G27 B7:=⟨.ref Dr,.ref T7,some (rs.map nat),none,b7',⟨Dr,rfl,SqL.of er,dW.nats _ _ _⟩,⟨"tuple",.inr (.inl ⟨rfl,_,SqT.of (s27.get t7)⟩),by decide⟩,fun zs ez=>by (cases ez),by rw [show ph os.length 40 none=false from rfl,Bool.and_false];rfl⟩
  clear b7' ss s27 f27 t7 s26 f26
  walk_at "l2"
  intro L1 G28 f28 s28 l1
  walk_at "l2"
  intro L2 G29 f29 s29 l2
  walk_at "l2"
  intro B8 G30 f30 s30 b8
  have ss:=s28.trans (s29.trans s30)
  have bd8:Bd54 K m os.length G30 B8:=qH b8 (s30.get (s29.get l1)) (s30.get l2) (dW.one (k:="int") rfl) (dW.one (k:="NoneType") rfl) (.inr (.inl ⟨.non,List.mem_cons_self,rfl⟩))
  replace db1:=ss.get db1
  replace bd1:=bd1.same ss
  replace bd2:=bd2.same ss
  replace bd3:=bd3.same ss
  replace bd4:=bd4.same ss
  replace bd5:=bd5.same ss
  replace bd6:=bd6.same ss
  replace bd7:=bd7.same ss
  replace er:=ss.get er
  replace ea:=ss.get ea
  replace e0:=ss.get e0
  replace ma:=ma.same ss
  clear b8 ss s30 f30 l2 s29 f29 l1 s28 f28 e0 er ea kr kn lsn
  walk_at "l2"
  intro DB2 G31 f31 s31 db2
  walk_at "l2"
  refine we (s31.get db1) db2 (by rw [sizeLine_eq];show 4 + 4≤_;decide) fun DB G32 f32 s32 db=>?_
  have ss:=s31.trans s32
  have bds:∀ y∈[B1,B2,B3,B4,B5,B6,B7,B8],Bd54 K m os.length G32 y:=fun y hy=>by
   simp only [List.mem_cons,List.not_mem_nil,or_false] at hy
   rcases hy with rfl | rfl | rfl | rfl | rfl | rfl | rfl | rfl
   ·exact bd1.same ss
   ·exact bd2.same ss
   ·exact bd3.same ss
   ·exact bd4.same ss
   ·exact bd5.same ss
   ·exact bd6.same ss
   ·exact bd7.same ss
   ·exact bd8.same ss
  replace ma:=ma.same ss
  have db:G32 DB=some (.lst ([B1,B2,B3,B4,B5,B6,B7,B8].map V.ref)):=db
  clear bd1 bd2 bd3 bd4 bd5 bd6 bd7 bd8 ss s32 s31 f32 f31 db1 db2
  generalize [B1,B2,B3,B4,B5,B6,B7,B8]=bs at bds db
  walk_at "l2"
  intro DD hDD
  refine cZ (xs:=bs.map V.ref) (fun i ys H'=>Cs (fun i ys=>ys=[]) G32 DD i ys H') (Cs.zero hDD rfl) (fun i ys H' _ cc=>SqL.of (cc.same.get db)) (fun i v ys H' hv cc=>?_) (fun ys H' cc=>?_)
  ·obtain ⟨b,hb,rfl⟩:=bH hv
   obtain ⟨y,z,o1,o2,h1,h2,h3,h4,h5⟩:=(bds b (List.mem_of_getElem? hb)).same cc.same
   walk_at "l2"
   refine ⟨x,m,nx,os,y,z,o1,o2,rfl,ma.same cc.same,g,l60,h2,h3,h4,h5,fun H2 s2=>?_⟩
   walk_at "l2"
   exact Cs.skip (cc.same.trans s2) (s2.get cc.at') cc.len cc.pv
  ·have ec:=cc.at'
   rw [cc.pv] at ec
   walk_at "l2"
   intro DE H2 f2 s2 e2
   refine tR (nilR (s2.get ec)) (nilR e2) (by decide) ?_
   rw [iE]
   exact q _
end
open PySem.W in
theorem all_mk {l:OpenLaw} {w:World} {K:Frag} {h:Heap} {mg:Str→Option Value} {fa:Addr} (X:K.In h) (G:h.Ns mainGlobals mg) (hfa:mg "law"=some (.ref fa))
  {DV Fc:Option Addr} {Dp:Array (Option Value)} {D0 Er EI DG vG EO:Value} {cN:Addr}
  {GZ Ih:Option Addr} {GB:Array (Option Value)} {Hd Hs HI GN yo HN:Value} {dB:Addr}
  {Pg P6:Option Addr} {OD:Array (Option Value)} {Pj Pu PU O5 Ld PY:Value} {oi:Addr}
  {G0 Ii:Option Addr} {GC:Array (Option Value)} {He Ht HJ GO yp HP:Value} {fc:Addr}
  {GX Ie:Option Addr} {Gz:Array (Option Value)} {Hb Hq HG GL ym HL:Value} {eX:Addr}
  {JX Ln:Option Addr} {Js:Array (Option Value)} {JZ Kn K1 JJ Cm K9:Value} {gU:Addr}
  {pM qM:Option Addr} {o4:Array (Option Value)} {pR qd qj pB jx qx:Value} {aR:Addr}
  {rQ sL:Option Addr} {rL:Array (Option Value)} {rS sk sA rN ke sD:Value} {aZ:Addr}
  {Be CQ:Option Addr} {AG:Array (Option Value)} {Bl BD Ca AS rF Ci:Value} {bX:Addr}
  {rR sM:Option Addr} {rM:Array (Option Value)} {rT so sC rO kg sE:Value} {a7:Addr}
  {GW Ic:Option Addr} {Gy:Array (Option Value)} {Ha Ho HF GK yl HK:Value} {eW:Addr}
  {A8 CK:Option Addr} {AA:Array (Option Value)} {Bf Bx BW AL rq Cb:Value} {cP:Addr}
  {y1 Ab:Option Addr} {yA:Array (Option Value)} {y8 zr zN yM oz zU:Value} {cv:Addr}
  {DU Fb:Option Addr} {Dm:Array (Option Value)} {DZ Ep EH DF vF EN:Value} {dN:Addr}
  {Pf P5:Option Addr} {OC:Array (Option Value)} {Pi Pt PR O4 Lc PX:Value} {oh:Addr}
  {GY Ig:Option Addr} {GA:Array (Option Value)} {Hc Hr HH GM yn HM:Value} {eZ:Addr}
  {wx xx:Option Addr} {v8:Array (Option Value)} {wB wW xi wg mB xl:Value} {bN:Addr}
  {JY Lo:Option Addr} {Jt:Array (Option Value)} {J0 Ko K3 JK Cn La:Value} {gW:Addr}
  {yZ Aa:Option Addr} {yz:Array (Option Value)} {y6 zq zM yL oy zT:Value} {cu:Addr}
  {mR nv:Option Addr} {mG:Array (Option Value)} {mS mW mY mL iu nj:Value} {aH:Addr}
  {pO qO:Option Addr} {o6:Array (Option Value)} {pU qf ql pD jz qz:Value} {aU:Addr}
  {nT oG:Option Addr} {nG:Array (Option Value)} {nU n8 oj nM iH oq:Value} {aM:Addr}
  {km kD:Option Addr} {ki:Array (Option Value)} {ko kA kB kl fw kC:Value} {aB:Addr}
  {uy vU:Option Addr} {tK:Array (Option Value)} {uF uW vq tZ lg vE:Value} {be:Addr}
  {pN qN:Option Addr} {o5:Array (Option Value)} {pS qe qk pC jy qy:Value} {aT:Addr}
  {oH:Addr} {v7:Value} {v5:Option Addr} {v3:Nat} {vZ:Array (Option Value)} {mz:Tok}
  {wA xA:Option Addr} {wa:Array (Option Value)} {wD wZ xk wk mD xo:Value} {bq:Addr}
  {Bb CN:Option Addr} {AD:Array (Option Value)} {Bi BA BZ AO rB Ce:Value} {cS:Addr}
  {DX Fe:Option Addr} {Ds:Array (Option Value)} {Eb Et EK DI vI ES:Value} {dP:Addr}
  {y4 Af:Option Addr} {yD:Array (Option Value)} {zb zw zQ yP oC zX:Value} {cy:Addr}
  {uq vO:Option Addr} {tE:Array (Option Value)} {uz uQ vj tT kX vy:Value} {bB:Addr}
  {uu vQ:Option Addr} {tG:Array (Option Value)} {uB uS vm tV k6 vA:Value} {bD:Addr}
  {A9 CL:Option Addr} {AB:Array (Option Value)} {Bg By BX AM rz Cc:Value} {cQ:Addr}
  {DW Fd:Option Addr} {Dq:Array (Option Value)} {Ea Es EJ DH vH ER:Value} {dO:Addr}
  {Bc CO:Option Addr} {AE:Array (Option Value)} {Bj BB B0 AQ rC Cf:Value} {cT:Addr}
  {Bd CP:Option Addr} {AF:Array (Option Value)} {Bk BC B9 AR rE Cg:Value} {cU:Addr}
  {uv vR:Option Addr} {tH:Array (Option Value)} {uC uT vn tW k7 vB:Value} {bE:Addr}
  {uw vS:Option Addr} {tI:Array (Option Value)} {uD uU vo tX k8 vC:Value} {bF:Addr}
  {ux vT:Option Addr} {tJ:Array (Option Value)} {uE uV vp tY k9 vD:Value} {bG:Addr}
  {pK qK:Option Addr} {oY:Array (Option Value)} {pP qb qh pz jv qv:Value} {bf:Addr}
  {Ba CM:Option Addr} {AC:Array (Option Value)} {Bh Bz BY AN rA Cd:Value} {cR:Addr}
  {pL qL:Option Addr} {oZ:Array (Option Value)} {pQ qc qi pA jw qw:Value} {bg:Addr}
  {DY Ff:Option Addr} {Du:Array (Option Value)} {Ec Eu EL DJ vJ ET:Value} {dQ:Addr}
  {y2 Ac:Option Addr} {yB:Array (Option Value)} {y9 zu zO yN oA zV:Value} {cw:Addr}
  {y3 Ae:Option Addr} {yC:Array (Option Value)} {za zv zP yO oB zW:Value} {cx:Addr}
  {ur vP:Option Addr} {tF:Array (Option Value)} {uA uR vk tU kZ vz:Value} {bC:Addr}
  {wz xy:Option Addr} {v9:Array (Option Value)} {wC wX xj wj mC xn:Value} {bO:Addr}
  {Rr R6:Option Addr} {QA:Array (Option Value)} {Rt RE RV Rc N6 RX:Value} {BU:Addr}
  {aJ:Addr} (P9:nsIn K mainGlobals "Steps"=some (some (.ref aJ)))
  {ao:Addr} (Lv:nsIn K mainGlobals "Machine"=some (some (.ref ao)))
  (Il:nsIn K mainGlobals "is_whole"=some (some (.ref cN)))
  (Hk:K.lookup cN=some ⟨D0,DV,.func (fnOf "is_whole" "is_whole" (aA g0) (ay g0) (ah g0) .none Er EI DG Fc vG EO),Dp⟩)
  (HX:codeIn K vG "is_whole"=true)
  (x5:keepIn K (.ref cN)=true)
  (Ls:nsIn K mainGlobals "is_mask"=some (some (.ref dB)))
  (Kl:K.lookup dB=some ⟨Hd,GZ,.func (fnOf "is_mask" "is_mask" (aA je) (ay je) (ah je) .none Hs HI GN Ih yo HN),GB⟩)
  (Li:codeIn K yo "is_mask"=true)
  (AZ:keepIn K (.ref dB)=true)
  (Se:nsIn K mainGlobals "even"=some (some (.ref oi)))
  (RD:K.lookup oi=some ⟨Pj,Pg,.func (fnOf "even" "even" (aA xS) (ay xS) (ah xS) .none Pu PU O5 P6 Ld PY),OD⟩)
  (R1:codeIn K Ld "even"=true)
  (NS:keepIn K (.ref oi)=true)
  (Lu:nsIn K mainGlobals "bits_of"=some (some (.ref fc)))
  (Km:K.lookup fc=some ⟨He,G0,.func (fnOf "bits_of" "bits_of" (aA g8) (ay g8) (ah g8) .none Ht HJ GO Ii yp HP),GC⟩)
  (Lj:codeIn K yp "bits_of"=true)
  (A1:keepIn K (.ref fc)=true)
  (Lq:nsIn K mainGlobals "mask_of"=some (some (.ref eX)))
  (Kj:K.lookup eX=some ⟨Hb,GX,.func (fnOf "mask_of" "mask_of" (aA jc) (ay jc) (ah jc) .none Hq HG GL Ie ym HL),Gz⟩)
  (Lg:codeIn K ym "mask_of"=true)
  (AX:keepIn K (.ref eX)=true)
  (Nj:nsIn K mainGlobals "packed"=some (some (.ref gU)))
  (MO:K.lookup gU=some ⟨JZ,JX,.func (fnOf "packed" "packed" (aA lJ) (ay lJ) (ah lJ) .none Kn K1 JJ Ln Cm K9),Js⟩)
  (Nh:codeIn K Cm "packed"=true)
  (FN:keepIn K (.ref gU)=true)
  (IA:findIn K (.ref aJ) "__init__"=some (some (.ref aR)))
  (sh:K.lookup aR=some ⟨pR,pM,.func (fnOf "__init__" "Steps.__init__" (aA cf) (ay cf) (ah cf) .none qd qj pB qM jx qx),o4⟩)
  (sH:codeIn K jx "Steps.__init__"=true)
  (j6:keepIn K (.ref aR)=true)
  (IR:findIn K (.ref aJ) "lowered"=some (some (.ref aZ)))
  (uO:K.lookup aZ=some ⟨rS,rQ,.func (fnOf "lowered" "Steps.lowered" (aA cG) (ay cG) (ah cG) .none sk sA rN sL ke sD),rL⟩)
  (vK:codeIn K ke "Steps.lowered"=true)
  (hU:keepIn K (.ref aZ)=true)
  (Oj:findIn K (.ref aJ) "lay"=some (some (.ref bX)))
  (Eo:K.lookup bX=some ⟨Bl,Be,.func (fnOf "lay" "Steps.lay" (aA fJ) (ay fJ) (ah fJ) .none BD Ca AS CQ rF Ci),AG⟩)
  (E3:codeIn K rF "Steps.lay"=true)
  (mO:keepIn K (.ref bX)=true)
  (IS:findIn K (.ref aJ) "barring"=some (some (.ref a7)))
  (uP:K.lookup a7=some ⟨rT,rR,.func (fnOf "barring" "Steps.barring" (aA cH) (ay cH) (ah cH) .none so sC rO sM kg sE),rM⟩)
  (vL:codeIn K kg "Steps.barring"=true)
  (hV:keepIn K (.ref a7)=true)
  (Lp:nsIn K mainGlobals "sum_for"=some (some (.ref eW)))
  (Ki:K.lookup eW=some ⟨Ha,GW,.func (fnOf "sum_for" "sum_for" (aA ja) (ay ja) (ah ja) .none Ho HF GK Ic yl HK),Gy⟩)
  (Lf:codeIn K yl "sum_for"=true)
  (AW:keepIn K (.ref eW)=true)
  (Fg:nsIn K mainGlobals "null_sums"=some (some (.ref cP)))
  (Eh:K.lookup cP=some ⟨Bf,A8,.func (fnOf "null_sums" "null_sums" (aA d8) (ay d8) (ah d8) .none Bx BW AL CK rq Cb),AA⟩)
  (EV:codeIn K rq "null_sums"=true)
  (t5:keepIn K (.ref cP)=true)
  (CT:nsIn K mainGlobals "check_list"=some (some (.ref cv)))
  (Br:K.lookup cv=some ⟨y8,y1,.func (fnOf "check_list" "check_list" (aA du) (ay du) (ah du) .none zr zN yM Ab oz zU),yA⟩)
  (Cw:codeIn K oz "check_list"=true)
  (qW:keepIn K (.ref cv)=true)
  (Ik:nsIn K mainGlobals "looks_of"=some (some (.ref dN)))
  (Hj:K.lookup dN=some ⟨DZ,DU,.func (fnOf "looks_of" "looks_of" (aA fC) (ay fC) (ah fC) .none Ep EH DF Fb vF EN),Dm⟩)
  (HW:codeIn K vF "looks_of"=true)
  (xZ:keepIn K (.ref dN)=true)
  (Sd:nsIn K mainGlobals "fits"=some (some (.ref oh)))
  (RC:K.lookup oh=some ⟨Pi,Pf,.func (fnOf "fits" "fits" (aA qS) (ay qS) (ah qS) .none Pt PR O4 P5 Lc PX),OC⟩)
  (Cv:codeIn K Lc "fits"=true)
  (NR:keepIn K (.ref oh)=true)
  (Lr:nsIn K mainGlobals "is_pair"=some (some (.ref eZ)))
  (Kk:K.lookup eZ=some ⟨Hc,GY,.func (fnOf "is_pair" "is_pair" (aA jd) (ay jd) (ah jd) .none Hr HH GM Ig yn HM),GA⟩)
  (Lh:codeIn K yn "is_pair"=true)
  (AY:keepIn K (.ref eZ)=true)
  (Ah:nsIn K mainGlobals "check_table"=some (some (.ref bN)))
  (zj:K.lookup bN=some ⟨wB,wx,.func (fnOf "check_table" "check_table" (aA cO) (ay cO) (ah cO) .none wW xi wg xx mB xl),v8⟩)
  (zZ:codeIn K mB "check_table"=true)
  (nO:keepIn K (.ref bN)=true)
  (Nk:nsIn K mainGlobals "is_odd"=some (some (.ref gW)))
  (MP:K.lookup gW=some ⟨J0,JY,.func (fnOf "is_odd" "is_odd" (aA lL) (ay lL) (ah lL) .none Ko K3 JK Lo Cn La),Jt⟩)
  (Ni:codeIn K Cn "is_odd"=true)
  (FO:keepIn K (.ref gW)=true)
  (CS:nsIn K mainGlobals "odd_places"=some (some (.ref cu)))
  (Bq:K.lookup cu=some ⟨y6,yZ,.func (fnOf "odd_places" "odd_places" (aA dr) (ay dr) (ah dr) .none zq zM yL Aa oy zT),yz⟩)
  (Cu:codeIn K oy "odd_places"=true)
  (qV:keepIn K (.ref cu)=true)
  (Fu:findIn K (.ref ao) "__init__"=some (some (.ref aH)))
  (n0:K.lookup aH=some ⟨mS,mR,.func (fnOf "__init__" "Machine.__init__" (aA bI) (ay bI) (ah bI) .none mW mY mL nv iu nj),mG⟩)
  (oE:codeIn K iu "Machine.__init__"=true)
  (iB:keepIn K (.ref aH)=true)
  (IC:findIn K (.ref ao) "stores"=some (some (.ref aU)))
  (sj:K.lookup aU=some ⟨pU,pO,.func (fnOf "stores" "Machine.stores" (aA ck) (ay ck) (ah ck) .none qf ql pD qO jz qz),o6⟩)
  (sJ:codeIn K jz "Machine.stores"=true)
  (gC:keepIn K (.ref aU)=true)
  (Gi:findIn K (.ref ao) "outputs"=some (some (.ref aM)))
  (p9:K.lookup aM=some ⟨nU,nT,.func (fnOf "outputs" "Machine.outputs" (aA bQ) (ay bQ) (ah bQ) .none n8 oj nM oG iH oq),nG⟩)
  (qF:codeIn K iH "Machine.outputs"=true)
  (fM:keepIn K (.ref aM)=true)
  (Au:findIn K (.ref ao) "check_state"=some (some (.ref aB)))
  (kN:K.lookup aB=some ⟨ko,km,.func (fnOf "check_state" "Machine.check_state" (aA bh) (ay bh) (ah bh) .none kA kB kl kD fw kC),ki⟩)
  (lh:codeIn K fw "Machine.check_state"=true)
  (dy:keepIn K (.ref aB)=true)
  (LD:findIn K (.ref ao) "step"=some (some (.ref be)))
  (wV:K.lookup be=some ⟨uF,uy,.func (fnOf "step" "Machine.step" (aA c9) (ay c9) (ah c9) .none uW vq tZ vU lg vE),tK⟩)
  (xw:codeIn K lg "Machine.step"=true)
  (iP:keepIn K (.ref be)=true)
  (IB:findIn K (.ref ao) "walked"=some (some (.ref aT)))
  (si:K.lookup aT=some ⟨pS,pN,.func (fnOf "walked" "Machine.walked" (aA cj) (ay cj) (ah cj) .none qe qk pC qN jy qy),o5⟩)
  (sI:codeIn K jy "Machine.walked"=true)
  (gz:keepIn K (.ref aT)=true)
  (LK:findIn K (.ref ao) "run"=some (some (.ref bq)))
  (zo:K.lookup bq=some ⟨wD,wA,.func (fnOf "run" "Machine.run" (aA dI) (ay dI) (ah dI) (.ref oH) wZ xk wk xA mD xo),wa⟩)
  (wL:K.lookup oH=some ⟨v7,v5,.seq #[.int 0 mz] v3,vZ⟩)
  (z7:codeIn K mD "Machine.run"=true)
  (jI:keepIn K (.ref bq)=true)
  (Fj:nsIn K mainGlobals "_law_cell"=some (some (.ref cS)))
  (Ek:K.lookup cS=some ⟨Bi,Bb,.func (fnOf "_law_cell" "_law_cell" (aA fG) (ay fG) (ah fG) .none BA BZ AO CN rB Ce),AD⟩)
  (EZ:codeIn K rB "_law_cell"=true)
  (uc:keepIn K (.ref cS)=true)
  (Io:nsIn K mainGlobals "_law_mix"=some (some (.ref dP)))
  (Hm:K.lookup dP=some ⟨Eb,DX,.func (fnOf "_law_mix" "_law_mix" (aA g6) (ay g6) (ah g6) .none Et EK DI Fe vI ES),Ds⟩)
  (HZ:codeIn K vI "_law_mix"=true)
  (x8:keepIn K (.ref dP)=true)
  (CW:nsIn K mainGlobals "_law_masks"=some (some (.ref cy)))
  (Bw:K.lookup cy=some ⟨zb,y4,.func (fnOf "_law_masks" "_law_masks" (aA eE) (ay eE) (ah eE) .none zw zQ yP Af oC zX),yD⟩)
  (CA:codeIn K oC "_law_masks"=true)
  (qZ:keepIn K (.ref cy)=true)
  (xB:nsIn K mainGlobals "_law_thinned"=some (some (.ref bB)))
  (wM:K.lookup bB=some ⟨uz,uq,.func (fnOf "_law_thinned" "_law_thinned" (aA c5) (ay c5) (ah c5) .none uQ vj tT vO kX vy),tE⟩)
  (xp:codeIn K kX "_law_thinned"=true)
  (mj:keepIn K (.ref bB)=true)
  (xD:nsIn K mainGlobals "_law_machine"=some (some (.ref bD)))
  (wO:K.lookup bD=some ⟨uB,uu,.func (fnOf "_law_machine" "_law_machine" (aA bA) (ay bA) (ah bA) .none uS vm tV vQ k6 vA),tG⟩)
  (xr:codeIn K k6 "_law_machine"=true)
  (mm:keepIn K (.ref bD)=true)
  (Fh:nsIn K mainGlobals "_law_rows"=some (some (.ref cQ)))
  (Ei:K.lookup cQ=some ⟨Bg,A9,.func (fnOf "_law_rows" "_law_rows" (aA fE) (ay fE) (ah fE) .none By BX AM CL rz Cc),AB⟩)
  (EX:codeIn K rz "_law_rows"=true)
  (t6:keepIn K (.ref cQ)=true)
  (Im:nsIn K mainGlobals "_law_odd"=some (some (.ref dO)))
  (Hl:K.lookup dO=some ⟨Ea,DW,.func (fnOf "_law_odd" "_law_odd" (aA g5) (ay g5) (ah g5) .none Es EJ DH Fd vH ER),Dq⟩)
  (HY:codeIn K vH "_law_odd"=true)
  (x6:keepIn K (.ref dO)=true)
  (Fk:nsIn K mainGlobals "_law_bits"=some (some (.ref cT)))
  (El:K.lookup cT=some ⟨Bj,Bc,.func (fnOf "_law_bits" "_law_bits" (aA fH) (ay fH) (ah fH) .none BB B0 AQ CO rC Cf),AE⟩)
  (E1:codeIn K rC "_law_bits"=true)
  (ud:keepIn K (.ref cT)=true)
  (Fl:nsIn K mainGlobals "_law_back"=some (some (.ref cU)))
  (Em:K.lookup cU=some ⟨Bk,Bd,.func (fnOf "_law_back" "_law_back" (aA fI) (ay fI) (ah fI) .none BC B9 AR CP rE Cg),AF⟩)
  (E2:codeIn K rE "_law_back"=true)
  (ue:keepIn K (.ref cU)=true)
  (xE:nsIn K mainGlobals "_law_is_mask"=some (some (.ref bE)))
  (wQ:K.lookup bE=some ⟨uC,uv,.func (fnOf "_law_is_mask" "_law_is_mask" (aA c7) (ay c7) (ah c7) .none uT vn tW vR k7 vB),tH⟩)
  (xt:codeIn K k7 "_law_is_mask"=true)
  (mq:keepIn K (.ref bE)=true)
  (xF:nsIn K mainGlobals "_law_is_list"=some (some (.ref bF)))
  (wR:K.lookup bF=some ⟨uD,uw,.func (fnOf "_law_is_list" "_law_is_list" (aA cC) (ay cC) (ah cC) .none uU vo tX vS k8 vC),tI⟩)
  (xu:codeIn K k8 "_law_is_list"=true)
  (mr:keepIn K (.ref bF)=true)
  (xG:nsIn K mainGlobals "_law_answers"=some (some (.ref bG)))
  (wU:K.lookup bG=some ⟨uE,ux,.func (fnOf "_law_answers" "_law_answers" (aA c8) (ay c8) (ah c8) .none uV vp tY vT k9 vD),tJ⟩)
  (xv:codeIn K k9 "_law_answers"=true)
  (mw:keepIn K (.ref bG)=true)
  (sN:nsIn K mainGlobals "_law_look_mask"=some (some (.ref bf)))
  (sf:K.lookup bf=some ⟨pP,pK,.func (fnOf "_law_look_mask" "_law_look_mask" (aA cb) (ay cb) (ah cb) .none qb qh pz qK jv qv),oY⟩)
  (sF:codeIn K jv "_law_look_mask"=true)
  (j4:keepIn K (.ref bf)=true)
  (Fi:nsIn K mainGlobals "_law_rank"=some (some (.ref cR)))
  (Ej:K.lookup cR=some ⟨Bh,Ba,.func (fnOf "_law_rank" "_law_rank" (aA fF) (ay fF) (ah fF) .none Bz BY AN CM rA Cd),AC⟩)
  (EY:codeIn K rA "_law_rank"=true)
  (ub:keepIn K (.ref cR)=true)
  (sO:nsIn K mainGlobals "_law_all_masks"=some (some (.ref bg)))
  (sg:K.lookup bg=some ⟨pQ,pL,.func (fnOf "_law_all_masks" "_law_all_masks" (aA bt) (ay bt) (ah bt) .none qc qi pA qL jw qw),oZ⟩)
  (sG:codeIn K jw "_law_all_masks"=true)
  (j5:keepIn K (.ref bg)=true)
  (Ip:nsIn K mainGlobals "_law_fit"=some (some (.ref dQ)))
  (Hn:K.lookup dQ=some ⟨Ec,DY,.func (fnOf "_law_fit" "_law_fit" (aA eF) (ay eF) (ah eF) .none Eu EL DJ Ff vJ ET),Du⟩)
  (Ia:codeIn K vJ "_law_fit"=true)
  (x9:keepIn K (.ref dQ)=true)
  (CU:nsIn K mainGlobals "_law_unfit"=some (some (.ref cw)))
  (Bu:K.lookup cw=some ⟨y9,y2,.func (fnOf "_law_unfit" "_law_unfit" (aA eB) (ay eB) (ah eB) .none zu zO yN Ac oA zV),yB⟩)
  (Cy:codeIn K oA "_law_unfit"=true)
  (qX:keepIn K (.ref cw)=true)
  (CV:nsIn K mainGlobals "_law_right"=some (some (.ref cx)))
  (Bv:K.lookup cx=some ⟨za,y3,.func (fnOf "_law_right" "_law_right" (aA eC) (ay eC) (ah eC) .none zv zP yO Ae oB zW),yC⟩)
  (Cz:codeIn K oB "_law_right"=true)
  (qY:keepIn K (.ref cx)=true)
  (xC:nsIn K mainGlobals "_law_refused"=some (some (.ref bC)))
  (wN:K.lookup bC=some ⟨uA,ur,.func (fnOf "_law_refused" "_law_refused" (aA c6) (ay c6) (ah c6) .none uR vk tU vP kZ vz),tF⟩)
  (xq:codeIn K kZ "_law_refused"=true)
  (ml:keepIn K (.ref bC)=true)
  (Ai:nsIn K mainGlobals "_law_spoilt"=some (some (.ref bO)))
  (zm:K.lookup bO=some ⟨wC,wz,.func (fnOf "_law_spoilt" "_law_spoilt" (aA dH) (ay dH) (ah dH) .none wX xj wj xy mC xn),v9⟩)
  (z6:codeIn K mC "_law_spoilt"=true)
  (nP:keepIn K (.ref bO)=true)
  (R9:nsIn K mainGlobals "law"=some (some (.ref BU)))
  (S4:K.lookup BU=some ⟨Rt,Rr,.func (fnOf "law" "law" (aA Dy) (ay Dy) (ah Dy) .none RE RV Rc R6 N6 RX),QA⟩)
  (S8:codeIn K N6 "law"=true)
  (Rn:keepIn K (.ref BU)=true)
  (FJ:plainGet K aJ Str.empty=true)
  (FI:hasDictIn K aJ=true)
  (FH:plainOver K aJ=true)
  (FG:findIn K (.ref aJ) "__setattr__"=some (some (.builtin "object.__setattr__")))
  (Mo:findIn K (.ref aJ) "__class__"=some (some (.builtin "object.__class__")))
  (Mn:mroIn K aJ (.type "object")=some true)
  (M8:makesIn K aJ=true)
  (M7:findIn K (.ref aJ) "__init__"=some (some (.ref aR)))
  (M6:isFn K (.ref aR)=true)
  (M5:keepIn K (.ref aJ)=true)
  (r9:findIn K (.ref aJ) "lowered"=some (some (.ref aZ)))
  (r6:isFn K (.ref aZ)=true)
  (Bp:findIn K (.ref aJ) "lay"=some (some (.ref bX)))
  (Bo:isFn K (.ref bX)=true)
  (se:findIn K (.ref aJ) "barring"=some (some (.ref a7)))
  (r8:isFn K (.ref a7)=true)
  (wG:findIn K (.ref aJ) "by_top"=some none)
  (mT:findIn K (.ref aJ) "free_places"=some none)
  (wF:findIn K (.ref aJ) "inputs"=some none)
  (zc:findIn K (.ref aJ) "nexts"=some none)
  (nV:findIn K (.ref aJ) "null_masks"=some none)
  (Bm:findIn K (.ref aJ) "outs"=some none)
  (xW:plainGet K ao Str.empty=true)
  (xV:hasDictIn K ao=true)
  (xU:plainOver K ao=true)
  (xT:findIn K (.ref ao) "__setattr__"=some (some (.builtin "object.__setattr__")))
  (GJ:findIn K (.ref ao) "__class__"=some (some (.builtin "object.__class__")))
  (GI:mroIn K ao (.type "object")=some true)
  (HE:makesIn K ao=true)
  (HD:findIn K (.ref ao) "__init__"=some (some (.ref aH)))
  (HC:isFn K (.ref aH)=true)
  (HB:keepIn K (.ref ao)=true)
  (p7:findIn K (.ref ao) "stores"=some (some (.ref aU)))
  (p5:isFn K (.ref aU)=true)
  (nZ:findIn K (.ref ao) "outputs"=some (some (.ref aM)))
  (nY:isFn K (.ref aM)=true)
  (kz:findIn K (.ref ao) "check_state"=some (some (.ref aB)))
  (ku:isFn K (.ref aB)=true)
  (uJ:findIn K (.ref ao) "step"=some (some (.ref be)))
  (uI:isFn K (.ref be)=true)
  (p6:findIn K (.ref ao) "walked"=some (some (.ref aT)))
  (p4:isFn K (.ref aT)=true)
  (wK:findIn K (.ref ao) "run"=some (some (.ref bq)))
  (wJ:isFn K (.ref bq)=true)
  (rW:findIn K (.ref ao) "by_top"=some none)
  (kJ:findIn K (.ref ao) "free_places"=some none)
  (rV:findIn K (.ref ao) "inputs"=some none)
  (uG:findIn K (.ref ao) "nexts"=some none)
  (me:findIn K (.ref ao) "null_masks"=some none)
  (wH:findIn K (.ref ao) "outs"=some none)
  (w1:specialIn K (.builtin "object.__class__") "__get__"=some (some (.builtin "getset_descriptor.__get__")))
  (w2:takesIn K (.builtin "object.__class__")=some true)
  {bb:Addr} (Fn:nsIn K mainGlobals "WireError"=some (some (.ref bb)))
  {aD:Addr} (Lw:nsIn K mainGlobals "BadMask"=some (some (.ref aD)))
  {a9:Addr} (Iq:nsIn K mainGlobals "BadTable"=some (some (.ref a9)))
  {aN:Addr} (Nl:nsIn K mainGlobals "BadRow"=some (some (.ref aN)))
  (Ax:isClsIn K bb=true)
  (Aw:typeIn K (.ref bb)=some (.type "type"))
  (NA:mroIn K bb (.ref bb)=some true)
  (oW:isClsIn K aD=true)
  (oV:typeIn K (.ref aD)=some (.type "type"))
  (oU:mroIn K aD (.ref aD)=some true)
  (tD:isClsIn K aN=true)
  (tz:typeIn K (.ref aN)=some (.type "type"))
  (tw:mroIn K aN (.ref aN)=some true)
  (BJ:mroIn K bb (.type "BaseException")=some true)
  (i5:excIn K aD [.type "ValueError",.type "Exception",.type "BaseException",.type "object"] "ValueError.__new__"=true)
  (Gh:isClsIn K aD=true)
  (Gg:findIn K (.ref aD) "__getattribute__"=some (some (.builtin "BaseException.__getattribute__")))
  (Gf:findIn K (.ref aD) "__getattr__"=some none)
  (Ge:findIn K (.ref aD) "__class__"=some (some (.builtin "object.__class__")))
  (Gd:mroIn K aD (.type "object")=some true)
  (Gb:mroIn K aD (.type "BaseException")=some true)
  (g9:mroIn K aD (.ref bb)=some true)
  (j9:mroIn K aD (.ref aN)=some false)
  (jr:mroIn K aD (.ref aD)=some true)
  (ek:excIn K a9 [.type "ValueError",.type "Exception",.type "BaseException",.type "object"] "ValueError.__new__"=true)
  (Dd:isClsIn K a9=true)
  (Dc:findIn K (.ref a9) "__getattribute__"=some (some (.builtin "BaseException.__getattribute__")))
  (C9:findIn K (.ref a9) "__getattr__"=some none)
  (C8:findIn K (.ref a9) "__class__"=some (some (.builtin "object.__class__")))
  (C7:mroIn K a9 (.type "object")=some true)
  (C6:mroIn K a9 (.type "BaseException")=some true)
  (gQ:mroIn K a9 (.ref bb)=some true)
  (jq:mroIn K a9 (.ref aN)=some false)
  (iC:mroIn K a9 (.ref aD)=some false)
  (jC:excIn K aN [.type "ValueError",.type "Exception",.type "BaseException",.type "object"] "ValueError.__new__"=true)
  (IP:isClsIn K aN=true)
  (IM:findIn K (.ref aN) "__getattribute__"=some (some (.builtin "BaseException.__getattribute__")))
  (IL:findIn K (.ref aN) "__getattr__"=some none)
  (IK:findIn K (.ref aN) "__class__"=some (some (.builtin "object.__class__")))
  (IJ:mroIn K aN (.type "object")=some true)
  (II:mroIn K aN (.type "BaseException")=some true)
  (eN:mroIn K aN (.ref bb)=some true)
  (ip:mroIn K aN (.ref aN)=some true)
  (gF:mroIn K aN (.ref aD)=some false)
  {kF:Tok} (CY:nsIn K mainGlobals "MOST_HEARD"=some (some (.int 40 kF)))
  {jE:Tok} (Ak:nsIn K mainGlobals "MOST_INPUTS"=some (some (.int 6 jE)))
  {mF:Tok} (Fo:nsIn K mainGlobals "MOST_OUTS"=some (some (.int 6 mF)))
  {jD:Tok} (Aj:nsIn K mainGlobals "MOST_STORES"=some (some (.int 120 jD)))
  (Sv:nsIn K mainGlobals "all"=some none)
  (Qh:nsIn K mainGlobals "bool"=some none)
  (LJ:nsIn K mainGlobals "divmod"=some none)
  (C5:nsIn K mainGlobals "enumerate"=some none)
  (Su:nsIn K mainGlobals "int"=some none)
  (Ar:nsIn K mainGlobals "isinstance"=some none)
  (Ss:nsIn K mainGlobals "len"=some none)
  (Qg:nsIn K mainGlobals "list"=some none)
  (Sr:nsIn K mainGlobals "min"=some none)
  (Od:nsIn K mainGlobals "range"=some none)
  (Sq:nsIn K mainGlobals "set"=some none)
  (LH:nsIn K mainGlobals "sorted"=some none)
  (Oc:nsIn K mainGlobals "tuple"=some none)
  (So:nsIn K mainGlobals "zip"=some none):
  ∃ fd:FuncData,(∀ (s:Shared) (v:Value),BindsTo s fd ⟨[v],[]⟩ [("_law_script",v)])∧∀ base:Heap,K.In base→base.Ns mainGlobals mg→FnOk l.prog w K mg base CX0 10 fa fd ["_law_script"] (FA K):=by
 have e:=hfa.symm.trans (mg_of X G R9)
 cases e
 have l0:=a8 (st:=g0) Hk HX x5
 have lX:=l0.binds (ps:=["thing"]) fun _ _ _ _ _ _ us hl=>match us,hl with | [_],_=>rfl
 have oP:=a8 (st:=je) Kl Li AZ
 have iw:=oP.binds (ps:=["thing","width"]) fun _ _ _ _ _ _ us hl=>match us,hl with | [_,_],_=>rfl
 have Ga:=a8 (st:=xS) RD R1 NS
 have CI:=Ga.binds (ps:=["number"]) fun _ _ _ _ _ _ us hl=>match us,hl with | [_],_=>rfl
 have oQ:=a8 (st:=g8) Km Lj A1
 have lC:=oQ.binds (ps:=["mask"]) fun _ _ _ _ _ _ us hl=>match us,hl with | [_],_=>rfl
 have oN:=a8 (st:=jc) Kj Lg AX
 have ly:=oN.binds (ps:=["places"]) fun _ _ _ _ _ _ us hl=>match us,hl with | [_],_=>rfl
 have sZ:=a8 (st:=lJ) MO Nh FN
 have oF:=sZ.binds (ps:=["masks","width"]) fun _ _ _ _ _ _ us hl=>match us,hl with | [_,_],_=>rfl
 have d5:=a8 (st:=cf) sh sH j6
 have d2:=d5.binds (ps:=["self","rows"]) fun _ _ _ _ _ _ us hl=>match us,hl with | [_,_],_=>rfl
 have fi:=a8 (st:=cG) uO vK hU
 have fg:=fi.binds (ps:=["self","mask"]) fun _ _ _ _ _ _ us hl=>match us,hl with | [_,_],_=>rfl
 have j1:=a8 (st:=fJ) Eo E3 mO
 have nu:=j1.binds (ps:=["self","place","row"]) fun _ _ _ _ _ _ us hl=>match us,hl with | [_,_,_],_=>rfl
 have fj:=a8 (st:=cH) uP vL hV
 have ix:=fj.binds (ps:=["self","bit"]) fun _ _ _ _ _ _ us hl=>match us,hl with | [_,_],_=>rfl
 have oM:=a8 (st:=ja) Ki Lf AW
 have vM:=oM.binds (ps:=["rows","wish"]) fun _ _ _ _ _ _ us hl=>match us,hl with | [_,_],_=>rfl
 have jV:=a8 (st:=d8) Eh EV t5
 have nq:=jV.binds (ps:=["rows"]) fun _ _ _ _ _ _ us hl=>match us,hl with | [_],_=>rfl
 have iL:=a8 (st:=du) Br Cw qW
 have iJ:=iL.binds (ps:=["rows","width"]) fun _ _ _ _ _ _ us hl=>match us,hl with | [_,_],_=>rfl
 have lZ:=a8 (st:=fC) Hj HW xZ
 have qI:=lZ.binds (ps:=["mask","outs"]) fun _ _ _ _ _ _ us hl=>match us,hl with | [_,_],_=>rfl
 have F9:=a8 (st:=qS) RC Cv NR
 have yr:=F9.binds (ps:=["machine","rows","answers"]) fun _ _ _ _ _ _ us hl=>match us,hl with | [_,_,_],_=>rfl
 have oO:=a8 (st:=jd) Kk Lh AY
 have vN:=oO.binds (ps:=["thing","stores","inputs"]) fun _ _ _ _ _ _ us hl=>match us,hl with | [_,_,_],_=>rfl
 have gY:=a8 (st:=cO) zj zZ nO
 have jP:=gY.binds (ps:=["inputs","nexts","outs"]) fun _ _ _ _ _ _ us hl=>match us,hl with | [_,_,_],_=>rfl
 have tj:=a8 (st:=lL) MP Ni FO
 have z9:=tj.binds (ps:=["pair","state","row"]) fun _ _ _ _ _ _ us hl=>match us,hl with | [_,_,_],_=>rfl
 have iK:=a8 (st:=dr) Bq Cu qV
 have iI:=iK.binds (ps:=["pairs","state","row"]) fun _ _ _ _ _ _ us hl=>match us,hl with | [_,_,_],_=>rfl
 have dk:=a8 (st:=bI) n0 oE iB
 have fh:=dk.binds (ps:=["self","inputs","nexts","outs"]) fun _ _ _ _ _ _ us hl=>match us,hl with | [_,_,_,_],_=>rfl
 have d7:=a8 (st:=ck) sj sJ gC
 have gO:=d7.binds (ps:=["self"]) fun _ _ _ _ _ _ us hl=>match us,hl with | [_],_=>rfl
 have dR:=a8 (st:=bQ) p9 qF fM
 have fO:=dR.binds (ps:=["self"]) fun _ _ _ _ _ _ us hl=>match us,hl with | [_],_=>rfl
 have cB:=a8 (st:=bh) kN lh dy
 have cA:=cB.binds (ps:=["self","state"]) fun _ _ _ _ _ _ us hl=>match us,hl with | [_,_],_=>rfl
 have gf:=a8 (st:=c9) wV xw iP
 have i4:=gf.binds (ps:=["self","state","row"]) fun _ _ _ _ _ _ us hl=>match us,hl with | [_,_,_],_=>rfl
 have d6:=a8 (st:=cj) si sI gz
 have gN:=d6.binds (ps:=["self","rows","state"]) fun _ _ _ _ _ _ us hl=>match us,hl with | [_,_,_],_=>rfl
 have fk:=PJ (st:=dI) zo wL z7 jI
 have jU:=fk.binds (ps:=["self","rows","state"]) (ds:=[]) fun _ _ _ _ _ _ _ us hl=>match us,hl with | [_,_,_],_=>⟨_,rfl,rfl⟩
 have j2:=fk.binds (ps:=["self","rows","state"]) (ds:=[.int 0 mz]) fun _ _ _ _ _ _ _ us hl=>match us,(show us.length=2 by simpa using hl) with | [_,_],_=>⟨_,rfl,rfl⟩
 have jY:=a8 (st:=fG) Ek EZ uc
 have bz:=jY.binds (ps:=["_law_script","_law_k"]) fun _ _ _ _ _ _ us hl=>match us,hl with | [_,_],_=>rfl
 have l8:=a8 (st:=g6) Hm HZ x8
 have bS:=l8.binds (ps:=["_law_cell_here","_law_k"]) fun _ _ _ _ _ _ us hl=>match us,hl with | [_,_],_=>rfl
 have iO:=a8 (st:=eE) Bw CA qZ
 have dD:=iO.binds (ps:=["_law_cell_here","_law_start","_law_many","_law_width","_law_digits"]) fun _ _ _ _ _ _ us hl=>match us,hl with | [_,_,_,_,_],_=>rfl
 have fW:=a8 (st:=c5) wM xp mj
 have iY:=fW.binds (ps:=["_law_masks_here","_law_cell_here","_law_start","_law_way"]) fun _ _ _ _ _ _ us hl=>match us,hl with | [_,_,_,_],_=>rfl
 have fY:=a8 (st:=bA) wO xr mm
 have i0:=fY.binds (ps:=["_law_script","_law_start","_law_most"]) fun _ _ _ _ _ _ us hl=>match us,hl with | [_,_,_],_=>rfl
 have jW:=a8 (st:=fE) Ei EX t6
 have nr:=jW.binds (ps:=["_law_cell_here","_law_many","_law_width"]) fun _ _ _ _ _ _ us hl=>match us,hl with | [_,_,_],_=>rfl
 have l6:=a8 (st:=g5) Hl HY x6
 have lY:=l6.binds (ps:=["_law_number"]) fun _ _ _ _ _ _ us hl=>match us,hl with | [_],_=>rfl
 have jZ:=a8 (st:=fH) El E1 ud
 have jS:=jZ.binds (ps:=["_law_pairs","_law_state","_law_row"]) fun _ _ _ _ _ _ us hl=>match us,hl with | [_,_,_],_=>rfl
 have j0:=a8 (st:=fI) Em E2 ue
 have jT:=j0.binds (ps:=["_law_nexts","_law_mask"]) fun _ _ _ _ _ _ us hl=>match us,hl with | [_,_],_=>rfl
 have fZ:=a8 (st:=c7) wQ xt mq
 have de:=fZ.binds (ps:=["_law_thing","_law_width"]) fun _ _ _ _ _ _ us hl=>match us,hl with | [_,_],_=>rfl
 have gb:=a8 (st:=cC) wR xu mr
 have i3:=gb.binds (ps:=["_law_found","_law_width"]) fun _ _ _ _ _ _ us hl=>match us,hl with | [_,_],_=>rfl
 have gc:=a8 (st:=c8) wU xv mw
 have df:=gc.binds (ps:=["_law_tables","_law_state","_law_rows_here"]) fun _ _ _ _ _ _ us hl=>match us,hl with | [_,_,_],_=>rfl
 have d3:=a8 (st:=cb) sf sF j4
 have gL:=d3.binds (ps:=["_law_tables","_law_turn","_law_output"]) fun _ _ _ _ _ _ us hl=>match us,hl with | [_,_,_],_=>rfl
 have jX:=a8 (st:=fF) Ej EY ub
 have jR:=jX.binds (ps:=["_law_masks_here"]) fun _ _ _ _ _ _ us hl=>match us,hl with | [_],_=>rfl
 have d4:=a8 (st:=bt) sg sG j5
 have gM:=d4.binds (ps:=["_law_tables","_law_turns"]) fun _ _ _ _ _ _ us hl=>match us,hl with | [_,_],_=>rfl
 have l9:=a8 (st:=eF) Hn Ia x9
 have qJ:=l9.binds (ps:=["_law_found","_law_tables","_law_rows_here","_law_answers_here"]) fun _ _ _ _ _ _ us hl=>match us,hl with | [_,_,_,_],_=>rfl
 have iM:=a8 (st:=eB) Bu Cy qX
 have lD:=iM.binds (ps:=["_law_found","_law_tables","_law_rows_here","_law_answers_here"]) fun _ _ _ _ _ _ us hl=>match us,hl with | [_,_,_,_],_=>rfl
 have iN:=a8 (st:=eC) Bv Cz qY
 have lE:=iN.binds (ps:=["_law_found","_law_tables","_law_rows_here","_law_answers_here"]) fun _ _ _ _ _ _ us hl=>match us,hl with | [_,_,_,_],_=>rfl
 have fX:=a8 (st:=c6) wN xq ml
 have iZ:=fX.binds (ps:=["_law_machine_here","_law_rows_here","_law_answers_here"]) fun _ _ _ _ _ _ us hl=>match us,hl with | [_,_,_],_=>rfl
 have gZ:=a8 (st:=dH) zm z6 nP
 have jQ:=gZ.binds (ps:=["_law_answers_here","_law_cell_here","_law_outputs"]) fun _ _ _ _ _ _ us hl=>match us,hl with | [_,_,_],_=>rfl
 have Np:=a8 (st:=Dy) S4 S8 Rn
 have R5:=Np.binds (ps:=["_law_script"]) fun _ _ _ _ _ _ us hl=>match us,hl with | [_],_=>rfl
 have T:Tx K mg ⟨cN,_,dB,_,oi,_,fc,_,eX,_,gU,_,aR,_,aZ,_,bX,_,a7,_,eW,_,cP,_,cv,_,dN,_,oh,_,eZ,_,bN,_,gW,_,cu,_,aH,_,aU,_,aM,_,aB,_,be,_,aT,_,bq,_,_,cS,_,dP,_,cy,_,bB,_,bD,_,cQ,_,dO,_,cT,_,cU,_,bE,_,bF,_,bG,_,bf,_,cR,_,bg,_,dQ,_,cw,_,cx,_,bC,_,bO,_,fa,_,aJ,ao,bb,aD,a9,aN,_,_,_,_⟩:=⟨l0,x5,lX,mg_of X G Il,oP,AZ,iw,mg_of X G Ls,Ga,NS,CI,mg_of X G Se,oQ,A1,lC,mg_of X G Lu,oN,AX,ly,mg_of X G Lq,sZ,FN,oF,mg_of X G Nj,d5,j6,d2,fi,hU,fg,j1,mO,nu,fj,hV,ix,oM,AW,vM,mg_of X G Lp,jV,t5,nq,mg_of X G Fg,iL,qW,iJ,mg_of X G CT,lZ,xZ,qI,mg_of X G Ik,F9,NR,yr,mg_of X G Sd,oO,AY,vN,mg_of X G Lr,gY,nO,jP,mg_of X G Ah,tj,FO,z9,mg_of X G Nk,iK,qV,iI,mg_of X G CS,dk,iB,fh,d7,gC,gO,dR,fM,fO,cB,dy,cA,gf,iP,i4,d6,gz,gN,fk,j2,⟨_,rfl⟩,jI,jU,jY,uc,bz,mg_of X G Fj,l8,x8,bS,mg_of X G Io,iO,qZ,dD,mg_of X G CW,fW,mj,iY,mg_of X G xB,fY,mm,i0,mg_of X G xD,jW,t6,nr,mg_of X G Fh,l6,x6,lY,mg_of X G Im,jZ,ud,jS,mg_of X G Fk,j0,ue,jT,mg_of X G Fl,fZ,mq,de,mg_of X G xE,gb,mr,i3,mg_of X G xF,gc,mw,df,mg_of X G xG,d3,j4,gL,mg_of X G sN,jX,ub,jR,mg_of X G Fi,d4,j5,gM,mg_of X G sO,l9,x9,qJ,mg_of X G Ip,iM,qX,lD,mg_of X G CU,iN,qY,lE,mg_of X G CV,fX,ml,iZ,mg_of X G xC,gZ,nP,jQ,mg_of X G Ai,Np,Rn,R5,mg_of X G R9,mg_of X G P9,⟨FJ,FI,FH,FG⟩,⟨⟨FJ,FI,FH,FG⟩,Mo,w1,w2,Mn⟩,⟨M8,M7,M6,M5⟩,⟨r9,r6,hU⟩,⟨Bp,Bo,mO⟩,⟨se,r8,hV⟩,wG,mT,wF,zc,nV,Bm,mg_of X G Lv,⟨xW,xV,xU,xT⟩,⟨⟨xW,xV,xU,xT⟩,GJ,w1,w2,GI⟩,⟨HE,HD,HC,HB⟩,⟨p7,p5,gC⟩,⟨nZ,nY,fM⟩,⟨kz,ku,dy⟩,⟨uJ,uI,iP⟩,⟨p6,p4,gz⟩,⟨wK,wJ,jI⟩,rW,kJ,rV,uG,me,wH,mg_of X G Fn,⟨Aw,Ax,BJ⟩,mg_of X G Lw,i5,⟨Gh,Gg,Gf,Ge,w1,w2,Gd,Gb⟩,g9,yc tD tz j9 tw,yc oW oV jr oU,mg_of X G Iq,ek,⟨Dd,Dc,C9,C8,w1,w2,C7,C6⟩,gQ,yc tD tz jq tw,yc oW oV iC oU,mg_of X G Nl,jC,⟨IP,IM,IL,IK,w1,w2,IJ,II⟩,eN,yc tD tz ip tw,yc oW oV gF oU,mg_of X G CY,mg_of X G Ak,mg_of X G Fo,mg_of X G Aj,mg_none_of X G Sv,mg_none_of X G Qh,mg_none_of X G LJ,mg_none_of X G C5,mg_none_of X G Su,mg_none_of X G Ar,mg_none_of X G Ss,mg_none_of X G Qg,mg_none_of X G Sr,mg_none_of X G Od,mg_none_of X G Sq,mg_none_of X G LH,mg_none_of X G Oc,mg_none_of X G So⟩
 exact ⟨_,fun s v=> .of_eq rfl,fun base _ _=>Rq T⟩
open PySem.W in
theorem walk {l:OpenLaw} {q:Program} {loose:List Str} {XP:(Str→Option Value)→Heap→Prop} {YP:World→Heap→Prop} {d:DefRec} {K:Params→Frag} (hn:l.most=some 63) (hdf:d.params.defaults=[])
  (hY:∀ (w:World) (h:Heap),YP w h→(K w.params).In h)
  (F:∀ (w:World) (mg:Str→Option Value) (fa:Addr) (h:Heap),(K w.params).In h→h.Ns mainGlobals mg→mg d.name=some (.ref fa)→
   ∃ fd:FuncData,(∀ (s:Shared) (u:Value),BindsTo s fd ⟨[u],[]⟩ [("_law_script",u)])∧∀ base:Heap,(K w.params).In base→base.Ns mainGlobals mg→FnOk l.prog w (K w.params) mg base CX0 10 fa fd ["_law_script"] (FA (K w.params))):
  WalkO q loose XP YP l.row.toRowW d [] (fun f vs=>PySem.call f vs):=
 L2.walk_of (n:=63) (k:=10) (x:="_law_script") (CX:=fun _=>CX0) (sp:=fun w=>FA (K w.params)) hn (by decide) hdf ⟨rfl,by decide,by decide⟩ hY F (fun _ _ a ns hl _ hS=>⟨a,ns,rfl,hS,hl,fun _=>rfl⟩) fun _ _ _ _ _ z=>z
end My
def PySem.W.Fast.tw13543196696473860345:Unit:=()
def PySem.W.Fast.tw8712623021226769735:Unit:=()
def PySem.W.Fast.tw17181442600820021157:Unit:=()
def PySem.W.Fast.tw16352770214069238802:Unit:=()
def PySem.W.Fast.tw14353409718549400359:Unit:=()
def PySem.W.Fast.tw344009425936040953:Unit:=()
def PySem.W.Fast.tw9583385750793062271:Unit:=()
def PySem.W.Fast.tw5569519293407151346:Unit:=()
def PySem.W.Fast.tw13654769949000739652:Unit:=()
def PySem.W.Fast.tw1024217561780965608:Unit:=()
def PySem.W.Fast.tw2921032747431437421:Unit:=()
def PySem.W.Fast.tw7823387804134003075:Unit:=()
def PySem.W.Fast.tw11954167879262066783:Unit:=()
def PySem.W.Fast.tw18063641486656857126:Unit:=()
def PySem.W.Fast.tw11325695932033099940:Unit:=()
def PySem.W.Fast.tw10256044092931395865:Unit:=()
def PySem.W.Fast.tw5617088302054226116:Unit:=()
def PySem.W.Fast.tw3007130947933254258:Unit:=()
def PySem.W.Fast.tw15566066245121384683:Unit:=()
def PySem.W.Fast.tw15393777770761515470:Unit:=()
def PySem.W.Fast.tw17204080322441782407:Unit:=()
def PySem.W.Fast.tw4207261027509417487:Unit:=()
def PySem.W.Fast.tw9560008202824594294:Unit:=()
def PySem.W.Fast.tw16799200079891161131:Unit:=()
def PySem.W.Fast.tw12971369789270608294:Unit:=()
def PySem.W.Fast.tw7188052302247316232:Unit:=()
def PySem.W.Fast.tw6258242024178680512:Unit:=()
def PySem.W.Fast.tw17587817814537733941:Unit:=()
def PySem.W.Fast.tw11805886895133566062:Unit:=()
def PySem.W.Fast.tw9902389880323370159:Unit:=()
def PySem.W.Fast.tw14928243694702640695:Unit:=()
def PySem.W.Fast.tw10245816926711139593:Unit:=()
def PySem.W.Fast.tw17325141164584926325:Unit:=()
def PySem.W.Fast.tw9939983199355538446:Unit:=()
def PySem.W.Fast.tw14466262933802494187:Unit:=()
def PySem.W.Fast.tw18137433165088336652:Unit:=()
def PySem.W.Fast.tw8600645260938557318:Unit:=()
def PySem.W.Fast.tw16443060441619238075:Unit:=()
def PySem.W.Fast.tw7967434746557858926:Unit:=()
def PySem.W.Fast.tw10922026269125868327:Unit:=()
def PySem.W.Fast.tw2683377750498503185:Unit:=()
open PySem PySem.W PyProof.Rows
set_option maxRecDepth 100000 in
set_option maxHeartbeats 0 in
theorem PySem.Challenge.cw_sumwires_k54_states_that_fit_holds : PySem.Challenge.rw_sumwires_k54_states_that_fit.Holds := by
 w_on;o_law;k_head;(case hw=>w_witness2)
 k_fill
 refine My.walk (l:=PySem.Challenge.rw_sumwires_k54_states_that_fit) rfl rfl (fun w h Y=>PySem.W.kIn_of Y) ?F
 case F=>
  intro w mg fa h KX G hmg
  refine' My.all_mk KX G hmg _ _ _ _ _ _ _ _ _ _ _ _ _ _ _ _ _ _ _ _ _ _ _ _ _ _ _ _ _ _ _ _ _ _ _ _ _ _ _ _ _ _ _ _ _ _ _ _ _ _ _ _ _ _ _ _ _ _ _ _ _ _ _ _ _ _ _ _ _ _ _ _ _ _ _ _ _ _ _ _ _ _ _ _ _ _ _ _ _ _ _ _ _ _ _ _ _ _ _ _ _ _ _ _ _ _ _ _ _ _ _ _ _ _ _ _ _ _ _ _ _ _ _ _ _ _ _ _ _ _ _ _ _ _ _ _ _ _ _ _ _ _ _ _ _ _ _ _ _ _ _ _ _ _ _ _ _ _ _ _ _ _ _ _ _ _ _ _ _ _ _ _ _ _ _ _ _ _ _ _ _ _ _ _ _ _ _ _ _ _ _ _ _ _ _ _ _ _ _ _ _ _ _ _ _ _ _ _ _ _ _ _ _ _ _ _ _ _ _ _ _ _ _ _ _ _ _ _ _ _ _ _ _ _ _ _ _ _ _ _ _ _ _ _ _ _ _ _ _ _ _ _ _ _ _ _ _ ?i5 _ _ _ _ _ _ _ _ _ ?ek _ _ _ _ _ _ _ _ _ ?jC _ _ _ _ _ _ _ _ _ _ _ _ _ _ _ _ _ _ _ _ _ _ _ _ _ _ _
  any_goals ((with_reducible show _=_);k_is)
  (case i5=>k_exc)
  (case ek=>k_exc)
  (case jC=>k_exc)
