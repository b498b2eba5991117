import PyProof.Rows.All
import Wide.All
import OpenK.AllK
import Wide.FinOn
import Lean
import PyProof.EqAt
import PyProof.EqKinds
import PyProof.TupleCall
import PyProof.NeKinds
import KE.KIsAll
import PyProof.RulesAs
import PyProof.StationsW
import PyProof.ExcClass2
import OpenK.KOwn
import PyProof.NsDelKeeps
import PyProof.ExcAttrAll.ValueError
import KE.KDictList
import KE.KSorted
import PyProof.SumAny
import PyProof.WalkInts
import PyProof.EnumMake
import KE.KItemsList
import KE.KRevIter
import PyProof.ExcInit
import PyProof.InstStoreFacts
import PyProof.IsRules
import KE.KDictOf
import PyProof.AttrMissHeap
import PyProof.MinMaxWalk
import PyProof.DictIter
import PyProof.ExcClass
import PyProof.ListRange
import PySem.Challenge.RW_sumwires_k55_whole_all_states_walked
set_option Elab.async false
set_option linter.all false
set_option maxRecDepth 100000
namespace L2
open PySem PySem.Spec PyProof.Rows
noncomputable abbrev Key:=Sum Int Str
noncomputable def zX:Key→Value→Bool
 | .inl k,v=>Value.isInt k v
 | .inr x,v=>Value.isStrOf x v
noncomputable def keyH (w:World):Key→Int
 | .inl k=>hashInt k
 | .inr x=>hashStr w x
theorem cv:∀ {k:Key} {v:Value},zX k v=true→(∃ i t,k=Sum.inl i∧v=Value.int i t)∨(∃ x t,k=Sum.inr x∧v=Value.str x t)
 | .inl i,v,h=>by
   obtain ⟨t,e⟩:=Value.isInt_shape (k:=i) (v:=v) h
   exact .inl ⟨i,t,rfl,e⟩
 | .inr x,v,h=>by
   obtain ⟨t,e⟩:=Value.isStrOf_shape (x:=x) (v:=v) h
   exact .inr ⟨x,t,rfl,e⟩
theorem Hn (i:Int) (t:Tok):zX (.inl i) (.int i t)=true:=by simp [zX,Value.isInt]
theorem Hm (x:Str) (t:Tok):zX (.inr x) (.str x t)=true:=by simp [zX,Value.isStrOf]
theorem OI (a b:Int):decide ((Sum.inl a:Key)=Sum.inl b)=(a == b):=by
 by_cases e:a=b
 ·subst e;simp
 ·have h:¬ (Sum.inl a:Key)=Sum.inl b:=fun q=>e (Sum.inl.inj q)
  rw [decide_eq_false h]
  exact (beq_eq_false_iff_ne.mpr e).symm
theorem OF (a b:Str):decide ((Sum.inr a:Key)=Sum.inr b)=decide (a=b):=by
 by_cases e:a=b
 ·subst e;simp
 ·have h:¬ (Sum.inr a:Key)=Sum.inr b:=fun q=>e (Sum.inr.inj q)
  rw [decide_eq_false h,decide_eq_false e]
theorem OH (a:Int) (b:Str):decide ((Sum.inl a:Key)=Sum.inr b)=false:=decide_eq_false (fun q=>nomatch q)
theorem OG (a:Str) (b:Int):decide ((Sum.inr a:Key)=Sum.inl b)=false:=decide_eq_false (fun q=>nomatch q)
noncomputable def bY (prog:Program) (w:World):PySem.KeyKind prog w Key where
 is:=zX
 hash:=keyH w
 inj:=fun v a b ha hb=>by
  rcases cv ha with ⟨i,t,rfl,rfl⟩ | ⟨x,t,rfl,rfl⟩
  ·rcases cv hb with ⟨j,u,rfl,e⟩ | ⟨y,u,rfl,e⟩
   ·injection e with e1 _;rw [e1]
   ·exact nomatch e
  ·rcases cv hb with ⟨j,u,rfl,e⟩ | ⟨y,u,rfl,e⟩
   ·exact nomatch e
   ·injection e with e1 _;rw [e1]
 byValue:=fun k v h=>by
  rcases cv h with ⟨i,t,rfl,rfl⟩ | ⟨x,t,rfl,rfl⟩<;>rfl
 pyHash:=fun hv h=>by
  rcases cv hv with ⟨i,t,rfl,rfl⟩ | ⟨x,t,rfl,rfl⟩
  ·exact wpAny_pyHash_int h
  ·exact wpAny_pyHash_str h
 eqBool:=fun hu hv h=>by
  rcases cv hu with ⟨i,t,rfl,rfl⟩ | ⟨x,t,rfl,rfl⟩
  ·rcases cv hv with ⟨j,u,rfl,rfl⟩ | ⟨y,u,rfl,rfl⟩
   ·rw [OI] at h;exact wpAny_eqBool_int h
   ·rw [OH] at h;exact SeqAt.EqAt.int_str i t y u _ _ _ _ h
  ·rcases cv hv with ⟨j,u,rfl,rfl⟩ | ⟨y,u,rfl,rfl⟩
   ·rw [OG] at h;exact SeqAt.EqAt.str_int x t j u _ _ _ _ h
   ·rw [OF] at h;exact wpAny_eqBool_str h
 «strs»:=fun k x t v h=>by
  rcases cv h with ⟨i,u,rfl,e⟩ | ⟨y,u,rfl,e⟩
  ·exact nomatch e
  ·injection e with e1 _
   subst e1
   cases v<;>rfl
theorem BC (prog:Program) (w:World) (i:Int) (t:Tok):(bY prog w).is (.inl i) (.int i t)=true:=Hn i t
theorem BB (prog:Program) (w:World) (x:Str) (t:Tok):(bY prog w).is (.inr x) (.str x t)=true:=Hm x t
inductive V where
 | non | bl (b:Bool) | int (i:Int) | str (x:Str) | byt (b:Array UInt8) | flt (b:UInt64) | ref (a:Addr) | ty (n:String)
 deriving DecidableEq
noncomputable def RelV:V→Value→Prop
 | .non,u=>u=Value.none
 | .bl b,u=>u=Value.bool b
 | .int i,u=>∃ t,u=Value.int i t
 | .str x,u=>∃ t,u=Value.str x t
 | .byt b,u=>∃ t,u=Value.bytes b t
 | .flt b,u=>∃ t,u=Value.float b t
 | .ref a,u=>u=Value.ref a
 | .ty n,u=>u=Value.type n
noncomputable abbrev Vals:List V→List Value→Prop:=Paired RelV
theorem Vals.length {xs:List V} {us:List Value} (r:Vals xs us):xs.length=us.length:=Paired.length r
theorem Vals.get:∀ {xs:List V} {us:List Value} {i:Nat} {x:V},Vals xs us→xs[i]? =some x→∃ u,us[i]? =some u∧RelV x u
 | _,_,_,_,.nil,e=>by simp at e
 | _,_,0,_,.cons r _,e=>by simp at e;subst e;exact ⟨_,rfl,r⟩
 | _,_,i + 1,x,.cons _ t,e=>by
   obtain ⟨u,h1,h2⟩:=Vals.get (i:=i) (x:=x) t (by simpa using e)
   exact ⟨u,by simpa using h1,h2⟩
theorem Vals.append:∀ {xs ys:List V} {us ws:List Value},Vals xs us→Vals ys ws→Vals (xs++ys) (us++ws)
 | _,_,_,_,.nil,s=>s
 | _,_,_,_,.cons r t,s=> .cons r (Vals.append t s)
theorem Vals.take:∀ {xs:List V} {us:List Value} (n:Nat),Vals xs us→Vals (xs.take n) (us.take n)
 | _,_,0,_=> .nil
 | _,_,_ + 1,.nil=> .nil
 | _,_,n + 1,.cons r t=> .cons r (Vals.take n t)
theorem Vals.drop:∀ {xs:List V} {us:List Value} (n:Nat),Vals xs us→Vals (xs.drop n) (us.drop n)
 | _,_,0,r=>r
 | _,_,_ + 1,.nil=> .nil
 | _,_,n + 1,.cons _ t=>Vals.drop n t
noncomputable def RelO:Option V→Option Value→Prop
 | some v,some u=>RelV v u
 | none,none=>True
 | _,_=>False
noncomputable def KV {κ:Type}:List (κ×V)→List (κ×Value)→Prop:=Paired fun (p:κ×V) (q:κ×Value)=>p.1=q.1∧RelV p.2 q.2
noncomputable def kV:Key→V
 | .inl i=> .int i
 | .inr x=> .str x
inductive HO where
 | lst (xs:List V)
 | tup (xs:List V)
 | dK (kvs:List (Key×V)) | dT (kvs:List (List Key×V))
 | set (S:Int→Bool) (n:Nat)
 | ins (C dx:Addr) (fs:List (Str×V))
 | own (x:Addr)
 | xd (fs:List (Str×V))
 | met (f x:Addr)
 | rng (lo hi:Int)
 | frz (o:Obj) (u:HO)
 | tbl (ps:Array Value)
 | ext (φ:Heap→Prop)
noncomputable abbrev Hp:=Addr→Option HO
noncomputable def upd (H:Hp) (a:Addr) (o:HO):Hp:=fun b=>if b=a then some o else H b
theorem bf {H:Hp} {a:Addr} {o:HO}:upd H a o a=some o:=by unfold upd;rw [if_pos rfl]
theorem aL {H:Hp} {a b:Addr} {o:HO} (h:b≠a):upd H a o b=H b:=by unfold upd;rw [if_neg h]
theorem Lr {H:Hp} {a:Addr} {o u:HO}:upd (upd H a o) a u=upd H a u:=by
 funext b;unfold upd;split<;>rfl
theorem iU {H:Hp} {a b:Addr} {o u:HO} (h:H a=some o) (h':H b=some u) (d:o≠u):a≠b:=by
 intro e;subst e;rw [h] at h';exact d (Option.some.inj h')
theorem ar {H:Hp} {a b:Addr} {o:HO} (h:H a=some o) (h':H b=none):a≠b:=by
 intro e;subst e;rw [h] at h';cases h'
section
variable (P:Program) (w:World)
noncomputable def eB (H:Hp) (h:Heap) (a:Addr):HO→Prop
 | .lst xs=>xs.length≤sizeLine∧∃ (its:List Value) (n:Nat),Vals xs its∧h.get? a=some {cls:= .type "list",data:= .seq its.toArray n}
 | .tup xs=>xs.length≤sizeLine∧∃ its:List Value,Vals xs its∧IsTup h a its.toArray
 | .dK kvs=>kvs.length≤sizeLine∧(a == sysModules)=false∧∃ vs,KV kvs vs∧h.DictOf (bY P w) a vs
 | .dT kvs=>kvs.length≤sizeLine∧(a == sysModules)=false∧∃ xs:List (List Key×Addr×Value),
   Paired (fun (p:List Key×V) (q:List Key×Addr×Value)=>p.1=q.1∧H q.2.1=some (.tup (p.1.map kV))∧RelV p.2 q.2.2) kvs xs∧
   ∃ o es ep,h.get? a=some o∧o.ExactDict∧o.data= .dict es ep∧es.toList=xs.map (entryOfKey (tupleKind (bY P w)))∧(xs.map (·.1)).Nodup
 | .set S n=>h.SetOf (intKind P w) a S n
 | .ins C dx fs=>H dx=some (.own a)∧fs.length≤1000∧dx≠a∧h.get? a=some (PySem.W.instObj C dx)∧
   ∃ mA,h.Ns1 dx mA∧(∀ f,RelO (fs.lookup f) (mA f))∧PySem.Within mA (fs.map (·.1))
 | .own _=>∃ o,h.get? a=some o
 | .xd fs=>∃ mA,h.Ns1 a mA∧∀ f,RelO (fs.lookup f) (mA f)
 | .rng lo hi=>∃ t u v,h.get? a=some {cls:= .type "range",data:= .fields #[.int lo t,.int hi u,.int 1 v]}
 | .frz o u=>h.get? a=some o∧eB H h a u
 | .tbl ps=>h.get? a=some {cls:= .none,data:= .fields ps}
 | .met f x=>h.get? a=some (PySem.W.methodObj (.ref f) (.ref x))
 | .ext φ=>φ h∧(∃ o,h.get? a=some o)∧∀ h1 h2:Heap,φ h1→(∀ o,h1.get? a=some o→h2.get? a=some o)→φ h2
noncomputable def HOk (H:Hp) (h:Heap):Prop:=∀ a o,H a=some o→eB P w H h a o
end
section
variable {P:Program} {w:World} {H H':Hp} {h h':Heap} {a:Addr} {o:HO}
theorem eB.lt (x:eB P w H h a o):a < h.objs.size:=by
 cases o with
 | lst xs=>obtain ⟨_,_,_,_,e⟩:=x;exact Heap.lt_size e
 | tup xs=>obtain ⟨_,_,_,p⟩:=x;exact p.lt
 | dK kvs=>obtain ⟨_,_,_,_,o,_,_,e,_⟩:=x;exact Heap.lt_size e
 | dT kvs=>obtain ⟨_,_,_,_,o,_,_,e,_⟩:=x;exact Heap.lt_size e
 | set S n=>obtain ⟨o,_,_,_,e,_⟩:=x;exact Heap.lt_size e
 | ins C dx fs=>obtain ⟨_,_,_,e,_⟩:=x;exact Heap.lt_size e
 | own y=>obtain ⟨_,e⟩:=x;exact Heap.lt_size e
 | xd fs=>obtain ⟨_,⟨_,_,_,e,_⟩,_⟩:=x;exact Heap.lt_size e
 | rng lo hi=>obtain ⟨_,_,_,e⟩:=x;exact Heap.lt_size e
 | frz ob u=>obtain ⟨e,_⟩:=x;exact Heap.lt_size e
 | tbl ps=>exact Heap.lt_size (show h.get? a=some _ from x)
 | met f y=>exact Heap.lt_size (show h.get? a=some _ from x)
 | ext φ=>obtain ⟨_,⟨_,e⟩,_⟩:=x;exact Heap.lt_size e
theorem Paired.mapP {α β:Type} {F G:α→β→Prop}:∀ {l₁:List α} {l₂:List β},Paired F l₁ l₂→(∀ a b,F a b→G a b)→Paired G l₁ l₂
 | _,_,.nil,_=> .nil
 | _,_,.cons r t,f=> .cons (f _ _ r) (Paired.mapP t f)
theorem eB.stay (x:eB P w H h a o) (k:∀ b u,(b=a∨H b=some (.own a))→h.get? b=some u→h'.get? b=some u)
  (ho:∀ b,H b=some (.own a)→H' b=some (.own a)) (ht:∀ b xs,H b=some (.tup xs)→H' b=some (.tup xs)):eB P w H' h' a o:=by
 induction o with
 | lst xs=>obtain ⟨z,its,n,r,e⟩:=x;exact ⟨z,its,n,r,k _ _ (.inl rfl) e⟩
 | tup xs=>obtain ⟨z,its,r,ob,e,c⟩:=x;exact ⟨z,its,r,ob,k _ _ (.inl rfl) e,c⟩
 | dK kvs=>obtain ⟨z,y,vs,r,ob,es,ep,e,c⟩:=x;exact ⟨z,y,vs,r,ob,es,ep,k _ _ (.inl rfl) e,c⟩
 | dT kvs=>
   obtain ⟨z,y,xs,r,ob,es,ep,e,c⟩:=x
   exact ⟨z,y,xs,Paired.mapP r fun p q z=>⟨z.1,ht _ _ z.2.1,z.2.2⟩,ob,es,ep,k _ _ (.inl rfl) e,c⟩
 | set S n=>obtain ⟨ob,es,ep,t,e,c⟩:=x;exact ⟨ob,es,ep,t,k _ _ (.inl rfl) e,c⟩
 | ins C dx fs=>
   obtain ⟨d,z,ne,e,mA,⟨od,es,ep,e2,c⟩,r⟩:=x
   exact ⟨ho _ d,z,ne,k _ _ (.inl rfl) e,mA,⟨od,es,ep,k _ _ (.inr d) e2,c⟩,r⟩
 | own y=>obtain ⟨ob,e⟩:=x;exact ⟨ob,k _ _ (.inl rfl) e⟩
 | xd fs=>obtain ⟨mA,⟨od,es,ep,e,c⟩,r⟩:=x;exact ⟨mA,⟨od,es,ep,k _ _ (.inl rfl) e,c⟩,r⟩
 | rng lo hi=>obtain ⟨t,u,v,e⟩:=x;exact ⟨t,u,v,k _ _ (.inl rfl) e⟩
 | frz ob u ih=>obtain ⟨e,q⟩:=x;exact ⟨k _ _ (.inl rfl) e,ih q⟩
 | tbl ps=>
   have e:h.get? a=some {cls:= .none,data:= .fields ps}:=x
   show h'.get? a=some {cls:= .none,data:= .fields ps}
   exact k a _ (.inl rfl) e
 | met f y=>
   have e:h.get? a=some (PySem.W.methodObj (.ref f) (.ref y)):=x
   show h'.get? a=some (PySem.W.methodObj (.ref f) (.ref y))
   exact k a _ (.inl rfl) e
 | ext φ=>obtain ⟨p,⟨o,e⟩,st⟩:=x;exact ⟨st _ _ p fun o q=>k _ _ (.inl rfl) q,⟨o,k _ _ (.inl rfl) e⟩,st⟩
theorem HOk.lt (x:HOk P w H h) (e:H a=some o):a < h.objs.size:=(x a o e).lt
theorem HOk.fresh (x:HOk P w H h) (e:h.objs.size≤a):H a=none:=by
 cases q:H a with
 | none=>rfl
 | some u=>exact absurd (Nat.lt_of_lt_of_le (x.lt q) e) (Nat.lt_irrefl _)
theorem HOk.kept (x:HOk P w H h) (k:∀ b u,h.get? b=some u→h'.get? b=some u):HOk P w H h':=fun a o e=>
 (x a o e).stay (fun b u _ q=>k b u q) (fun _ q=>q) fun _ _ q=>q
theorem HOk.laid (x:HOk P w H h) (k:∀ b u,h.get? b=some u→h'.get? b=some u) (hp:h.objs.size≤a) (new:eB P w (upd H a o) h' a o):HOk P w (upd H a o) h':=fun b u e=>by
 have hn:=x.fresh hp
 by_cases hb:b=a
 ·subst hb;rw [bf] at e;cases e;exact new
 ·rw [aL hb] at e
  exact (x b u e).stay (fun c v _ q=>k c v q) (fun c q=>by rw [aL (ar q hn)];exact q) fun c xs q=>by rw [aL (ar q hn)];exact q
end
noncomputable def Rd (H:Hp) (a:Addr) (u:HO):Prop:=H a=some u∨∃ o,H a=some (.frz o u)
theorem Rd.ok {P:Program} {w:World} {H:Hp} {h:Heap} {a:Addr} {u:HO} (r:Rd H a u) (x:HOk P w H h):eB P w H h a u:=by
 rcases r with r | ⟨o,r⟩
 ·exact x a u r
 ·obtain ⟨_,q⟩:=x a _ r
  exact q
noncomputable def Mut:Option HO→Prop
 | some (.lst _)=>True
 | some (.dK _)=>True
 | some (.dT _)=>True
 | some (.set _ _)=>True
 | some (.ins _ _ _)=>True
 | some (.ext _)=>True
 | _=>False
section
variable {P:Program} {w:World} {H:Hp} {h h':Heap} {x e:Addr} {o':HO}
theorem HOk.write (ok:HOk P w H h) (mu:Mut (H x)) (he:e=x∨H e=some (.own x)) (k:∀ b u,b≠e→h.get? b=some u→h'.get? b=some u) (heo:∃ u,h'.get? e=some u)
  (new:eB P w (upd H x o') h' x o'):HOk P w (upd H x o') h':=fun b u q=>by
 have nown:∀ c y,H c=some (.own y)→c≠x:=fun c y r z=>by subst z;rw [r] at mu;exact mu
 have ntup:∀ c xs,H c=some (.tup xs)→c≠x:=fun c xs r z=>by subst z;rw [r] at mu;exact mu
 by_cases hb:b=x
 ·subst hb;rw [bf] at q;cases q;exact new
 ·rw [aL hb] at q
  by_cases hbe:b=e
  ·have q':H b=some (.own x):=by
    rcases he with z | z
    ·exact absurd (hbe.trans z) hb
    ·rw [hbe];exact z
   rw [q] at q';cases q'
   obtain ⟨v,hv⟩:=heo
   exact ⟨v,by rw [hbe];exact hv⟩
  ·refine (ok b u q).stay (fun c v hc r=>k c v ?_ r) (fun c r=>by rw [aL (nown c b r)];exact r) fun c xs r=>by rw [aL (ntup c xs r)];exact r
   rcases hc with rfl | hc
   ·exact hbe
   ·rintro rfl
    rcases he with z | z
    ·exact nown c b hc z
    ·rw [hc] at z;cases z;exact hb rfl
end
structure Un (fs ex:List Addr) (H H':Hp) (h h':Heap):Prop where
 keep:∀ b o,h.get? b=some o→H b=none→b∉fs→b∉ex→h'.get? b=some o
 slot:∀ b o,h.get? b=some o→H b=none→b∈fs→b∉ex→∃ sl,h'.get? b=some {o with slots:=sl}
 free:∀ b o,h.get? b=some o→H b=none→b∉ex→H' b=none
 there:∀ b o,h.get? b=some o→b∉ex→∃ o',h'.get? b=some o'
 tups:∀ b xs,H b=some (.tup xs)→H' b=some (.tup xs)
 frzs:∀ b o u,H b=some (.frz o u)→H' b=some (.frz o u)
 tbls:∀ b ps,H b=some (.tbl ps)→∃ more,H' b=some (.tbl (ps++more))
section
variable {fs fs' ex ex':List Addr} {H H1 H2:Hp} {h h1 h2 h':Heap} {a x e:Addr} {o:HO}
theorem Un.any (u:Un fs ex H H1 h h1) {b:Addr} {ob:Obj} (q:h.get? b=some ob) (n:H b=none) (hx:b∉ex):∃ sl,h1.get? b=some {ob with slots:=sl}:=by
 by_cases hb:b∈fs
 ·exact u.slot b ob q n hb hx
 ·exact ⟨ob.slots,u.keep b ob q n hb hx⟩
theorem Un.kept (k:∀ b u,h.get? b=some u→h'.get? b=some u):Un fs ex H H h h':=
 ⟨fun b ob q _ _ _=>k b ob q,fun b ob q _ _ _=>⟨ob.slots,k b ob q⟩,fun _ _ _ n _=>n,fun b ob q _=>⟨ob,k b ob q⟩,fun _ _ q=>q,fun _ _ _ q=>q,fun _ ps q=>⟨#[],by rw [q];simp⟩⟩
theorem Un.refl:Un fs ex H H h h:=Un.kept fun _ _ q=>q
theorem Un.laid (k:∀ b u,h.get? b=some u→h'.get? b=some u) (hp:h.objs.size≤a) (hn:H a=none):Un fs ex H (upd H a o) h h' where
 keep:=fun b u q _ _ _=>k b u q
 slot:=fun b u q _ _ _=>⟨u.slots,k b u q⟩
 free:=fun b u q n _=>by rw [aL (Nat.ne_of_lt (Nat.lt_of_lt_of_le (Heap.lt_size q) hp))];exact n
 there:=fun b u q _=>⟨u,k b u q⟩
 tups:=fun b xs q=>by rw [aL (ar q hn)];exact q
 frzs:=fun b u xs q=>by rw [aL (ar q hn)];exact q
 tbls:=fun b ps q=>⟨#[],by rw [aL (ar q hn),q];simp⟩
theorem Un.write (mu:Mut (H x)) (he:e=x∨H e=some (.own x)) (k:∀ b u,b≠e→h.get? b=some u→h'.get? b=some u) (heo:∃ u,h'.get? e=some u):Un fs ex H (upd H x o) h h':=by
 have hx:∀ b,H b=none→b≠x:=fun b n z=>by subst z;rw [n] at mu;exact mu
 have hb:∀ b,H b=none→b≠e:=fun b n z=>by
  subst z
  rcases he with r | r
  ·exact hx b n r
  ·rw [n] at r;cases r
 have hm:∀ b u,H b=some u→¬ Mut (some u)→b≠x:=fun b u q nm z=>by subst z;rw [q] at mu;exact nm mu
 refine ⟨fun b u q n _ _=>k b u (hb b n) q,fun b u q n _ _=>⟨u.slots,k b u (hb b n) q⟩,fun b u q n _=>by rw [aL (hx b n)];exact n,fun b u q _=>?_,
  fun b xs q=>by rw [aL (hm b _ q fun z=>z)];exact q,fun b u xs q=>by rw [aL (hm b _ q fun z=>z)];exact q,fun b ps q=>⟨#[],by rw [aL (hm b _ q fun z=>z),q];simp⟩⟩
 by_cases hbe:b=e
 ·subst hbe;exact heo
 ·exact ⟨u,k b u hbe q⟩
end
noncomputable def trk (h:Heap) (H:Hp):List Addr:=(List.range h.objs.size).filter fun a=>(H a).isSome
noncomputable def hidT (h:Heap) (H:Hp):Heap:=PySem.W.hideAll h (trk h H)
theorem HA (h:Heap) (H:Hp):(hidT h H).objs.size=h.objs.size:=PySem.W.hideAll_size _ _
theorem J6 {h:Heap} {H:Hp} {b:Addr} {o:Obj} (e:h.get? b=some o) (n:H b=none):(hidT h H).get? b=some o:=
 PySem.W.hideAll_get _ e fun hm=>by
  have q:(H b).isSome=true:=(List.mem_filter.mp hm).2
  rw [n] at q;simp at q
theorem Mi {h:Heap} {H:Hp} {b:Addr} {o:Obj} (e:(hidT h H).get? b=some o):h.get? b=some o∧H b=none:=by
 have e':h.get? b=some o:=PySem.W.of_hideAll (trk h H) e
 refine ⟨e',?_⟩
 cases q:H b with
 | none=>rfl
 | some x=>
   have hm:b∈trk h H:=List.mem_filter.mpr ⟨List.mem_range.mpr (Heap.lt_size e'),by simp [q]⟩
   have z:(hidT h H).get? b=none:=PySem.W.hideAll_none (trk h H) hm
   rw [z] at e;cases e
noncomputable def MW (g h:Heap) (L:Addr):List (Addr×Obj):=(List.range h.objs.size).filterMap fun a=>if a=L∨(g.get? a).isSome=true then none else (h.get? a).map fun o=>(a,o)
noncomputable def rest (g h:Heap) (L d:Addr):List (Addr×Obj):=(MW g h L).filter fun p=>decide (p.1≠d)
structure Mod (K:PySem.W.Frag) (mg:Str→Option Value) (base:Heap):Prop where
 kin:K.In base
 glob:base.Ns mainGlobals mg
 blt:∃ mb,base.Ns builtinsNs mb∧∀ x:Str,x≠"__name__"→mb x=bootBuiltins x
 nolimit:base.NoLimit
structure Cx where
 prog:Program
 w:World
 K:PySem.W.Frag
 mg:Str→Option Value
 base:Heap
 A:Around
 N:List Str
 s₀:Shared
 H₀:Hp
 env:Env
 outer:List Env
 stack:List Env
 ex:List Addr
 fn:Str→Bool
 calm:Bool
 pn:List (Addr×Obj)
 xe:Value→Shared→Prop
noncomputable def frs (l:List Env):List Addr:=l.filterMap (·.frame)
noncomputable abbrev Cx.fs (X:Cx):List Addr:=frs X.outer
noncomputable def Vis (sc:Scope) (x:Str):Prop:=sc.names.lookup x=some .local∨sc.names.lookup x=some .cell∨sc.names.lookup x=some .free
noncomputable def Loc (sc:Scope) (x:Str):Prop:=sc.names.lookup x=some .local∨sc.names.lookup x=some .cell
noncomputable def Look (env:Env) (h:Heap) (m:Str→Option Value) (x:Str) (u:Value):Prop:=
 (env.kindOf x=some .local∧m x=some u)∨((env.kindOf x=some .cell∨env.kindOf x=some .free)∧∃ c,env.cells.lookup x=some c∧h.IsCell c (some u))
structure Cx.Ok (X:Cx):Prop where
 mod:Mod X.K X.mg X.base
 kind:X.env.scope.kind= .function
 glob:X.env.globals=mainGlobals
 blt:X.env.builtins=builtinsNs
 above:X.s₀.heap.objs.size≤X.env.locals
 inj:∀ x y c,X.env.cells.lookup x=some c→X.env.cells.lookup y=some c→x=y
 has:∀ x,(X.env.kindOf x=some .cell∨X.env.kindOf x=some .free)→∃ c,X.env.cells.lookup x=some c
 cab:∀ x c,X.fn x=true→X.env.cells.lookup x=some c→X.s₀.heap.objs.size≤c
 hd:X.calm=true→X.A.handled=none
 frames:X.A.frames=some X.stack
 stk:X.stack=X.outer∨(X.stack=X.env::X.outer∧X.env.frame=some X.env.locals)
 exf:∀ b∈X.ex,b≠X.env.locals∧∀ x c,X.env.cells.lookup x=some c→c≠b
 bs:∀ b o,X.base.get? b=some o→X.s₀.heap.get? b=some o∧X.H₀ b=none
 bsz:X.base.objs.size≤X.s₀.heap.objs.size
 noex:∀ b o,X.base.get? b=some o→b∉X.ex
 exfs:∀ b∈X.ex,b∉X.fs
 funs:X.s₀.heap.FunFrames X.base X.outer
 frf:∀ b∈X.fs,X.H₀ b=none
structure Inv (X:Cx) (pins:List (Addr×Obj)) (σ:List (Option V)) (H:Hp) (s:Shared):Prop where
 ok:X.Ok
 os:s.os=X.s₀.os
 bare:AllBare s.gens
 base:Un X.fs X.ex X.H₀ H X.s₀.heap s.heap
 loc:∃ m,s.heap.Ns X.env.locals m∧∀ (i:Nat) (x:Str) (v:V),X.N[i]? =some x→σ[i]? =some (some v)→Vis X.env.scope x→∃ u,RelV v u∧Look X.env s.heap m x u
 cell:∀ x c,X.env.cells.lookup x=some c→∃ v,s.heap.IsCell c v
 free:H X.env.locals=none
 freeC:∀ x c,X.env.cells.lookup x=some c→H c=none
 pin:∀ p∈X.pn++pins,s.heap.get? p.1=some p.2∧H p.1=none∧p.1≠X.env.locals∧p.1∉X.fs∧∀ v,p.2.data≠.cell v
 hok:HOk X.prog X.w H s.heap
 len:σ.length=X.N.length
section
variable {X:Cx} {pins:List (Addr×Obj)} {σ:List (Option V)} {H H':Hp} {s:Shared} {h':Heap}
theorem Cx.Ok.nofr (ok:X.Ok) {b:Addr} {o:Obj} (e:X.base.get? b=some o):b∉X.fs:=fun hb=>by
 have:=(ok.funs.mem hb).1
 rw [e] at this;cases this
theorem Inv.bs (I:Inv X pins σ H s):∀ b o,X.base.get? b=some o→s.heap.get? b=some o∧H b=none:=fun b o e=>
 ⟨I.base.keep b o (I.ok.bs b o e).1 (I.ok.bs b o e).2 (I.ok.nofr e) (I.ok.noex b o e),I.base.free b o (I.ok.bs b o e).1 (I.ok.bs b o e).2 (I.ok.noex b o e)⟩
theorem Inv.bk (I:Inv X pins σ H s):∀ b o,X.base.get? b=some o→s.heap.get? b=some o:=fun b o e=>(I.bs b o e).1
theorem Inv.mod (I:Inv X pins σ H s):Mod X.K X.mg X.base:=I.ok.mod
theorem Inv.kIn (I:Inv X pins σ H s):X.K.In s.heap:=I.ok.mod.kin.keeps I.bk
theorem Inv.lt (I:Inv X pins σ H s):X.env.locals < s.heap.objs.size:=let ⟨_,hn,_⟩:=I.loc;hn.lt
theorem Inv.sz (I:Inv X pins σ H s):X.s₀.heap.objs.size≤s.heap.objs.size:=Nat.le_trans I.ok.above (Nat.le_of_lt I.lt)
theorem Inv.nofs (I:Inv X pins σ H s) {a:Addr} (h:s.heap.objs.size≤a):a∉X.fs:=fun hb=>by
 obtain ⟨_,o,ho,_⟩:=I.ok.funs.mem hb
 exact absurd (Nat.lt_of_lt_of_le (Heap.lt_size ho) (Nat.le_trans I.sz h)) (Nat.lt_irrefl _)
theorem Inv.cne (I:Inv X pins σ H s):∀ x c,X.env.cells.lookup x=some c→c≠X.env.locals:=fun x c e z=>by
 obtain ⟨v,o,ho,hd⟩:=I.cell x c e
 obtain ⟨m,⟨o',es,ep,ho',hd',_⟩,_⟩:=I.loc
 rw [z,ho'] at ho;cases ho;rw [hd'] at hd;cases hd
theorem Inv.funs (I:Inv X pins σ H s):s.heap.FunFrames X.base X.outer:=by
 have all:∀ (l:List Env),(∀ b∈frs l,b∈X.fs)→X.s₀.heap.FunFrames X.base l→s.heap.FunFrames X.base l:=by
  intro l
  induction l with
  | nil=>intro _ _;trivial
  | cons env r ih=>
    intro hs hl
    obtain ⟨hk,⟨L,o,hf,hn,ho,hd⟩,hr⟩:=hl
    have hL:L∈X.fs:=hs L (by unfold frs;rw [List.filterMap_cons,hf];exact List.mem_cons_self)
    obtain ⟨sl,e⟩:=I.base.slot L o ho (I.ok.frf L hL) hL fun z=>I.ok.exfs L z hL
    exact ⟨hk,⟨L,_,hf,hn,e,hd⟩,ih (fun b hb=>hs b (by unfold frs;rw [List.filterMap_cons,hf];exact List.mem_cons_of_mem _ hb)) hr⟩
 exact all X.outer (fun _ hb=>hb) I.ok.funs
theorem Inv.stack (I:Inv X pins σ H s):s.heap.FunFrames X.base X.stack:=by
 rcases I.ok.stk with e | ⟨e,hf⟩
 ·rw [e];exact I.funs
 ·rw [e]
  obtain ⟨m,hn,_⟩:=I.loc
  refine .cons (by rw [I.ok.kind];decide) hf hn ?_ I.funs
  exact Heap.get?_none_of_le (Nat.le_trans I.ok.bsz I.ok.above)
theorem Inv.stkSub (I:Inv X pins σ H s):∀ b∈frs X.stack,b∈X.env.locals::X.fs:=fun b hb=>by
 rcases I.ok.stk with e | ⟨e,hf⟩
 ·rw [e] at hb;exact List.mem_cons_of_mem _ hb
 ·rw [e] at hb
  unfold frs at hb
  rw [List.filterMap_cons,hf] at hb
  exact hb
theorem Inv.stkFree (I:Inv X pins σ H s):∀ b∈frs X.stack,H b=none:=fun b hb=>by
 rcases List.mem_cons.mp (I.stkSub b hb) with e | hb
 ·rw [e];exact I.free
 ·obtain ⟨_,o,ho,_⟩:=I.ok.funs.mem hb
  exact I.base.free b o ho (I.ok.frf b hb) fun z=>I.ok.exfs b z hb
theorem Inv.step {g':Array GenState} {t':Nat} {d':Drawn} {ch:List Addr} (I:Inv X pins σ H s)
  (hch:∀ b∈ch,(b∈X.ex∨X.s₀.heap.objs.size≤b)∧b≠X.env.locals∧(∀ x c,X.env.cells.lookup x=some c→c≠b)∧∀ p∈X.pn++pins,p.1≠b)
  (keep:∀ b o,b≠X.env.locals→b∉X.fs→b∉ch→s.heap.get? b=some o→H b=none→h'.get? b=some o)
  (slot:∀ b o,b≠X.env.locals→b∈X.fs→b∉ch→s.heap.get? b=some o→H b=none→∃ sl,h'.get? b=some {o with slots:=sl}) (free:∀ b o,b∉ch→s.heap.get? b=some o→H b=none→H' b=none)
  (there:∀ b o,b∉ch→s.heap.get? b=some o→∃ o',h'.get? b=some o')
  (tups:∀ b xs,H b=some (.tup xs)→H' b=some (.tup xs)) (frzs:∀ b o u,H b=some (.frz o u)→H' b=some (.frz o u)) (tbls:∀ b ps,H b=some (.tbl ps)→∃ more,H' b=some (.tbl (ps++more)))
  (ns:∀ m,s.heap.Ns X.env.locals m→h'.Ns X.env.locals m) (hok:HOk X.prog X.w H' h') (hg:AllBare g'):
  Inv X pins σ H' {s with heap:=h',gens:=g',drawn:=d',toks:=t'}:=by
 have neL:∀ b o,X.s₀.heap.get? b=some o→b≠X.env.locals:=fun b o e=>Nat.ne_of_lt (Nat.lt_of_lt_of_le (Heap.lt_size e) I.ok.above)
 have neC:∀ b o,X.s₀.heap.get? b=some o→b∉X.ex→b∉ch:=fun b o e hx hb=>by
  rcases (hch b hb).1 with z | z
  ·exact hx z
  ·exact absurd (Nat.lt_of_lt_of_le (Heap.lt_size e) z) (Nat.lt_irrefl _)
 have cellK:∀ x c,X.env.cells.lookup x=some c→∀ v,s.heap.IsCell c v→h'.IsCell c v:=fun x c e v ⟨o,ho,hd⟩=>by
  have nch:c∉ch:=fun z=>(hch c z).2.2.1 x c e rfl
  by_cases hc:c∈X.fs
  ·obtain ⟨sl,q⟩:=slot c o (I.cne x c e) hc nch ho (I.freeC x c e)
   exact ⟨_,q,hd⟩
  ·exact ⟨o,keep c o (I.cne x c e) hc nch ho (I.freeC x c e),hd⟩
 refine ⟨I.ok,I.os,hg,⟨fun b o e n hb hx=>?_,fun b o e n hb hx=>?_,fun b o e n hx=>?_,fun b o e hx=>?_,fun b xs e=>tups b xs (I.base.tups b xs e),fun b o xs e=>frzs b o xs (I.base.frzs b o xs e),fun b ps e=>?_⟩,?_,fun x c e=>?_,?_,fun x c e=>?_,fun p hp=>?_,hok,I.len⟩
 ·exact keep b o (neL b o e) hb (neC b o e hx) (I.base.keep b o e n hb hx) (I.base.free b o e n hx)
 ·obtain ⟨sl,e1⟩:=I.base.slot b o e n hb hx
  obtain ⟨sl',e2⟩:=slot b _ (neL b o e) hb (neC b o e hx) e1 (I.base.free b o e n hx)
  exact ⟨sl',e2⟩
 ·obtain ⟨o',e1⟩:=I.base.there b o e hx
  exact free b o' (neC b o e hx) e1 (I.base.free b o e n hx)
 ·obtain ⟨o',e1⟩:=I.base.there b o e hx
  exact there b o' (neC b o e hx) e1
 ·obtain ⟨m1,e1⟩:=I.base.tbls b ps e
  obtain ⟨m2,e2⟩:=tbls b _ e1
  exact ⟨m1++m2,by rw [e2,Array.append_assoc]⟩
 ·obtain ⟨m,hn,hl⟩:=I.loc
  refine ⟨m,ns m hn,fun i x v e1 e2 e3=>?_⟩
  obtain ⟨u,r,l⟩:=hl i x v e1 e2 e3
  refine ⟨u,r,?_⟩
  rcases l with l | ⟨k,c,e,z⟩
  ·exact .inl l
  ·exact .inr ⟨k,c,e,cellK x c e _ z⟩
 ·obtain ⟨v,z⟩:=I.cell x c e
  exact ⟨v,cellK x c e v z⟩
 ·obtain ⟨m,⟨o,_,_,ho,_⟩,_⟩:=I.loc
  exact free _ o (fun z=>(hch _ z).2.1 rfl) ho I.free
 ·obtain ⟨v,o,ho,hd⟩:=I.cell x c e
  exact free c o (fun z=>(hch c z).2.2.1 x c e rfl) ho (I.freeC x c e)
 ·obtain ⟨e,n,ne,nf,d⟩:=I.pin p hp
  have nch:p.1∉ch:=fun z=>(hch p.1 z).2.2.2 p hp rfl
  exact ⟨keep p.1 p.2 ne nf nch e n,free p.1 p.2 nch e n,ne,nf,d⟩
theorem Inv.un {t':Nat} (I:Inv X pins σ H s) (u:Un X.fs [] H H' s.heap h') (hok:HOk X.prog X.w H' h'):Inv X pins σ H' {s with heap:=h',toks:=t'}:=by
 obtain ⟨m,⟨o,es,ep,ho,r⟩,_⟩:=id I.loc
 obtain ⟨sl,hL⟩:=u.any ho I.free (by simp)
 exact I.step (g':=s.gens) (d':=s.drawn) (ch:=[]) (fun _ z=>nomatch z) (fun b o _ hb _ e n=>u.keep b o e n hb (by simp)) (fun b o _ hb _ e n=>u.slot b o e n hb (by simp)) (fun b o _ e n=>u.free b o e n (by simp)) (fun b o _ e=>u.there b o e (by simp)) u.tups u.frzs u.tbls (fun m' hm=>by
  obtain ⟨o',es',ep',ho',r'⟩:=hm
  rw [ho] at ho';cases ho'
  exact ⟨_,es',ep',hL,r'⟩) hok I.bare
theorem Inv.call {g':Array GenState} {t':Nat} {d':Drawn} {ch:List Addr} (I:Inv X pins σ H s) (u:Un (frs X.stack) ch H H' s.heap h') (hok:HOk X.prog X.w H' h') (hg:AllBare g')
  (hch:∀ b∈ch,(b∈X.ex∨X.s₀.heap.objs.size≤b)∧b≠X.env.locals∧(∀ x c,X.env.cells.lookup x=some c→c≠b)∧∀ p∈X.pn++pins,p.1≠b):
  Inv X pins σ H' {s with heap:=h',gens:=g',drawn:=d',toks:=t'}:=by
 obtain ⟨m,⟨o,es,ep,ho,r⟩,_⟩:=id I.loc
 obtain ⟨sl,hL⟩:=u.any ho I.free fun z=>(hch _ z).2.1 rfl
 exact I.step (ch:=ch) hch (fun b o hL hb hc e n=>u.keep b o e n (fun z=>(List.mem_cons.mp (I.stkSub b z)).elim hL hb) hc) (fun b o _ _ hc e n=>u.any e n hc) (fun b o hc e n=>u.free b o e n hc) (fun b o hc e=>u.there b o e hc) u.tups u.frzs u.tbls (fun m' hm=>by
  obtain ⟨o',es',ep',ho',r'⟩:=hm
  rw [ho] at ho';cases ho'
  exact ⟨_,es',ep',hL,r'⟩) hok hg
theorem Inv.turned {t':Nat} {it:Addr} (I:Inv X pins σ H s) (k:∀ b o,b≠it→s.heap.get? b=some o→h'.get? b=some o) (hn:H it=none) (hL:it≠X.env.locals)
  (h1:it∈X.ex∨X.s₀.heap.objs.size≤it) (h2:∀ x c,X.env.cells.lookup x=some c→c≠it) (h3:∀ p∈X.pn++pins,p.1≠it):Inv X pins σ H {s with heap:=h',toks:=t'}:=by
 have nit:∀ b u,H b=some u→b≠it:=fun b u e z=>by rw [z,hn] at e;cases e
 refine I.step (g':=s.gens) (d':=s.drawn) (ch:=[it]) (fun b hb=>?_) (fun b o _ _ hc e _=>k b o (fun z=>hc (by simp [z])) e) (fun b o _ _ hc e _=>⟨o.slots,k b o (fun z=>hc (by simp [z])) e⟩) (fun _ _ _ _ n=>n)
  (fun b o hc e=>⟨o,k b o (fun z=>hc (by simp [z])) e⟩) (fun _ _ e=>e) (fun _ _ _ e=>e) (fun b ps e=>⟨#[],by rw [e];simp⟩) (fun m hm=>?_) (fun b u e=>?_) I.bare
 ·have e:b=it:=by simpa using hb
  subst e
  exact ⟨h1,hL,h2,h3⟩
 ·obtain ⟨o,es,ep,ho,r⟩:=hm
  exact ⟨o,es,ep,k _ o (Ne.symm hL) ho,r⟩
 ·refine (I.hok b u e).stay (fun c v hc q=>k c v ?_ q) (fun _ q=>q) fun _ _ q=>q
  rcases hc with z | z
  ·rw [z];exact nit b u e
  ·exact nit c _ z
theorem Inv.tok (I:Inv X pins σ H s) (t:Nat):Inv X pins σ H {s with toks:=t}:=I.un (h':=s.heap) (t':=t) Un.refl I.hok
theorem Inv.kept {t':Nat} (I:Inv X pins σ H s) (k:∀ b u,s.heap.get? b=some u→h'.get? b=some u):Inv X pins σ H {s with heap:=h',toks:=t'}:=I.un (Un.kept k) (I.hok.kept k)
theorem Inv.laid {a:Addr} {o:HO} {t':Nat} (I:Inv X pins σ H s) (k:∀ b u,s.heap.get? b=some u→h'.get? b=some u) (hp:s.heap.objs.size≤a) (new:eB X.prog X.w (upd H a o) h' a o):
  Inv X pins σ (upd H a o) {s with heap:=h',toks:=t'}:=I.un (Un.laid k hp (I.hok.fresh hp)) (I.hok.laid k hp new)
theorem Inv.write {x e:Addr} {o:HO} {t':Nat} (I:Inv X pins σ H s) (mu:Mut (H x)) (he:e=x∨H e=some (.own x)) (k:∀ b u,b≠e→s.heap.get? b=some u→h'.get? b=some u) (heo:∃ u,h'.get? e=some u)
  (new:eB X.prog X.w (upd H x o) h' x o):Inv X pins σ (upd H x o) {s with heap:=h',toks:=t'}:=I.un (Un.write mu he k heo) (I.hok.write mu he k heo new)
theorem Inv.weak {σ':List (Option V)} (I:Inv X pins σ H s) (hl:σ'.length=σ.length) (w:∀ (i:Nat) v,σ'[i]? =some (some v)→σ[i]? =some (some v)):Inv X pins σ' H s:=
 ⟨I.ok,I.os,I.bare,I.base,let ⟨m,hn,hl'⟩:=I.loc;⟨m,hn,fun i x v e1 e2 e3=>hl' i x v e1 (w i v e2) e3⟩,I.cell,I.free,I.freeC,I.pin,I.hok,hl.trans I.len⟩
theorem Inv.pins_of {pins':List (Addr×Obj)} (I:Inv X pins σ H s) (h:∀ p∈pins',s.heap.get? p.1=some p.2∧H p.1=none∧p.1≠X.env.locals∧p.1∉X.fs∧∀ v,p.2.data≠.cell v):Inv X pins' σ H s:=
 ⟨I.ok,I.os,I.bare,I.base,I.loc,I.cell,I.free,I.freeC,fun p hp=>(List.mem_append.mp hp).elim (fun z=>I.pin p (List.mem_append_left _ z)) (h p),I.hok,I.len⟩
theorem CS {N:List Str} (hN:N.Nodup) {i j:Nat} {x:Str} (a:N[i]? =some x) (b:N[j]? =some x):i=j:=by
 obtain ⟨h1,e1⟩:=List.getElem?_eq_some_iff.mp a
 obtain ⟨h2,e2⟩:=List.getElem?_eq_some_iff.mp b
 exact (List.getElem_inj hN).mp (e1.trans e2.symm)
theorem za {M:Model} {A:Around} {E:Value→Shared→Prop} {i:Nat} {x:Str} {v:V} {u:Value} {Q:Unit→Shared→Prop} (I:Inv X pins σ H s) (hN:X.N.Nodup) (hi:X.N[i]? =some x) (hx:Loc X.env.scope x) (r:RelV v u)
  (h:∀ s',Inv X pins (σ.set i (some v)) H s'→(∃ a,Heap.SameBut a s.heap s'.heap∧(a=X.env.locals∨X.env.cells.lookup x=some a))→Q () s') (hf:X.fn x=true∨X.env.scope.names.lookup x=some .local:=by first | exact .inl rfl | exact .inr rfl | assumption):wpAny M A (storeName X.env x u) Q E s:=by
 obtain ⟨m,hn,hl⟩:=id I.loc
 have hcls:(X.env.scope.kind == .class||(X.env.scope.kind == .module&&X.env.locals != X.env.globals))=false:=by rw [I.ok.kind];rfl
 have hiσ:i < σ.length:=by rw [I.len];exact (List.getElem?_eq_some_iff.mp hi).1
 have cne:=I.cne
 have tracked:∀ {a:Addr} {h':Heap},(∃ o,s.heap.get? a=some o∧H a=none)→Heap.SameBut a s.heap h'→HOk X.prog X.w H h':=fun {a h'} ha hs b ob e=>by
  obtain ⟨_,_,hfree⟩:=ha
  refine (I.hok b ob e).stay (fun c w' hc q=>(hs.2 c ?_).trans q) (fun _ q=>q) fun _ _ q=>q
  rintro rfl
  rcases hc with rfl | hc
  ·rw [hfree] at e;cases e
  ·rw [hfree] at hc;cases hc
 rcases hx with hk | hk
 ·refine wpAny_storeName_local hk hn (fun h' hn' hs=>?_) hcls
  obtain ⟨oL,_,_,hoL,_⟩:=id hn
  refine h _ ⟨I.ok,I.os,I.bare,⟨fun b o e n hb hx=>?_,fun b o e n hb hx=>?_,I.base.free,fun b o e hx=>?_,I.base.tups,I.base.frzs,I.base.tbls⟩,⟨_,hn',fun j y v' e1 e2 e3=>?_⟩,fun y c e=>?_,I.free,I.freeC,fun p hp=>?_,tracked ⟨oL,hoL,I.free⟩ hs,by simpa using I.len⟩ ⟨_,hs,.inl rfl⟩
  ·exact (hs.2 b (Nat.ne_of_lt (Nat.lt_of_lt_of_le (Heap.lt_size e) I.ok.above))).trans (I.base.keep b o e n hb hx)
  ·obtain ⟨sl,e1⟩:=I.base.slot b o e n hb hx
   exact ⟨sl,(hs.2 b (Nat.ne_of_lt (Nat.lt_of_lt_of_le (Heap.lt_size e) I.ok.above))).trans e1⟩
  ·obtain ⟨o',e1⟩:=I.base.there b o e hx
   exact ⟨o',(hs.2 b (Nat.ne_of_lt (Nat.lt_of_lt_of_le (Heap.lt_size e) I.ok.above))).trans e1⟩
  ·by_cases hj:j=i
   ·subst hj
    rw [hi] at e1;cases e1
    rw [List.getElem?_set_self hiσ] at e2
    cases e2
    exact ⟨u,r,.inl ⟨hk,by simp⟩⟩
   ·rw [List.getElem?_set_ne (Ne.symm hj)] at e2
    obtain ⟨u',r',q⟩:=hl j y v' e1 e2 e3
    refine ⟨u',r',?_⟩
    rcases q with ⟨k,e⟩ | ⟨k,c,e,z⟩
    ·refine .inl ⟨k,?_⟩
     have:y≠x:=fun e=>hj (CS hN e1 (e ▸ hi))
     simp [this,e]
    ·exact .inr ⟨k,c,e,z.sameBut hs (cne y c e)⟩
  ·obtain ⟨w',z⟩:=I.cell y c e
   exact ⟨w',z.sameBut hs (cne y c e)⟩
  ·obtain ⟨e,n,ne,nf,d⟩:=I.pin p hp
   exact ⟨(hs.2 p.1 ne).trans e,n,ne,nf,d⟩
 ·have hfn:X.fn x=true:=by
   rcases hf with z | z
   ·exact z
   ·rw [z] at hk;cases hk
  obtain ⟨c,hc⟩:=I.ok.has x (.inl hk)
  obtain ⟨w',z⟩:=I.cell x c hc
  refine wpAny_storeName_cell I.ok.kind hk hc z (fun h' hc' hs=>?_)
  obtain ⟨oc,hoc,hocd⟩:=id z
  refine h {s with heap:=h'} ⟨I.ok,I.os,I.bare,⟨fun b o e n hb hx=>?_,fun b o e n hb hx=>?_,I.base.free,fun b o e hx=>?_,I.base.tups,I.base.frzs,I.base.tbls⟩,⟨m,hn.sameBut hs (Ne.symm (cne x c hc)),fun j y v' e1 e2 e3=>?_⟩,fun y c' e=>?_,I.free,I.freeC,fun p hp=>?_,tracked ⟨oc,hoc,I.freeC x c hc⟩ hs,by simpa using I.len⟩ ⟨c,hs,.inr hc⟩
  ·exact (hs.2 b (Nat.ne_of_lt (Nat.lt_of_lt_of_le (Heap.lt_size e) (I.ok.cab x c hfn hc)))).trans (I.base.keep b o e n hb hx)
  ·obtain ⟨sl,e1⟩:=I.base.slot b o e n hb hx
   exact ⟨sl,(hs.2 b (Nat.ne_of_lt (Nat.lt_of_lt_of_le (Heap.lt_size e) (I.ok.cab x c hfn hc)))).trans e1⟩
  ·obtain ⟨o',e1⟩:=I.base.there b o e hx
   exact ⟨o',(hs.2 b (Nat.ne_of_lt (Nat.lt_of_lt_of_le (Heap.lt_size e) (I.ok.cab x c hfn hc)))).trans e1⟩
  ·by_cases hj:j=i
   ·subst hj
    rw [hi] at e1;cases e1
    rw [List.getElem?_set_self hiσ] at e2
    cases e2
    exact ⟨u,r,.inr ⟨.inl hk,c,hc,hc'⟩⟩
   ·rw [List.getElem?_set_ne (Ne.symm hj)] at e2
    obtain ⟨u',r',q⟩:=hl j y v' e1 e2 e3
    refine ⟨u',r',?_⟩
    rcases q with q | ⟨k,c',e,z'⟩
    ·exact .inl q
    ·refine .inr ⟨k,c',e,z'.sameBut hs ?_⟩
     rintro rfl
     exact hj (CS hN e1 (I.ok.inj _ _ _ e hc ▸ hi))
  ·by_cases hcc:c'=c
   ·subst hcc;exact ⟨_,hc'⟩
   ·obtain ⟨w2,z2⟩:=I.cell y c' e
    exact ⟨w2,z2.sameBut hs hcc⟩
  ·obtain ⟨e,n,ne,nf,d⟩:=I.pin p hp
   refine ⟨(hs.2 p.1 ?_).trans e,n,ne,nf,d⟩
   intro q
   rw [q,hoc] at e
   have q':oc=p.2:=Option.some.inj e
   exact d w' (by rw [← q'];exact hocd)
theorem Cz {M:Model} {A:Around} {E:Value→Shared→Prop} {i:Nat} {x:Str} {v:V} {u:Value} {Q:Unit→Shared→Prop} (I:Inv X pins σ H s) (hN:X.N.Nodup) (hi:X.N[i]? =some x) (hx:Loc X.env.scope x) (r:RelV v u)
  (h:∀ s',Inv X pins (σ.set i (some v)) H s'→Q () s') (hf:X.fn x=true∨X.env.scope.names.lookup x=some .local:=by first | exact .inl rfl | exact .inr rfl | assumption):wpAny M A (storeName X.env x u) Q E s:=
 za I hN hi hx r (fun s' I' _=>h s' I') hf
theorem Inv.call' {s':Shared} {ch:List Addr} (I:Inv X pins σ H s) (ho:s'.os=s.os) (u:Un (frs X.stack) ch H H' s.heap s'.heap) (hok:HOk X.prog X.w H' s'.heap) (hg:AllBare s'.gens)
  (hch:∀ b∈ch,(b∈X.ex∨X.s₀.heap.objs.size≤b)∧b≠X.env.locals∧(∀ x c,X.env.cells.lookup x=some c→c≠b)∧∀ p∈X.pn++pins,p.1≠b):Inv X pins σ H' s':=by
 obtain ⟨h',g',d',t',o'⟩:=s'
 have e:o'=s.os:=ho
 subst e
 exact I.call (g':=g') (t':=t') (d':=d') u hok hg hch
end
noncomputable abbrev XK:=Value→Option Addr→Hp→Prop
noncomputable abbrev St:=List (Option V)
noncomputable abbrev VK:=V→Hp→Prop
noncomputable abbrev TE:=St→Hp→VK→Prop
noncomputable abbrev TT:=St→Hp→(Bool→Hp→Prop)→Prop
noncomputable abbrev TA:=St→Hp→(List V→Hp→Prop)→Prop
structure Ends where
 nx:St→Hp→Prop
 rt:VK
 bk:St→Hp→Prop:=fun _ _=>False
 ct:St→Hp→Prop:=fun _ _=>False
noncomputable abbrev TS:=Ends→St→Hp→Prop
noncomputable def EP (X:Cx) (pins:List (Addr×Obj)) (σ:St) (Q:VK) (u:Value) (s':Shared):Prop:=∃ v H',Inv X pins σ H' s'∧RelV v u∧Q v H'
noncomputable def TP (X:Cx) (pins:List (Addr×Obj)) (σ:St) (Q:Bool→Hp→Prop) (b:Bool) (s':Shared):Prop:=∃ H',Inv X pins σ H' s'∧Q b H'
noncomputable def AP (X:Cx) (pins:List (Addr×Obj)) (σ:St) (Q:List V→Hp→Prop) (us:List Value) (s':Shared):Prop:=∃ vs H',Inv X pins σ H' s'∧Vals vs us∧Q vs H'
noncomputable def SP (X:Cx) (pins:List (Addr×Obj)) (D:Ends) (f:Flow) (s':Shared):Prop:=
 match f with
 | .next=>∃ σ' H',Inv X pins σ' H' s'∧D.nx σ' H'
 | .brk=>∃ σ' H',Inv X pins σ' H' s'∧D.bk σ' H'
 | .cont=>∃ σ' H',Inv X pins σ' H' s'∧D.ct σ' H'
 | .ret u=>∃ v σ' H',Inv X pins σ' H' s'∧RelV v u∧D.rt v H'
noncomputable def PE (X:Cx) (e:Expr) (t:TE):Prop:=
 ∀ (pins:List (Addr×Obj)) (s:Shared) (σ:St) (H:Hp) (Q:VK),Inv X pins σ H s→t σ H Q→wpAny (model X.prog X.w) X.A (eval e X.env) (EP X pins σ Q) X.xe s
noncomputable def PT (X:Cx) (e:Expr) (t:TT):Prop:=
 ∀ (pins:List (Addr×Obj)) (s:Shared) (σ:St) (H:Hp) (Q:Bool→Hp→Prop),Inv X pins σ H s→t σ H Q→wpAny (model X.prog X.w) X.A (isTrue e X.env (eval e X.env)) (TP X pins σ Q) X.xe s
noncomputable def PW (X:Cx) (e:Expr) (t:TT):Prop:=
 ∀ (whole:Sem Value) (pins:List (Addr×Obj)) (s:Shared) (σ:St) (H:Hp) (Q:Bool→Hp→Prop),Inv X pins σ H s→t σ H Q→wpAny (model X.prog X.w) X.A (isTrue e X.env whole) (TP X pins σ Q) X.xe s
theorem PW.pt {X:Cx} {e:Expr} {t:TT} (h:PW X e t):PT X e t:=h _
noncomputable def PA (X:Cx) (es:List Expr) (t:TA):Prop:=
 ∀ (pos:Pos) (pins:List (Addr×Obj)) (s:Shared) (σ:St) (H:Hp) (Q:List V→Hp→Prop),Inv X pins σ H s→t σ H Q→wpAny (model X.prog X.w) X.A (spliced (backTo pos (starEach es X.env))) (AP X pins σ Q) X.xe s
noncomputable def PS (X:Cx) (st:Stmt) (t:TS):Prop:=
 ∀ (pins:List (Addr×Obj)) (s:Shared) (σ:St) (H:Hp) (D:Ends),Inv X pins σ H s→t D σ H→wpAny (model X.prog X.w) X.A (exec st X.env) (SP X pins D) X.xe s
noncomputable def PSs (X:Cx) (st:List Stmt) (t:TS):Prop:=
 ∀ (pins:List (Addr×Obj)) (s:Shared) (σ:St) (H:Hp) (D:Ends),Inv X pins σ H s→t D σ H→wpAny (model X.prog X.w) X.A (execs st X.env) (SP X pins D) X.xe s
theorem thn {α:Type} {t:Sem α} {Q Q':α→Shared→Prop} {M:Model} {A:Around} {E:Value→Shared→Prop} {s:Shared} (h:wpAny M A t Q E s) (hQ:∀ a s,Q a s→Q' a s):wpAny M A t Q' E s:=wpAny_mono h hQ fun _ _ x=>x
section
variable {X:Cx}
noncomputable def tVar (i:Nat):TE:=fun σ H Q=>∃ v,σ[i]? =some (some v)∧Q v H
noncomputable def tC (v:V):TE:=fun _ H Q=>Q v H
theorem Ol {i:Nat} {x:Str} {pos:Pos} (hN:X.N[i]? =some x) (hv:Vis X.env.scope x) (hd:(x == ("__debug__":Str))=false:=by decide) (hcd:(x == ("__classdict__":Str))=false:=by decide):PE X (.Name x pos) (tVar i):=by
 intro pins s σ H Q I h
 obtain ⟨v,e,h⟩:=h
 obtain ⟨m,hn,hl⟩:=I.loc
 obtain ⟨u,r,l⟩:=hl i x v hN e hv
 have fin:EP X pins σ Q u s:=⟨v,H,I,r,h⟩
 rcases l with ⟨hk,hm⟩ | ⟨hk,c,hc,hcell⟩
 ·exact wpAny_Name (wpAny_loadName_local I.ok.kind hk hn hm fin) hd
 ·rcases hk with hk | hk
  ·exact wpAny_Name (wpAny_loadName_cell I.ok.kind hk hc hcell fin) hd
  ·exact wpAny_Name (wpAny_loadName_free I.ok.kind hk hc hcell fin hcd) hd
theorem af {i j pos}:PE X (.Constant (.int i) j pos) (tC (.int i)):=fun _ _ _ H _ I h=>wpAny_Constant_int ⟨.int i,H,I.tok _,⟨_,rfl⟩,h⟩
theorem lj {b j pos}:PE X (.Constant (.bool b) j pos) (tC (.bl b)):=fun _ _ _ H _ I h=>Constant_bool ⟨.bl b,H,I,rfl,h⟩
theorem dG {x j pos}:PE X (.Constant (.str x) j pos) (tC (.str x)):=fun _ _ _ H _ I h=>Calls.Constant_str ⟨.str x,H,I.tok _,⟨_,rfl⟩,h⟩
noncomputable def Gl (X:Cx) (x:Str):Prop:=X.env.kindOf x=some .globalImplicit
theorem ui {E:Value→Shared→Prop} {pins:List (Addr×Obj)} {s:Shared} {σ:St} {H:Hp} {x:Str} {u:Value} {pos:Pos} {Q:Value→Shared→Prop} (I:Inv X pins σ H s) (hg:Gl X x) (hm:X.mg x=some u) (h:Q u s)
  (hd:(x == ("__debug__":Str))=false:=by decide):wpAny (model X.prog X.w) X.A (eval (.Name x pos) X.env) Q E s:=
 Calls.Name_function_global I.ok.kind hg (Calls.loadGlobal_global (by rw [I.ok.glob];exact I.mod.glob.keeps I.bk) hm h) hd
theorem ke {E:Value→Shared→Prop} {pins:List (Addr×Obj)} {s:Shared} {σ:St} {H:Hp} {x:Str} {u:Value} {pos:Pos} {Q:Value→Shared→Prop} (I:Inv X pins σ H s) (hg:Gl X x) (hm:X.mg x=none) (hv:bootBuiltins x=some u) (h:Q u s)
  (hn:x≠"__name__":=by decide) (hd:(x == ("__debug__":Str))=false:=by decide):wpAny (model X.prog X.w) X.A (eval (.Name x pos) X.env) Q E s:=by
 obtain ⟨mb,h1,h2⟩:=I.mod.blt
 exact Calls.Name_function_global I.ok.kind hg (Calls.loadGlobal_builtin (by rw [I.ok.glob];exact I.mod.glob.keeps I.bk) hm (by rw [I.ok.blt];exact h1.keeps I.bk) ((h2 x hn).trans hv) h) hd
theorem xV {x:Str} {v:V} {u:Value} {pos:Pos} (hg:Gl X x) (hm:X.mg x=some u) (r:RelV v u) (hd:(x == ("__debug__":Str))=false:=by decide):PE X (.Name x pos) (tC v):=
 fun _ _ _ H _ I h=>ui I hg hm ⟨v,H,I,r,h⟩ hd
theorem tH {x:Str} {v:V} {u:Value} {pos:Pos} (hg:Gl X x) (hm:X.mg x=none) (hv:bootBuiltins x=some u) (r:RelV v u) (hn:x≠"__name__":=by decide) (hd:(x == ("__debug__":Str))=false:=by decide):PE X (.Name x pos) (tC v):=
 fun _ _ _ H _ I h=>ke I hg hm hv ⟨v,H,I,r,h⟩ hn hd
variable {a b:Expr} {ta tb:TE} {pos:Pos}
noncomputable def PC (X:Cx) (op:CmpOp) (a b:Expr) (t:TE):Prop:=
 ∀ (pins:List (Addr×Obj)) (s:Shared) (σ:St) (H:Hp) (Q:VK),Inv X pins σ H s→t σ H Q→
  wpAny (model X.prog X.w) X.A (eval a X.env) (fun v s₁=>wpAny (model X.prog X.w) X.A (eval b X.env) (fun u s₂=>wpAny (model X.prog X.w) X.A (compareOp op v u) (EP X pins σ Q) X.xe s₂) X.xe s₁) X.xe s
noncomputable def tB (t:TE):TT:=fun σ H Q=>t σ H fun x H1=>∃ c,x= .bl c∧Q c H1
theorem Oo {op:CmpOp} {t:TE} (h:PC X op a b t) (h1:behindInMarks op b=false:=by first | exact nobehind _ (by decide) (by decide) | rfl):PE X (.Compare a [op] [b] pos) t:=fun pins s σ H Q I hw=>wpAny_Compare1 (h pins s σ H Q I hw) h1
theorem wI {op:CmpOp} {t:TE} (h:PC X op a b t) (h1:behindInMarks op b=false:=by first | exact nobehind _ (by decide) (by decide) | rfl):PT X (.Compare a [op] [b] pos) (tB t):=by
 intro pins s σ H Q I hw
 refine wpAny_isTrue_Compare1 (thn (h pins s σ H _ I hw) fun v s1 h1=>thn h1 fun u s2 h2=>thn h2 fun c s3 ⟨x,H1,I1,r1,q1⟩=>?_) h1
 obtain ⟨d,rfl,q⟩:=q1
 cases r1
 exact wpAny_truthy_bool ⟨H1,I1,q⟩
theorem eJ {e:Expr} {t:TE} (h:PE X e t) (he:∀ whole,isTrue e X.env whole=(do let v ← whole;standAt e.pos;holding [v] (truthy v)):=by intro _;rfl):PT X e (tB t):=by
 intro pins s σ H Q I hw
 refine isTrue_plain (thn (h pins s σ H _ I hw) fun v s1 ⟨x,H1,I1,r1,q1⟩=>?_) (he _)
 obtain ⟨d,rfl,q⟩:=q1
 cases r1
 exact wpAny_truthy_bool ⟨H1,I1,q⟩
variable {tA tB':TT} {rest:List Expr}
noncomputable def tAnd (t u:TT):TT:=fun σ H Q=>t σ H fun c H1=>if c=true then u σ H1 Q else Q false H1
noncomputable def tOr (t u:TT):TT:=fun σ H Q=>t σ H fun c H1=>if c=true then Q true H1 else u σ H1 Q
noncomputable def tNot (t:TT):TT:=fun σ H Q=>t σ H fun c H1=>Q (!c) H1
theorem j3 (ha:PT X a tA):PW X (.BoolOp .And [a] pos) tA:=by
 intro wh pins s σ H Q I h
 refine isTrue_and (thn (ha pins s σ H Q I h) fun c s1 e=>?_)
 cases c with
 | true=>exact isTrue_and_nil e
 | false=>exact e
theorem tj (ha:PT X a tA):PW X (.BoolOp .Or [a] pos) tA:=by
 intro wh pins s σ H Q I h
 refine isTrue_or (thn (ha pins s σ H Q I h) fun c s1 e=>?_)
 cases c with
 | false=>exact isTrue_or_nil e
 | true=>exact e
theorem qw (ha:PT X a tA) (hb:PW X (.BoolOp .And (b::rest) pos) tB'):PW X (.BoolOp .And (a::b::rest) pos) (tAnd tA tB'):=by
 intro wh pins s σ H Q I h
 refine isTrue_and (thn (ha pins s σ H _ I h) fun c s1 ⟨H1,I1,q1⟩=>?_)
 cases c with
 | true=>exact hb wh pins s1 σ H1 Q I1 q1
 | false=>exact ⟨H1,I1,q1⟩
theorem xJ (ha:PT X a tA) (hb:PW X (.BoolOp .Or (b::rest) pos) tB'):PW X (.BoolOp .Or (a::b::rest) pos) (tOr tA tB'):=by
 intro wh pins s σ H Q I h
 refine isTrue_or (thn (ha pins s σ H _ I h) fun c s1 ⟨H1,I1,q1⟩=>?_)
 cases c with
 | true=>exact ⟨H1,I1,q1⟩
 | false=>exact hb wh pins s1 σ H1 Q I1 q1
theorem gR (ha:PT X a tA):PT X (.UnaryOp .Not a pos) (tNot tA):=by
 intro pins s σ H Q I h
 exact isTrue_not (ha pins s σ H (fun c H1=>Q (!c) H1) I h)
noncomputable def Nx (ta tb:TE):TE:=fun σ H Q=>ta σ H fun x H1=>∃ c,x= .bl c∧if c=true then tb σ H1 Q else Q (.bl false) H1
noncomputable def Nk (ta:TE):TE:=fun σ H Q=>ta σ H fun x H1=>∃ c,x= .bl c∧Q (.bl (!c)) H1
theorem CL {op} {t:TE} (h:PE X a t):PE X (.BoolOp op [a] pos) t:=fun pins s σ H Q I hw=>BoolOp_one (h pins s σ H Q I hw)
theorem zm (ha:PE X a ta) (hb:PE X (.BoolOp .And (b::rest) pos) tb):PE X (.BoolOp .And (a::b::rest) pos) (Nx ta tb):=by
 intro pins s σ H Q I h
 refine BoolOp_and (thn (ha pins s σ H _ I h) fun v s1 ⟨x,H1,I1,r1,q1⟩=>?_)
 obtain ⟨c,rfl,q1⟩:=q1
 cases r1
 refine wpAny_truthy_bool ?_
 cases c with
 | true=>exact hb pins s1 σ H1 Q I1 q1
 | false=>exact ⟨.bl false,H1,I1,rfl,q1⟩
theorem Om (ha:PE X a ta):PE X (.UnaryOp .Not a pos) (Nk ta):=by
 intro pins s σ H Q I h
 refine UnaryOp_ (thn (ha pins s σ H _ I h) fun v s1 ⟨x,H1,I1,r1,q1⟩=>?_)
 obtain ⟨c,rfl,q1⟩:=q1
 cases r1
 exact not_of (wpAny_truthy_bool ⟨.bl (!c),H1,I1,rfl,q1⟩)
end
noncomputable def SqL (K:PySem.W.Frag) (H:Hp) (a:Addr) (xs:List V):Prop:=
 Rd H a (.lst xs)∨
  ∃ (o:Obj) (its:Array Value) (n:Nat),K.lookup a=some o∧o.cls= .type "list"∧o.dict=none∧o.data= .seq its n∧its.size≤sizeLine∧Vals xs its.toList
noncomputable def SqT (K:PySem.W.Frag) (H:Hp) (a:Addr) (xs:List V):Prop:=
 Rd H a (.tup xs)∨
  ∃ (o:Obj) (its:Array Value) (n:Nat),K.lookup a=some o∧o.cls= .type "tuple"∧o.data= .seq its n∧its.size≤sizeLine∧Vals xs its.toList
noncomputable def absV:Value→Option V
 | .none=>some .non
 | .bool b=>some (.bl b)
 | .int i _=>some (.int i)
 | .str x _=>some (.str x)
 | .bytes b _=>some (.byt b)
 | .float b _=>some (.flt b)
 | .ref a=>some (.ref a)
 | .type n=>some (.ty n)
 | _=>none
theorem RelV.abs {x:V} {u:Value} (r:RelV x u):absV u=some x:=by
 cases x with
 | non=>cases r;rfl
 | bl _=>cases r;rfl
 | int _=>obtain ⟨t,rfl⟩:=r;rfl
 | str _=>obtain ⟨t,rfl⟩:=r;rfl
 | byt _=>obtain ⟨t,rfl⟩:=r;rfl
 | flt _=>obtain ⟨t,rfl⟩:=r;rfl
 | ref _=>cases r;rfl
 | ty _=>cases r;rfl
theorem RelV.inj {x y:V} {u:Value} (r:RelV x u) (q:RelV y u):x=y:=Option.some.inj (r.abs.symm.trans q.abs)
theorem Vals.inj:∀ {xs ys:List V} {us:List Value},Vals xs us→Vals ys us→xs=ys
 | _,_,_,.nil,.nil=>rfl
 | _,_,_,.cons r t,.cons r' t'=>by rw [r.inj r',Vals.inj t t']
section
variable {X:Cx} {pins:List (Addr×Obj)} {σ:St} {H:Hp} {s:Shared} {a:Addr} {xs ys:List V}
theorem SqL.of {K:PySem.W.Frag} (h:H a=some (.lst xs)):SqL K H a xs:= .inl (.inl h)
theorem SqT.of {K:PySem.W.Frag} (h:H a=some (.tup xs)):SqT K H a xs:= .inl (.inl h)
theorem Inv.list (I:Inv X pins σ H s) (h:SqL X.K H a xs):∃ its:List Value,Vals xs its∧PlainL s.heap a its.toArray∧xs.length≤sizeLine:=by
 rcases h with h | ⟨o,its,n,hk,hc,hd,hs,hz,r⟩
 ·obtain ⟨z,its,n,r,e⟩:=h.ok I.hok
  exact ⟨its,r,⟨_,n,e,rfl,rfl,rfl⟩,z⟩
 ·refine ⟨its.toList,r,⟨o,n,I.kIn a o hk,hc,hd,by simpa using hs⟩,?_⟩
  have e:=r.length
  simp only [Array.length_toList] at e
  omega
theorem Inv.tuple (I:Inv X pins σ H s) (h:SqT X.K H a xs):∃ its:List Value,Vals xs its∧IsTup s.heap a its.toArray∧xs.length≤sizeLine:=by
 rcases h with h | ⟨o,its,n,hk,hc,hs,hz,r⟩
 ·obtain ⟨z,its,r,p⟩:=h.ok I.hok
  exact ⟨its,r,p,z⟩
 ·refine ⟨its.toList,r,⟨o,I.kIn a o hk,hc,n,by simpa using hs⟩,?_⟩
  have e:=r.length
  simp only [Array.length_toList] at e
  omega
theorem Inv.list_inj (I:Inv X pins σ H s) (h:SqL X.K H a xs) (h':SqL X.K H a ys):xs=ys:=by
 obtain ⟨its,r,⟨o,n,e,_,_,d⟩,_⟩:=I.list h
 obtain ⟨its',r',⟨o',n',e',_,_,d'⟩,_⟩:=I.list h'
 rw [e] at e';cases e'
 rw [d] at d'
 injection d' with d1 _
 have:its=its':=by simpa using congrArg Array.toList d1
 subst this
 exact r.inj r'
theorem Inv.tuple_inj (I:Inv X pins σ H s) (h:SqT X.K H a xs) (h':SqT X.K H a ys):xs=ys:=by
 obtain ⟨its,r,⟨o,e,_,n,d⟩,_⟩:=I.tuple h
 obtain ⟨its',r',⟨o',e',_,n',d'⟩,_⟩:=I.tuple h'
 rw [e] at e';cases e'
 rw [d] at d'
 injection d' with d1 _
 have:its=its':=by simpa using congrArg Array.toList d1
 subst this
 exact r.inj r'
end
noncomputable abbrev Cx.wish (X:Cx) (E:Value→Shared→Prop):Cx:={X with xe:=E}
noncomputable abbrev Cx.nox (X:Cx):Cx:=X.wish fun _ _=>False
theorem Cx.Ok.wish {X:Cx} (ok:X.Ok) (E:Value→Shared→Prop):(X.wish E).Ok:=
 ⟨ok.mod,ok.kind,ok.glob,ok.blt,ok.above,ok.inj,ok.has,ok.cab,ok.hd,ok.frames,ok.stk,ok.exf,ok.bs,ok.bsz,ok.noex,ok.exfs,ok.funs,ok.frf⟩
theorem Cx.Ok.unwish {X:Cx} {E:Value→Shared→Prop} (ok:(X.wish E).Ok):X.Ok:=
 ⟨ok.mod,ok.kind,ok.glob,ok.blt,ok.above,ok.inj,ok.has,ok.cab,ok.hd,ok.frames,ok.stk,ok.exf,ok.bs,ok.bsz,ok.noex,ok.exfs,ok.funs,ok.frf⟩
section
variable {X:Cx} {pins:List (Addr×Obj)} {σ:St} {H:Hp} {s:Shared} {E:Value→Shared→Prop}
theorem Inv.wish (I:Inv X pins σ H s) (E:Value→Shared→Prop):Inv (X.wish E) pins σ H s:=⟨I.ok.wish E,I.os,I.bare,I.base,I.loc,I.cell,I.free,I.freeC,I.pin,I.hok,I.len⟩
theorem Inv.unwish (I:Inv (X.wish E) pins σ H s):Inv X pins σ H s:=⟨I.ok.unwish,I.os,I.bare,I.base,I.loc,I.cell,I.free,I.freeC,I.pin,I.hok,I.len⟩
theorem SP.unwish {D:Ends} {f:Flow} {s':Shared} (h:SP (X.wish E) pins D f s'):SP X pins D f s':=by
 cases f with
 | next=>obtain ⟨σ',H',I,q⟩:=h;exact ⟨σ',H',I.unwish,q⟩
 | brk=>obtain ⟨σ',H',I,q⟩:=h;exact ⟨σ',H',I.unwish,q⟩
 | cont=>obtain ⟨σ',H',I,q⟩:=h;exact ⟨σ',H',I.unwish,q⟩
 | ret u=>obtain ⟨v,σ',H',I,r,q⟩:=h;exact ⟨v,σ',H',I.unwish,r,q⟩
theorem PSs.nox {st:List Stmt} {t:TS} (h:PSs X.nox st t):PSs X st t:=fun pins s σ H D I hw=>
 wpAny_mono (h pins s σ H D (I.wish _) hw) (fun _ _ q=>q.unwish) fun _ _ z=>False.elim z
end
section
variable {X:Cx} {st:Stmt} {rest:List Stmt} {t u:TS} {e:Expr} {te:TE} {pos:Pos}
noncomputable def Nl:TS:=fun D σ H=>D.nx σ H
noncomputable def tSeq (t u:TS):TS:=fun D σ H=>t {D with nx:=u D} σ H
theorem a7:PSs X [] Nl:=fun _ _ σ H _ I h=>wpAny_execs_nil ⟨σ,H,I,h⟩
theorem ae (h1:PS X st t) (h2:PSs X rest u):PSs X (st::rest) (tSeq t u):=by
 intro pins s σ H D I h
 refine wpAny_execs_cons (thn (h1 pins s σ H {D with nx:=u D} I h) fun f s1 q=>?_)
 cases f with
 | next=>
   obtain ⟨σ',H',I',q⟩:=q
   exact h2 pins s1 σ' H' D I' q
 | ret v=>exact q
 | brk=>exact q
 | cont=>exact q
theorem aj (h1:PS X st t):PSs X [st] t:=by
 intro pins s σ H D I h
 refine wpAny_execs_cons (thn (h1 pins s σ H D I h) fun f s1 q=>?_)
 cases f with
 | next=>exact wpAny_execs_nil q
 | ret v=>exact q
 | brk=>exact q
 | cont=>exact q
theorem Inv.quiet {pins:List (Addr×Obj)} {σ:St} {H:Hp} {s:Shared} (I:Inv X pins σ H s):interactive X.env=false:=by simp [interactive,I.ok.kind]
noncomputable def Nq (te:TE):TS:=fun D σ H=>te σ H fun _ H1=>D.nx σ H1
theorem bX (he:PE X e te) (hs:swapsWith e none pos.line X.env=pure false:=by rfl):PS X (.Expr e pos) (Nq te):=by
 intro pins s σ H D I h
 exact wpAny_Expr_any (thn (he pins s σ H _ I h) fun v s1 ⟨x,H1,I1,r1,q1⟩=>⟨σ,H1,I1,q1⟩) I.quiet hs
noncomputable def tRet (te:TE):TS:=fun D σ H=>te σ H D.rt
theorem aM (he:PE X e te):PS X (.Return (some e) pos) (tRet te):=by
 intro pins s σ H D I h
 exact wpAny_Return_some (thn (he pins s σ H _ I h) fun v s1 ⟨x,H1,I1,r1,q1⟩=>⟨x,σ,H1,I1,r1,q1⟩)
noncomputable def tIfS (c:TT) (t u:TS):TS:=fun D σ H=>c σ H fun b H1=>if b=true then t D σ H1 else u D σ H1
theorem c7 {c:Expr} {a b:List Stmt} {tc:TT} (hc:PT X c tc) (ha:PSs X a t) (hb:PSs X b u):PS X (.If c a b pos) (tIfS tc t u):=by
 intro pins s σ H D I h
 refine wpAny_If (thn (hc pins s σ H _ I h) fun d s1 ⟨H1,I1,q1⟩=>?_)
 cases d with
 | true=>exact ha pins s1 σ H1 D I1 q1
 | false=>exact hb pins s1 σ H1 D I1 q1
end
noncomputable abbrev TG:=V→St→Hp→(St→Hp→Prop)→Prop
noncomputable abbrev TGs:=List V→St→Hp→(St→Hp→Prop)→Prop
noncomputable def PG (X:Cx) (target:Expr) (t:TG):Prop:=
 ∀ (pins:List (Addr×Obj)) (s:Shared) (σ:St) (H:Hp) (v:V) (u:Value) (Q:St→Hp→Prop),Inv X pins σ H s→RelV v u→t v σ H Q→
  wpAny (model X.prog X.w) X.A (assign target X.env u) (fun _ s'=>∃ σ' H',Inv X pins σ' H' s'∧Q σ' H') X.xe s
noncomputable def PGs (X:Cx) (ts:List Expr) (t:TGs):Prop:=
 ∀ (pins:List (Addr×Obj)) (s:Shared) (σ:St) (H:Hp) (vs:List V) (us:List Value) (Q:St→Hp→Prop),Inv X pins σ H s→Vals vs us→t vs σ H Q→
  wpAny (model X.prog X.w) X.A (assignInOrder ((assignEach ts X.env).map (·.2)) us) (fun _ s'=>∃ σ' H',Inv X pins σ' H' s'∧Q σ' H') X.xe s
section
variable {X:Cx} {pos:Pos}
noncomputable def BS (i:Nat):TG:=fun v σ H Q=>Q (σ.set i (some v)) H
theorem aG {i:Nat} {x:Str} (hN:X.N.Nodup) (hi:X.N[i]? =some x) (hx:Loc X.env.scope x) (hf:X.fn x=true∨X.env.scope.names.lookup x=some .local:=by first | exact .inl rfl | exact .inr rfl | assumption):PG X (.Name x pos) (BS i):=by
 intro pins s σ H v u Q I r h
 exact wpAny_assign_Name (Cz I hN hi hx r (fun s' I'=>⟨_,H,I',h⟩) hf)
noncomputable def gNil:TGs:=fun vs σ H Q=>vs=[]∧Q σ H
noncomputable def ME (t:TG) (u:TGs):TGs:=fun vs σ H Q=>∃ v r,vs=v::r∧t v σ H fun σ' H'=>u r σ' H' Q
theorem ix:PGs X [] gNil:=by
 intro pins s σ H vs us Q I r h
 obtain ⟨e,h⟩:=h
 subst e
 cases r
 exact assignInOrder_nil ⟨σ,H,I,h⟩
theorem bK {e:Expr} {es:List Expr} {t:TG} {u:TGs} (h1:PG X e t) (h2:PGs X es u)
  (hs:(assignEach (e::es) X.env).map (·.2)=assign e X.env::(assignEach es X.env).map (·.2):=by rfl):PGs X (e::es) (ME t u):=by
 intro pins s σ H vs us Q I r h
 obtain ⟨v,vr,e1,h⟩:=h
 subst e1
 cases r with
 | cons r rr=>
   rw [hs]
   refine assignInOrder_cons (thn (h1 pins s σ H _ _ _ I r h) fun _ s1 ⟨σ1,H1,I1,q1⟩=>?_)
   exact h2 pins s1 σ1 H1 _ _ Q I1 rr q1
noncomputable def gTup (K:PySem.W.Frag) (n:Nat) (t:TGs):TG:=fun v σ H Q=>∃ a xs,v= .ref a∧SqT K H a xs∧xs.length=n∧t xs σ H Q
theorem qz {es:List Expr} {k:Nat} {t:TGs} {n:Nat} (hc:X.calm=true) (h:PGs X es t)
  (hn:(assignEach es X.env).length=n:=by rfl) (hst:(assignEach es X.env).findIdx? (·.1)=none:=by rfl):PG X (.Tuple es k pos) (gTup X.K n t):=by
 intro pins s σ H v u Q I r hw
 obtain ⟨a,xs,e1,hq,hl,hw⟩:=hw
 subst e1
 cases r
 obtain ⟨its,rv,ht,hz⟩:=I.tuple hq
 refine assign_Tuple_tuple (I.ok.hd hc) ht (by simp [hn,← hl,rv.length]) hst fun h' hx=>?_
 have I1:Inv X pins σ H {s with heap:=h'}:=I.kept (t':=s.toks) fun b o e=>hx b o (Nat.ne_of_lt (Heap.lt_size e)) e
 exact h pins _ σ H xs _ Q I1 (by simpa using rv) hw
noncomputable def tAsg (te:TE) (g:TG):TS:=fun D σ H=>te σ H fun x H1=>g x σ H1 D.nx
theorem aq {i:Nat} {x:Str} {e:Expr} {te:TE} {pos':Pos} (hN:X.N.Nodup) (hi:X.N[i]? =some x) (hx:Loc X.env.scope x) (he:PE X e te) (hs:swapsWith e (some (.Name x pos')) pos.line X.env=pure false:=by rfl) (hf:X.fn x=true∨X.env.scope.names.lookup x=some .local:=by first | exact .inl rfl | exact .inr rfl | assumption):
  PS X (.Assign [.Name x pos'] e pos) (tAsg te (BS i)):=by
 intro pins s σ H D I h
 refine wpAny_Assign_Name (thn (he pins s σ H _ I h) fun v s1 ⟨y,H1,I1,r1,q1⟩=>?_) hs
 exact Cz I1 hN hi hx r1 (fun s2 I2=>⟨_,H1,I2,q1⟩) hf
end
section
variable {X:Cx} {pos:Pos}
noncomputable def Nh (c:TT) (tb:TS):TS:=fun D σ H=>∃ W:Nat→St→Hp→Prop,(∃ m,W m σ H)∧∀ m σ H,W m σ H→
 c σ H fun b H1=>if b=true then ∃ N:St→Hp→Prop,(∀ σ' H',N σ' H'→∃ m',m' < m∧W m' σ' H')∧tb {D with nx:=N,ct:=N,bk:=D.nx} σ H1 else D.nx σ H1
theorem kR {c:Expr} {body:List Stmt} {tc:TT} {tb:TS} (hp:PassesOwn (model X.prog X.w) X.A X.env X.xe) (hc:PT X c tc) (hb:PSs X body tb):PS X (.While c body [] pos) (Nh tc tb):=by
 intro pins s σ H D I h
 obtain ⟨W,⟨m0,w0⟩,turn⟩:=h
 refine wpAny_While (codeAny_whileLoop (fun n s'=>∃ σ' H',Inv X pins σ' H' s'∧W n σ' H') ?_ m0 ⟨σ,H,I,w0⟩)
 rintro n s1 ⟨σ1,H1,I1,w1⟩
 refine wpAny_passesOwn hp (thn (hc pins s1 σ1 H1 _ I1 (turn n σ1 H1 w1)) fun b s2 ⟨H2,I2,q2⟩=>?_)
 cases b with
 | true=>
   obtain ⟨N,hN,q2⟩:=q2
   rw [if_pos rfl]
   refine wpAny_passesOwn hp (thn (hb pins s2 σ1 H2 _ I2 q2) fun f s3 q3=>?_)
   cases f with
   | next=>
     obtain ⟨σ3,H3,I3,n3⟩:=q3
     obtain ⟨m',hm,w3⟩:=hN σ3 H3 n3
     exact ⟨m',hm,σ3,H3,I3,w3⟩
   | cont=>
     obtain ⟨σ3,H3,I3,n3⟩:=q3
     obtain ⟨m',hm,w3⟩:=hN σ3 H3 n3
     exact ⟨m',hm,σ3,H3,I3,w3⟩
   | brk=>exact q3
   | ret v=>exact q3
 | false=>
   rw [if_neg Bool.false_ne_true]
   exact wpAny_execs_nil ⟨σ1,H2,I2,q2⟩
end
structure It where
 go:Nat→Hp→Prop
 yld:Nat→Hp→V→Hp→Prop
 stop:Nat→Hp→Prop
noncomputable def FpOk (X:Cx) (pins:List (Addr×Obj)) (H:Hp) (b:Addr):Prop:=
 H b=none∧b≠X.env.locals∧b∉X.fs∧(b∈X.ex∨X.s₀.heap.objs.size≤b)∧(∀ x c,X.env.cells.lookup x=some c→c≠b)∧∀ p∈X.pn++pins,p.1≠b
theorem Inv.fpOk {X:Cx} {pins:List (Addr×Obj)} {σ:St} {H H':Hp} {s:Shared} {b:Addr} (I:Inv X pins σ H s) (hb:s.heap.objs.size≤b) (hn:H' b=none):FpOk X pins H' b:=by
 refine ⟨hn,Nat.ne_of_gt (Nat.lt_of_lt_of_le I.lt hb),I.nofs hb,.inr (Nat.le_trans I.sz hb),fun x c e z=>?_,fun p hp z=>?_⟩
 ·obtain ⟨v,q⟩:=I.cell x c e
  exact absurd (Nat.lt_of_lt_of_le q.lt (by rw [z];exact hb)) (Nat.lt_irrefl _)
 ·exact absurd (Nat.lt_of_lt_of_le (Heap.lt_size (I.pin p hp).1) (by rw [z];exact hb)) (Nat.lt_irrefl _)
structure Turn (P:Program) (w:World) (K:PySem.W.Frag) (tg:Expr) (J:It) (fp:List Addr) (it:Addr) (tn:Nat→Heap→Prop):Prop where
 mem:it∈fp
 obj:∀ i h,tn i h→∀ b∈fp,∃ o,h.get? b=some o∧∀ v,o.data≠.cell v
 keep:∀ i h h',tn i h→(∀ b∈fp,∀ o,h.get? b=some o→h'.get? b=some o)→tn i h'
 item:∀ (X:Cx),X.prog=P→X.w=w→X.K=K→X.calm=true→∀ (i:Nat) (pins:List (Addr×Obj)) (s:Shared) (σ:St) (H:Hp) (E:Value→Shared→Prop),Inv X pins σ H s→(∀ b∈fp,FpOk X pins H b)→tn i s.heap→J.go i H→
  wpAny (model P w) X.A (pyNext (.ref it)) (fun r s1=>∃ u,r=some u∧
   wpAny (model P w) X.A (letOwnedTupleGo tg (.ref it) u) (fun _ s2=>∃ x H',Inv X pins σ H' s2∧RelV x u∧J.yld i H x H'∧tn (i + 1) s2.heap∧∀ b∈fp,H' b=none) E s1) E s
 done:∀ (X:Cx),X.prog=P→X.w=w→X.K=K→X.calm=true→∀ (i:Nat) (pins:List (Addr×Obj)) (s:Shared) (σ:St) (H:Hp) (E:Value→Shared→Prop),Inv X pins σ H s→(∀ b∈fp,FpOk X pins H b)→tn i s.heap→J.stop i H→
  wpAny (model P w) X.A (pyNext (.ref it)) (fun r s1=>r=none∧Inv X pins σ H s1) E s
 self:∀ (A:Around) (i:Nat) (s:Shared) (Q:Value→Shared→Prop) (E:Value→Shared→Prop),tn i s.heap→Q (.ref it) s→wpAny (model P w) A (pyIter (.ref it)) Q E s
noncomputable abbrev TI:=St→Hp→(It→Hp→Prop)→Prop
noncomputable def PIE (X:Cx) (pins:List (Addr×Obj)) (σ:St) (tg:Expr) (R:It→Hp→Prop) (itv:Value) (s2:Shared):Prop:=
 ∃ (it:Addr) (fp:List Addr) (tn:Nat→Heap→Prop) (J:It) (H':Hp),itv= .ref it∧Inv X pins σ H' s2∧Turn X.prog X.w X.K tg J fp it tn∧tn 0 s2.heap∧(∀ b∈fp,FpOk X pins H' b)∧R J H'
noncomputable def PI (X:Cx) (tg iter:Expr) (wi:TI):Prop:=
 ∀ (pins:List (Addr×Obj)) (s:Shared) (σ:St) (H:Hp) (R:It→Hp→Prop),Inv X pins σ H s→wi σ H R→
  wpAny (model X.prog X.w) X.A (eval iter X.env) (fun v s1=>wpAny (model X.prog X.w) X.A (pyIter v) (PIE X pins σ tg R) X.xe s1) X.xe s
theorem MC {M:Model} {A:Around} {E:Value→Shared→Prop} {s:Shared} {tg:Expr} {it:Addr} {u:Value} {o:Obj} {n:String} {vs:Array Value} {Q:Unit→Shared→Prop} (ho:s.heap.get? it=some o) (hc:o.cls= .type n) (hd:o.data= .fields vs)
  (hn:["enumerate","zip","dict_itemiterator","dict_reverseitemiterator","odict_iterator","itertools.zip_longest","itertools.pairwise"].contains n=false) (hQ:Q () s):wpAny M A (letOwnedTupleGo tg (.ref it) u) Q E s:=by
 unfold letOwnedTupleGo
 cases tg<;>first
  | exact wpAny_pure hQ
  | (cases u<;>first
    | exact wpAny_pure hQ
    | (refine wpAny_bind (wpAny_load ho ?_)
       rw [hc,hd]
       show wpAny M A (if (["enumerate","zip","dict_itemiterator","dict_reverseitemiterator","odict_iterator","itertools.zip_longest","itertools.pairwise"].contains n&&vs[0]? == some (rawInt _))=true then _ else _) Q E s
       rw [if_neg (by intro h;rw [hn,Bool.false_and] at h;cases h)]
       exact wpAny_pure hQ))
noncomputable def Itl (K:PySem.W.Frag) (a:Addr):It:=
 ⟨fun i H=>∃ xs x,SqL K H a xs∧xs[i]? =some x,fun i H x H'=>H'=H∧∀ xs,SqL K H a xs→xs[i]? =some x,fun i H=>∃ xs,SqL K H a xs∧xs.length≤i⟩
noncomputable def Itr (lo:Int) (n:Nat):It:=⟨fun i _=>i < n,fun i H x H'=>H'=H∧x= .int (lo + i),fun i _=>n≤i⟩
theorem Gb {P:Program} {w:World} {K:PySem.W.Frag} {tg:Expr} (a it:Addr):Turn P w K tg (Itl K a) [it] it (fun i h=>h.IsListIter it a i) where
 mem:=by simp
 obj:=fun i h st b hb=>by
  have e:b=it:=by simpa using hb
  subst e
  obtain ⟨o,e,c,d⟩:=st
  exact ⟨o,e,fun v z=>by rw [d] at z;cases z⟩
 keep:=fun i h h' st k=>st.at fun o e=>k it (by simp) o e
 item:=by
  intro X hP hw hK hc i pins s σ H E I hf st hg
  subst hP hw hK
  obtain ⟨xs,x,hq,hx⟩:=hg
  obtain ⟨its,rv,p,hz⟩:=I.list hq
  obtain ⟨u,hu,ru⟩:=rv.get hx
  obtain ⟨f0,f1,f2,f3,f4,f5⟩:=hf it (by simp)
  refine wpAny_pyNext_list_item st p.isList (x:=u) (by simpa using hu) fun h' st' sb=>?_
  have I1:Inv X pins σ H {s with heap:=h'}:=I.turned (t':=s.toks) (fun b o hb e=>(sb.2 b hb).trans e) f0 f1 f3 f4 f5
  obtain ⟨o,e,c,d⟩:=id st'
  exact ⟨u,rfl,MC (s:={s with heap:=h'}) e c d (by decide) ⟨x,H,I1,ru,⟨rfl,fun ys hy=>by rw [I.list_inj hy hq];exact hx⟩,st',fun b hb=>(hf b hb).1⟩⟩
 done:=by
  intro X hP hw hK hc i pins s σ H E I hf st hg
  subst hP hw hK
  obtain ⟨xs,hq,hx⟩:=hg
  obtain ⟨its,rv,p,hz⟩:=I.list hq
  obtain ⟨f0,f1,f2,f3,f4,f5⟩:=hf it (by simp)
  have hl:=rv.length
  exact wpAny_pyNext_list_end (I.ok.hd hc) st p.isList (by simp;omega) fun h' eb=>⟨rfl,I.turned (t':=s.toks) (fun b o hb e=>eb b o hb e) f0 f1 f3 f4 f5⟩
 self:=fun _ _ _ _ _ st h=>wpAny_pyIter_listiter st h
theorem Dk {P:Program} {w:World} {K:PySem.W.Frag} {tg:Expr} (it:Addr) (lo:Int) (n:Nat):Turn P w K tg (Itr lo n) [it] it (fun i h=>IsRangeIter h it (lo + (i:Nat) * 1) ((n:Int) - (i:Nat)) 1) where
 mem:=by simp
 obj:=fun i h st b hb=>by
  have e:b=it:=by simpa using hb
  subst e
  exact ⟨_,st,fun v z=>by
   have z':Data.fields _=Data.cell v:=z
   cases z'⟩
 keep:=fun i h h' st k=>k it (by simp) _ st
 item:=by
  intro X hP hw hK hc i pins s σ H E I hf st hg
  subst hP hw hK
  obtain ⟨f0,f1,f2,f3,f4,f5⟩:=hf it (by simp)
  have W:=Walks.range (prog:=X.prog) (w:=X.w) (I.ok.hd hc) it lo 1 n
  refine W.item i s _ _ hg st fun v h' tk hv st' kk=>?_
  obtain ⟨t,rfl⟩:=hv
  have I1:Inv X pins σ H {s with heap:=h',toks:=tk}:=I.turned (fun b o hb e=>kk b o (by simpa using hb) e) f0 f1 f3 f4 f5
  refine ⟨_,rfl,MC (s:={s with heap:=h',toks:=tk}) (n:="range_iterator") st' rfl rfl (by decide) ⟨.int (lo + i),H,I1,⟨t,?_⟩,⟨rfl,rfl⟩,st',fun b hb=>(hf b hb).1⟩⟩
  rw [Int.mul_one]
 done:=by
  intro X hP hw hK hc i pins s σ H E I hf st hg
  subst hP hw hK
  obtain ⟨f0,f1,f2,f3,f4,f5⟩:=hf it (by simp)
  exact wpAny_pyNext_range_end (I.ok.hd hc) st (by have:n≤i:=hg;omega) fun h' eb=>⟨rfl,I.turned (t':=s.toks) (fun b o hb e=>eb b o hb e) f0 f1 f3 f4 f5⟩
 self:=fun _ _ _ _ _ st h=>wpAny_pyIter_rangeiter st h
section
variable {X:Cx} {tg:Expr}
noncomputable def MA (K:PySem.W.Frag) (tl:TE):TI:=fun σ H R=>tl σ H fun x H1=>∃ a,x= .ref a∧(∃ xs,SqL K H1 a xs)∧R (Itl K a) H1
theorem Mc {l:Expr} {tl:TE} (hl:PE X l tl):PI X tg l (MA X.K tl):=by
 intro pins s σ H R I h
 refine thn (hl pins s σ H _ I h) fun v s1 ⟨x,H1,I1,r1,q1⟩=>?_
 obtain ⟨a,e,⟨xs,hq⟩,q⟩:=q1
 subst e
 cases r1
 obtain ⟨its,rv,p,hz⟩:=I1.list hq
 refine wpAny_pyIter_list p.isList ?_
 refine ⟨s1.heap.objs.size,[s1.heap.objs.size],_,_,H1,rfl,I1.kept (t':=s1.toks) fun b o e=>Heap.get?_push_of_some _ e,Gb a _,⟨_,Heap.get?_push_size _ rfl,rfl,rfl⟩,fun b hb=>?_,q⟩
 have e:b=s1.heap.objs.size:=by simpa using hb
 subst e
 exact I1.fpOk (Nat.le_refl _) (I1.hok.fresh (Nat.le_refl _))
theorem JD {pins:List (Addr×Obj)} {σ:St} {H:Hp} {s:Shared} {R:It→Hp→Prop} {E:Value→Shared→Prop} {lo hi:Int} {t u v:Tok} {tk:Nat} (I:Inv X pins σ H s) (h1: -(2 ^ 62)≤lo) (h2:lo < 2 ^ 62) (h3: -(2 ^ 62)≤hi) (h4:hi < 2 ^ 62)
  (q:R (Itr lo (hi - lo).toNat) H):wpAny (model X.prog X.w) X.A (pyIter (.ref s.heap.objs.size)) (PIE X pins σ tg R) E {s with heap:=s.heap.push {cls:= .type "range",data:= .fields #[.int lo t,.int hi u,.int 1 v]},toks:=tk}:=by
 refine wpAny_pyIter_range (IsRange.new ..) (small_one h1 h2 h3 h4) ?_
 have I1:Inv X pins σ H {s with heap:=s.heap.push {cls:= .type "range",data:= .fields #[.int lo t,.int hi u,.int 1 v]},toks:=tk}:=I.kept fun b o e=>Heap.get?_push_of_some _ e
 refine ⟨(s.heap.push {cls:= .type "range",data:= .fields #[.int lo t,.int hi u,.int 1 v]}).objs.size,[(s.heap.push {cls:= .type "range",data:= .fields #[.int lo t,.int hi u,.int 1 v]}).objs.size],_,_,H,rfl,
  I1.kept (t':=tk) fun b o e=>Heap.get?_push_of_some _ e,Dk _ lo (hi - lo).toNat,?_,fun b hb=>?_,q⟩
 ·have e1:lo + ((0:Nat):Int) * 1=lo:=by simp
  have e2:(((hi - lo).toNat:Nat):Int) - ((0:Nat):Int)=Builtin.Range.rangeSize lo hi 1:=by rw [rangeSize_one];split<;>omega
  show IsRangeIter _ _ (lo + ((0:Nat):Int) * 1) ((((hi - lo).toNat:Nat):Int) - ((0:Nat):Int)) 1
  rw [e1,e2]
  exact Heap.get?_push_size _ rfl
 ·have e:b=(s.heap.push {cls:= .type "range",data:= .fields #[.int lo t,.int hi u,.int 1 v]}).objs.size:=by simpa using hb
  subst e
  exact I1.fpOk (Nat.le_refl _) (I1.hok.fresh (Nat.le_refl _))
noncomputable def OL (ta:TA):TI:=fun σ H R=>ta σ H fun vs H1=>∃ j:Int,vs=[.int j]∧-(2 ^ 62)≤j∧j < 2 ^ 62∧R (Itr 0 j.toNat) H1
theorem cc {a:Expr} {ta:TA} {p pos:Pos} (hg:Gl X "range") (hm:X.mg "range"=none) (ha:PA X [a] ta) (hs:starEach [a] X.env=[(false,eval a X.env)]:=by rfl):PI X tg (.Call (.Name "range" p) [a] [] pos) (OL ta):=by
 intro pins s σ H R I h
 refine Call_ (ke I hg hm boot_range (PyProof.Rows.callWith_type1 (thn (ha pos pins s σ H _ I h) fun us s1 ⟨vs,H1,I1,r1,q1⟩=>?_) hs rfl))
 obtain ⟨j,e,q1,q2,q⟩:=q1
 subst e
 cases r1 with
 | cons r rr=>
   cases rr
   obtain ⟨t,rfl⟩:=r
   exact call_range_1 (JD I1 (by omega) (by omega) q1 q2 (by simpa using q))
noncomputable def tFor (wi:TI) (g:TG) (tb:TS):TS:=fun D σ H=>wi σ H fun J H1=>∃ W:Nat→Nat→St→Hp→Prop,(∃ m,W 0 m σ H1)∧∀ i m σ H,W i m σ H→
 (J.stop i H∧D.nx σ H)∨(J.go i H∧∃ N:St→Hp→Prop,(∀ σ' H',N σ' H'→∃ m',m' < m∧W (i + 1) m' σ' H')∧∀ x H',J.yld i H x H'→g x σ H' fun σ2 H2=>tb {D with nx:=N,ct:=N,bk:=D.nx} σ2 H2)
noncomputable def zj (fp:List Addr) (h:Heap):List (Addr×Obj):=fp.filterMap fun b=>(h.get? b).map fun o=>(b,o)
theorem kS {fp:List Addr} {h:Heap} {b:Addr} {o:Obj} (hb:b∈fp) (e:h.get? b=some o):(b,o)∈zj fp h:=List.mem_filterMap.mpr ⟨b,hb,by rw [e];rfl⟩
theorem GZ {fp:List Addr} {h:Heap} {p:Addr×Obj} (hp:p∈zj fp h):p.1∈fp∧h.get? p.1=some p.2:=by
 obtain ⟨b,hb,e⟩:=List.mem_filterMap.mp hp
 cases q:h.get? b with
 | none=>rw [q] at e;cases e
 | some o=>
   rw [q] at e
   have e':(b,o)=p:=Option.some.inj e
   subst e'
   exact ⟨hb,q⟩
theorem Inv.pinned {pins:List (Addr×Obj)} {σ:St} {H:Hp} {s:Shared} {fp:List Addr} (I:Inv X pins σ H s) (hf:∀ b∈fp,FpOk X pins H b) (ho:∀ b∈fp,∃ o,s.heap.get? b=some o∧∀ v,o.data≠.cell v):Inv X (pins++zj fp s.heap) σ H s:=
 I.pins_of fun p hp=>(List.mem_append.mp hp).elim (fun z=>I.pin p (List.mem_append_right _ z)) fun z=>by
  obtain ⟨hb,e⟩:=GZ z
  obtain ⟨f0,f1,f2,_⟩:=hf p.1 hb
  obtain ⟨o,e',d⟩:=ho p.1 hb
  rw [e] at e';cases e'
  exact ⟨e,f0,f1,f2,d⟩
theorem Inv.unpinned {pins pl:List (Addr×Obj)} {σ:St} {H:Hp} {s:Shared} (I:Inv X (pins++pl) σ H s):Inv X pins σ H s:=I.pins_of fun p hp=>I.pin p (List.mem_append_right _ (List.mem_append_left _ hp))
theorem cW {iter:Expr} {body:List Stmt} {wi:TI} {g:TG} {tb:TS} {pos:Pos} (hp:PassesOwn (model X.prog X.w) X.A X.env X.xe) (hc:X.calm=true) (hi:PI X tg iter wi) (hg:PG X tg g) (hb:PSs X body tb)
  (hs:∀ x,foldedSetIterable iter X.env x=pure x:=by intro _;rfl):PS X (.For tg iter body [] pos) (tFor wi g tb):=by
 intro pins s σ H D I h
 refine wpAny_For (thn (hi pins s σ H _ I h) fun v s1 h1=>thn h1 fun itv s2 h2=>?_) hs
 obtain ⟨it,fp,tn,J,H2,e,I2,T,st2,f2,W,⟨m0,w0⟩,turn⟩:=h2
 subst e
 have stat:∀ {H':Hp},(∀ b∈fp,H' b=none)→∀ b∈fp,FpOk X pins H' b:=fun hn b hb=>⟨hn b hb,(f2 b hb).2⟩
 refine codeAny_forLoop_any (fun n s'=>∃ i σ' H',Inv X pins σ' H' s'∧tn i s'.heap∧(∀ b∈fp,H' b=none)∧W i n σ' H') ?_ m0 ⟨0,σ,H2,I2,st2,fun b hb=>(f2 b hb).1,w0⟩
 rintro n s3 ⟨i,σ3,H3,I3,st3,fr3,w3⟩
 rcases turn i n σ3 H3 w3 with ⟨stop,qn⟩ | ⟨go,N,hN,step⟩
 ·refine wpAny_passesOwn hp (thn (T.done X rfl rfl rfl hc i pins s3 σ3 H3 X.xe I3 (stat fr3) st3 stop) fun r s4 ⟨hr,I4⟩=>?_)
  subst hr
  exact wpAny_execs_nil ⟨σ3,H3,I4,qn⟩
 ·refine wpAny_passesOwn hp (thn (T.item X rfl rfl rfl hc i pins s3 σ3 H3 X.xe I3 (stat fr3) st3 go) fun r s4 ⟨u,hr,h4⟩=>?_)
  subst hr
  refine wpAny_passesOwn hp (thn h4 fun _ s5 ⟨x,H5,I5,r5,y5,st5,fr5⟩=>?_)
  have I5':=I5.pinned (stat fr5) (T.obj _ _ st5)
  refine wpAny_passesOwn hp (thn (hg _ s5 σ3 H5 x u _ I5' r5 (step x H5 y5)) fun _ s6 ⟨σ6,H6,I6,q6⟩=>?_)
  refine wpAny_passesOwn hp (thn (hb _ s6 σ6 H6 _ I6 q6) fun f s7 q7=>?_)
  have again:∀ {σ7:St} {H7:Hp},Inv X (pins++zj fp s5.heap) σ7 H7 s7→N σ7 H7→∃ m,m < n∧∃ i σ' H',Inv X pins σ' H' s7∧tn i s7.heap∧(∀ b∈fp,H' b=none)∧W i m σ' H':=fun {σ7 H7} I7 n7=>by
   obtain ⟨m',hm,w7⟩:=hN σ7 H7 n7
   refine ⟨m',hm,i + 1,σ7,H7,I7.unpinned,T.keep _ _ _ st5 fun b hb o e=>(I7.pin (b,o) (List.mem_append_right _ (List.mem_append_right _ (kS hb e)))).1,fun b hb=>?_,w7⟩
   obtain ⟨o,e,d⟩:=T.obj _ _ st5 b hb
   exact (I7.pin (b,o) (List.mem_append_right _ (List.mem_append_right _ (kS hb e)))).2.1
  cases f with
  | next=>obtain ⟨σ7,H7,I7,n7⟩:=q7;exact again I7 n7
  | cont=>obtain ⟨σ7,H7,I7,n7⟩:=q7;exact again I7 n7
  | brk=>obtain ⟨σ7,H7,I7,q7⟩:=q7;exact ⟨σ7,H7,I7.unpinned,q7⟩
  | ret v=>obtain ⟨x7,σ7,H7,I7,r7,q7⟩:=q7;exact ⟨x7,σ7,H7,I7.unpinned,r7,q7⟩
end
theorem gH {K:PySem.W.Frag} {a:Addr} {xs:List V} {g:TG} {tb:TS} {D:Ends} {σ:St} {H:Hp} (Pv:Nat→St→Hp→Prop) (h0:Pv 0 σ H) (hl:∀ i σ H,i≤xs.length→Pv i σ H→SqL K H a xs)
  (hs:∀ i x σ H,xs[i]? =some x→Pv i σ H→g x σ H fun σ2 H2=>tb {D with nx:=Pv (i + 1),ct:=Pv (i + 1),bk:=D.nx} σ2 H2) (hd:∀ σ H,Pv xs.length σ H→D.nx σ H):
  ∃ W:Nat→Nat→St→Hp→Prop,(∃ m,W 0 m σ H)∧∀ i m σ H,W i m σ H→
    ((Itl K a).stop i H∧D.nx σ H)∨((Itl K a).go i H∧∃ N:St→Hp→Prop,(∀ σ' H',N σ' H'→∃ m',m' < m∧W (i + 1) m' σ' H')∧∀ x H',(Itl K a).yld i H x H'→g x σ H' fun σ2 H2=>tb {D with nx:=N,ct:=N,bk:=D.nx} σ2 H2):=by
 refine ⟨fun i m σ H=>m=xs.length - i∧i≤xs.length∧Pv i σ H,⟨xs.length,by simp,Nat.zero_le _,h0⟩,?_⟩
 rintro i m σ H ⟨rfl,hi,p⟩
 have q:=hl i σ H hi p
 by_cases hlt:i < xs.length
 ·refine .inr ⟨⟨xs,xs[i],q,by simp [hlt]⟩,Pv (i + 1),fun σ' H' p'=>⟨xs.length - (i + 1),by omega,rfl,hlt,p'⟩,fun x H' y=>?_⟩
  obtain ⟨e,y⟩:=y
  subst e
  exact hs i x σ _ (y xs q) p
 ·have e:i=xs.length:=by omega
  subst e
  exact .inl ⟨⟨xs,q,Nat.le_refl _⟩,hd σ H p⟩
theorem dP {lo:Int} {n:Nat} {g:TG} {tb:TS} {D:Ends} {σ:St} {H:Hp} (Pv:Nat→St→Hp→Prop) (h0:Pv 0 σ H)
  (hs:∀ i σ H,i < n→Pv i σ H→g (.int (lo + i)) σ H fun σ2 H2=>tb {D with nx:=Pv (i + 1),ct:=Pv (i + 1),bk:=D.nx} σ2 H2) (hd:∀ σ H,Pv n σ H→D.nx σ H):
  ∃ W:Nat→Nat→St→Hp→Prop,(∃ m,W 0 m σ H)∧∀ i m σ H,W i m σ H→
    ((Itr lo n).stop i H∧D.nx σ H)∨((Itr lo n).go i H∧∃ N:St→Hp→Prop,(∀ σ' H',N σ' H'→∃ m',m' < m∧W (i + 1) m' σ' H')∧∀ x H',(Itr lo n).yld i H x H'→g x σ H' fun σ2 H2=>tb {D with nx:=N,ct:=N,bk:=D.nx} σ2 H2):=by
 refine ⟨fun i m σ H=>m=n - i∧i≤n∧Pv i σ H,⟨n,by simp,Nat.zero_le _,h0⟩,?_⟩
 rintro i m σ H ⟨rfl,hi,p⟩
 by_cases hlt:i < n
 ·refine .inr ⟨hlt,Pv (i + 1),fun σ' H' p'=>⟨n - (i + 1),by omega,rfl,hlt,p'⟩,fun x H' y=>?_⟩
  obtain ⟨e,y⟩:=y
  subst e y
  exact hs i σ _ hlt p
 ·have e:i=n:=by omega
  subst e
  exact .inl ⟨Nat.le_refl _,hd σ H p⟩
noncomputable abbrev R2:=V→V→Hp→VK→Prop
noncomputable def OpR (X:Cx) (f:Value→Value→Sem Value) (r:R2):Prop:=
 ∀ (pins:List (Addr×Obj)) (s:Shared) (σ:St) (H:Hp) (x y:V) (v u:Value) (Q:VK),Inv X pins σ H s→RelV x v→RelV y u→r x y H Q→
  wpAny (model X.prog X.w) X.A (f v u) (EP X pins σ Q) X.xe s
noncomputable def UnR (X:Cx) (f:Value→Sem Value) (r:V→Hp→VK→Prop):Prop:=
 ∀ (pins:List (Addr×Obj)) (s:Shared) (σ:St) (H:Hp) (x:V) (v:Value) (Q:VK),Inv X pins σ H s→RelV x v→r x H Q→
  wpAny (model X.prog X.w) X.A (f v) (EP X pins σ Q) X.xe s
noncomputable def sM (X:Cx) (f:Value) (r:List V→Hp→VK→Prop):Prop:=
 ∀ (pins:List (Addr×Obj)) (s:Shared) (σ:St) (H:Hp) (xs:List V) (us:List Value) (Q:VK),Inv X pins σ H s→Vals xs us→r xs H Q→
  wpAny (model X.prog X.w) X.A (call f us) (EP X pins σ Q) X.xe s
noncomputable def tOp (r:R2) (ta tb:TE):TE:=fun σ H Q=>ta σ H fun x H1=>tb σ H1 fun y H2=>r x y H2 Q
noncomputable def tUn (r:V→Hp→VK→Prop) (ta:TE):TE:=fun σ H Q=>ta σ H fun x H1=>r x H1 Q
noncomputable def rI (C:Int→Int→Prop) (g:Int→Int→V):R2:=fun x y H Q=>∃ i j,x= .int i∧y= .int j∧C i j∧Q (g i j) H
noncomputable def rI0 (g:Int→Int→V):R2:=fun x y H Q=>∃ i j,x= .int i∧y= .int j∧Q (g i j) H
noncomputable def rU (g:Int→V):V→Hp→VK→Prop:=fun x H Q=>∃ i,x= .int i∧Q (g i) H
section
variable {X:Cx} {a b c:Expr} {ta tb tc:TE} {pos:Pos}
theorem binT (ha:PE X a ta) (hb:PE X b tb) {pins:List (Addr×Obj)} {s:Shared} {σ:St} {H:Hp} {R:V→V→Hp→Prop} (I:Inv X pins σ H s)
  (h:ta σ H fun x H1=>tb σ H1 fun y H2=>R x y H2) {Q:Value→Shared→Prop} {f:Value→Value→Sem Value}
  (hf:∀ v u s2 x y H2,Inv X pins σ H2 s2→RelV x v→RelV y u→R x y H2→wpAny (model X.prog X.w) X.A (f v u) Q X.xe s2):
  wpAny (model X.prog X.w) X.A (eval a X.env) (fun v s₁=>wpAny (model X.prog X.w) X.A (eval b X.env) (fun u s₂=>wpAny (model X.prog X.w) X.A (f v u) Q X.xe s₂) X.xe s₁) X.xe s:=by
 refine thn (ha pins s σ H _ I h) fun v s1 ⟨x,H1,I1,r1,q1⟩=>?_
 refine thn (hb pins s1 σ H1 _ I1 q1) fun u s2 ⟨y,H2,I2,r2,q2⟩=>?_
 exact hf v u s2 x y H2 I2 r1 r2 q2
theorem aw {op:Operator} {r:R2} (ho:OpR X (binaryOp op) r) (ha:PE X a ta) (hb:PE X b tb):PE X (.BinOp a op b pos) (tOp r ta tb):=by
 intro pins s σ H Q I h
 exact wpAny_BinOp (binT ha hb I h fun v u s2 x y H2 I2 rx ry q=>ho pins s2 σ H2 x y v u Q I2 rx ry q)
theorem Me {op:UnaryOp} {r:V→Hp→VK→Prop} (ho:UnR X (unaryOp op) r) (ha:PE X a ta):PE X (.UnaryOp op a pos) (tUn r ta):=by
 intro pins s σ H Q I h
 exact UnaryOp_ (thn (ha pins s σ H _ I h) fun v s1 ⟨x,H1,I1,r1,q1⟩=>ho pins s1 σ H1 x v Q I1 r1 q1)
theorem opI {f:Value→Value→Sem Value} {C:Int→Int→Prop} {g:Int→Int→Int}
  (rule:∀ (i j:Int) (t u:Tok) (s:Shared) (Q:Value→Shared→Prop) (E:Value→Shared→Prop),C i j→Q (.int (g i j) s.toks) {s with toks:=s.toks + 1}→wpAny (model X.prog X.w) X.A (f (.int i t) (.int j u)) Q E s):
  OpR X f (rI C fun i j=> .int (g i j)):=by
 intro pins s σ H x y v u Q I rx ry h
 obtain ⟨i,j,rfl,rfl,hc,q⟩:=h
 obtain ⟨t,rfl⟩:=rx
 obtain ⟨t',rfl⟩:=ry
 exact rule i j t t' s _ _ hc ⟨.int (g i j),H,I.tok _,⟨_,rfl⟩,q⟩
theorem opI0 {f:Value→Value→Sem Value} {g:Int→Int→Int}
  (rule:∀ (i j:Int) (t u:Tok) (s:Shared) (Q:Value→Shared→Prop) (E:Value→Shared→Prop),Q (.int (g i j) s.toks) {s with toks:=s.toks + 1}→wpAny (model X.prog X.w) X.A (f (.int i t) (.int j u)) Q E s):
  OpR X f (rI0 fun i j=> .int (g i j)):=by
 intro pins s σ H x y v u Q I rx ry h
 obtain ⟨i,j,rfl,rfl,q⟩:=h
 obtain ⟨t,rfl⟩:=rx
 obtain ⟨t',rfl⟩:=ry
 exact rule i j t t' s _ _ ⟨.int (g i j),H,I.tok _,⟨_,rfl⟩,q⟩
theorem opB0 {f:Value→Value→Sem Value} {g:Int→Int→Bool}
  (rule:∀ (i j:Int) (t u:Tok) (s:Shared) (Q:Value→Shared→Prop) (E:Value→Shared→Prop),Q (.bool (g i j)) s→wpAny (model X.prog X.w) X.A (f (.int i t) (.int j u)) Q E s):
  OpR X f (rI0 fun i j=> .bl (g i j)):=by
 intro pins s σ H x y v u Q I rx ry h
 obtain ⟨i,j,rfl,rfl,q⟩:=h
 obtain ⟨t,rfl⟩:=rx
 obtain ⟨t',rfl⟩:=ry
 exact rule i j t t' s _ _ ⟨.bl (g i j),H,I,rfl,q⟩
noncomputable def CDiv (i j:Int):Prop:=0 < j∧j < 1073741824
noncomputable def P6 (i j:Int):Prop:=j≠0∧j.natAbs < 1073741824
noncomputable def CPow (i j:Int):Prop:=0≤j∧j≤1000000∧i.natAbs < 2 ^ 64
noncomputable def CMul (i j:Int):Prop:=(-(2 ^ 64) < i∧i < 2 ^ 64)∨(-(2 ^ 64) < j∧j < 2 ^ 64)
theorem CMul.ok {i j:Int} (h:CMul i j):IntMulOk i j:=by
 rcases h with ⟨h1,h2⟩ | ⟨h1,h2⟩
 ·exact .of_left (intBits_le_64 h1 h2)
 ·exact .of_right (intBits_le_64 h1 h2)
theorem Dj (k:Nat):(0:Int)≤2 ^ k:=by
 rw [two_pow_cast]
 exact Int.natCast_nonneg _
theorem cI:OpR X (binaryOp .Add) (rI0 fun i j=> .int (i + j)):=opI0 fun _ _ _ _ _ _ _ q=>add_int q
theorem lY:OpR X (binaryOp .Sub) (rI0 fun i j=> .int (i - j)):=opI0 fun _ _ _ _ _ _ _ q=>sub_int q
theorem nH:OpR X (binaryOp .Mult) (rI CMul fun i j=> .int (i * j)):=opI fun _ _ _ _ _ _ _ hc q=>mul_int q hc.ok
theorem iB:OpR X (binaryOp .FloorDiv) (rI CDiv fun i j=> .int (i / j)):=opI fun i j _ _ _ _ _ hc q=>by
 have h1:(0:Int) < j:=hc.1
 have h2:j < 1073741824:=hc.2
 exact floordiv_int (by omega) (by rw [Int.fdiv_eq_ediv_of_nonneg i (by omega)];exact q) (.inl (PyProof.noPylong_small (by omega)))
theorem c9:OpR X (binaryOp .Mod) (rI (fun _ j=>0 < j) fun i j=> .int (i % j)):=opI fun i j _ _ _ _ _ hc q=>by
 have h1:(0:Int) < j:=hc
 exact mod_int' (by omega) (by rw [Int.fmod_eq_emod_of_nonneg i (by omega)];exact q)
theorem gX:OpR X (binaryOp .LShift) (rI CPow fun i j=> .int (i * 2 ^ j.toNat)):=opI fun _ _ _ _ _ _ _ hc q=>lshift_int_small hc.1 hc.2.1 hc.2.2 q
theorem GV:OpR X (binaryOp .RShift) (rI (fun _ j=>0≤j) fun i j=> .int (i / 2 ^ j.toNat)):=opI fun i j _ _ _ _ _ hc q=>
 rshift_int hc (by rw [Int.fdiv_eq_ediv_of_nonneg i (Dj _)];exact q)
theorem jD:OpR X (binaryOp .BitAnd) (rI0 fun i j=> .int (Builtin.bitAnd i j)):=opI0 fun _ _ _ _ _ _ _ q=>and_int q
theorem lX:OpR X (binaryOp .BitXor) (rI0 fun i j=> .int (Builtin.bitXor i j)):=opI0 fun _ _ _ _ _ _ _ q=>xor_int q
theorem unI {f:Value→Sem Value} {g:Int→Int}
  (rule:∀ (i:Int) (t:Tok) (s:Shared) (Q:Value→Shared→Prop) (E:Value→Shared→Prop),Q (.int (g i) s.toks) {s with toks:=s.toks + 1}→wpAny (model X.prog X.w) X.A (f (.int i t)) Q E s):
  UnR X f (rU fun i=> .int (g i)):=by
 intro pins s σ H x v Q I rx h
 obtain ⟨i,rfl,q⟩:=h
 obtain ⟨t,rfl⟩:=rx
 exact rule i t s _ _ ⟨.int (g i),H,I.tok _,⟨_,rfl⟩,q⟩
theorem Ga:UnR X (unaryOp .USub) (rU fun i=> .int (-i)):=unI fun _ _ _ _ _ q=>neg_int q
end
noncomputable def scal:V→V→Bool
 | .non,.non=>true | .non,.int _=>true | .int _,.non=>true | .non,.bl _=>true | .bl _,.non=>true | .non,.str _=>true | .str _,.non=>true
 | .int _,.int _=>true | .bl _,.bl _=>true | .str _,.str _=>true | .byt _,.byt _=>true
 | .int _,.str _=>true | .str _,.int _=>true | .bl _,.str _=>true | .str _,.bl _=>true
 | _,_=>false
noncomputable def rEq:R2:=fun x y H Q=>scal x y=true∧Q (.bl (decide (x=y))) H
noncomputable def rNe:R2:=fun x y H Q=>scal x y=true∧Q (.bl (!decide (x=y))) H
theorem HV {i j:Int}:decide (V.int i=V.int j)=(i == j):=by
 rw [Bool.eq_iff_iff]
 simp
theorem K7 {i j:Bool}:decide (V.bl i=V.bl j)=(i == j):=by
 rw [Bool.eq_iff_iff]
 simp
theorem HU {i j:Str}:decide (V.str i=V.str j)=(i == j):=by
 rw [Bool.eq_iff_iff]
 simp
theorem HW {i j:Array UInt8}:decide (V.byt i=V.byt j)=(i.toList == j.toList):=by
 rw [Bool.eq_iff_iff]
 cases i
 cases j
 simp
section
variable {X:Cx} {a b c:Expr} {ta tb tc:TE} {pos:Pos}
theorem bW {pins:List (Addr×Obj)} {σ:St} {H:Hp} {s:Shared} {Q:VK} {k k':Bool} (I:Inv X pins σ H s) (q:Q (.bl k) H) (e:k=k'):EP X pins σ Q (.bool k') s:=by
 subst e
 exact ⟨.bl k,H,I,rfl,q⟩
theorem iT:OpR X (compareOp .Eq) rEq:=by
 intro pins s σ H x y v u Q I rx ry h
 obtain ⟨hs,q⟩:=h
 cases x with
 | non=>
   cases rx
   cases y with
   | non=>cases ry;exact PySem.EqNone.eq_none_none (bW I q (by simp))
   | bl j=>cases ry;exact PySem.EqNone.eq_none_bool (bW I q (by simp))
   | int j=>obtain ⟨t',rfl⟩:=ry;exact PySem.EqNone.eq_none_int (bW I q (by simp))
   | str j=>obtain ⟨t',rfl⟩:=ry;exact PySem.EqNone.eq_none_str (bW I q (by simp))
   | _=>exact absurd (show false=true from hs) Bool.false_ne_true
 | bl i=>
   cases rx
   cases y with
   | non=>cases ry;exact PySem.EqNone.eq_bool_none (bW I q (by simp))
   | bl j=>cases ry;exact eq_bool (bW I q K7)
   | str j=>obtain ⟨t',rfl⟩:=ry;exact PySem.EqMixed.eq_bool_str (bW I q (by simp))
   | _=>exact absurd (show false=true from hs) Bool.false_ne_true
 | int i=>
   obtain ⟨t,rfl⟩:=rx
   cases y with
   | non=>cases ry;exact PySem.EqNone.eq_int_none (bW I q (by simp))
   | int j=>obtain ⟨t',rfl⟩:=ry;exact eq_int (bW I q HV)
   | str j=>obtain ⟨t',rfl⟩:=ry;exact PySem.EqMixed.eq_int_str (bW I q (by simp))
   | _=>exact absurd (show false=true from hs) Bool.false_ne_true
 | str i=>
   obtain ⟨t,rfl⟩:=rx
   cases y with
   | non=>cases ry;exact PySem.EqNone.eq_str_none (bW I q (by simp))
   | bl j=>cases ry;exact PySem.EqMixed.eq_str_bool (bW I q (by simp))
   | int j=>obtain ⟨t',rfl⟩:=ry;exact PySem.EqMixed.eq_str_int (bW I q (by simp))
   | str j=>obtain ⟨t',rfl⟩:=ry;exact eq_str (bW I q HU)
   | _=>exact absurd (show false=true from hs) Bool.false_ne_true
 | byt i=>
   obtain ⟨t,rfl⟩:=rx
   cases y with
   | byt j=>obtain ⟨t',rfl⟩:=ry;exact PySem.W.eq_bytes (bW I q HW)
   | _=>exact absurd (show false=true from hs) Bool.false_ne_true
 | _=>cases y<;>exact absurd (show false=true from hs) Bool.false_ne_true
theorem Bm:OpR X (compareOp .NotEq) rNe:=by
 intro pins s σ H x y v u Q I rx ry h
 obtain ⟨hs,q⟩:=h
 cases x with
 | non=>
   cases rx
   cases y with
   | non=>cases ry;exact PySem.EqNone.ne_none_none (bW I q (by simp))
   | bl j=>cases ry;exact PySem.EqNone.ne_none_bool (bW I q (by simp))
   | int j=>obtain ⟨t',rfl⟩:=ry;exact PySem.EqNone.ne_none_int (bW I q (by simp))
   | str j=>obtain ⟨t',rfl⟩:=ry;exact PySem.EqNone.ne_none_str (bW I q (by simp))
   | _=>exact absurd (show false=true from hs) Bool.false_ne_true
 | bl i=>
   cases rx
   cases y with
   | non=>cases ry;exact PySem.EqNone.ne_bool_none (bW I q (by simp))
   | bl j=>cases ry;exact ne_bool (bW I q (congrArg not K7))
   | str j=>obtain ⟨t',rfl⟩:=ry;exact PySem.EqMixed.ne_bool_str (bW I q (by simp))
   | _=>exact absurd (show false=true from hs) Bool.false_ne_true
 | int i=>
   obtain ⟨t,rfl⟩:=rx
   cases y with
   | non=>cases ry;exact PySem.EqNone.ne_int_none (bW I q (by simp))
   | int j=>obtain ⟨t',rfl⟩:=ry;exact ne_int (bW I q (congrArg not HV))
   | str j=>obtain ⟨t',rfl⟩:=ry;exact PySem.EqMixed.ne_int_str (bW I q (by simp))
   | _=>exact absurd (show false=true from hs) Bool.false_ne_true
 | str i=>
   obtain ⟨t,rfl⟩:=rx
   cases y with
   | non=>cases ry;exact PySem.EqNone.ne_str_none (bW I q (by simp))
   | bl j=>cases ry;exact PySem.EqMixed.ne_str_bool (bW I q (by simp))
   | int j=>obtain ⟨t',rfl⟩:=ry;exact PySem.EqMixed.ne_str_int (bW I q (by simp))
   | str j=>obtain ⟨t',rfl⟩:=ry;exact ne_str (bW I q (congrArg not HU))
   | _=>exact absurd (show false=true from hs) Bool.false_ne_true
 | byt i=>
   obtain ⟨t,rfl⟩:=rx
   cases y with
   | byt j=>obtain ⟨t',rfl⟩:=ry;exact PySem.W.ne_bytes (bW I q (congrArg not HW))
   | _=>exact absurd (show false=true from hs) Bool.false_ne_true
 | _=>cases y<;>exact absurd (show false=true from hs) Bool.false_ne_true
theorem Mh:OpR X (compareOp .Lt) (rI0 fun i j=> .bl (decide (i < j))):=opB0 fun _ _ _ _ _ _ _ q=>lt_int q
theorem PV:OpR X (compareOp .LtE) (rI0 fun i j=> .bl (decide (i≤j))):=opB0 fun _ _ _ _ _ _ _ q=>le_int q
theorem nI:OpR X (compareOp .Gt) (rI0 fun i j=> .bl (decide (j < i))):=opB0 fun _ _ _ _ _ _ _ q=>gt_int q
theorem PX:OpR X (compareOp .GtE) (rI0 fun i j=> .bl (decide (j≤i))):=opB0 fun _ _ _ _ _ _ _ q=>ge_int q
theorem a8 (b:Expr) {op:CmpOp} (h:op≠.In:=by decide) (h2:op≠.NotIn:=by decide):behindInMarks op b=false:=by
 have e1:(op == CmpOp.In)=false:=by cases op<;>first | rfl | exact absurd rfl h
 have e2:(op == CmpOp.NotIn)=false:=by cases op<;>first | rfl | exact absurd rfl h2
 cases b<;>simp [behindInMarks,e1,e2]
theorem iy {op:CmpOp} {r:R2} (ho:OpR X (compareOp op) r) (ha:PE X a ta) (hb:PE X b tb) (hm:behindInMarks op b=false):PE X (.Compare a [op] [b] pos) (tOp r ta tb):=by
 intro pins s σ H Q I h
 exact wpAny_Compare1 (binT ha hb I h fun v u s2 x y H2 I2 rx ry q=>ho pins s2 σ H2 x y v u Q I2 rx ry q) hm
noncomputable def Ni (t:TE):TT:=fun σ H Q=>t σ H fun x H'=>∃ k,x= .bl k∧Q k H'
theorem aU {op:CmpOp} {r:R2} (ho:OpR X (compareOp op) r) (ha:PE X a ta) (hb:PE X b tb) (hm:behindInMarks op b=false):PT X (.Compare a [op] [b] pos) (Ni (tOp r ta tb)):=by
 intro pins s σ H Q I h
 refine wpAny_isTrue_Compare1 (thn (ha pins s σ H _ I h) fun v s1 ⟨x,H1,I1,r1,q1⟩=>thn (hb pins s1 σ H1 _ I1 q1) fun u s2 ⟨y,H2,I2,r2,q2⟩=>
  thn (ho pins s2 σ H2 x y v u _ I2 r1 r2 q2) fun c s3 ⟨z,H3,I3,r3,k,e,q3⟩=>?_) hm
 subst e
 cases r3
 exact wpAny_truthy_bool ⟨H3,I3,q3⟩
noncomputable def P7 (r r':R2) (ta tb tc:TE):TE:=fun σ H Q=>ta σ H fun x H1=>tb σ H1 fun y H2=>r x y H2 fun z H3=>∃ k,z= .bl k∧
 (if k=true then tc σ H3 fun w' H4=>r' y w' H4 Q else Q (.bl false) H3)
theorem Ha:(sizeLine:Nat) < 2 ^ 63:=by rw [sizeLine_eq];decide
theorem F7 {x:V} {us:List Value} (r:Vals [x] us):∃ u,us=[u]∧RelV x u:=by
 cases r with
 | cons r1 r2=>cases r2;exact ⟨_,rfl,r1⟩
theorem Pi {x y:V} {us:List Value} (r:Vals [x,y] us):∃ u w',us=[u,w']∧RelV x u∧RelV y w':=by
 cases r with
 | cons r1 r2=>
   cases r2 with
   | cons r3 r4=>cases r4;exact ⟨_,_,rfl,r1,r3⟩
noncomputable def LenV (K:PySem.W.Frag) (x:V) (H:Hp) (n:Nat):Prop:=
 match x with
 | .str y=>y.length≤sizeLine∧n=y.length
 | .byt y=>y.size≤sizeLine∧n=y.size
 | .ref p=>(∃ xs,SqL K H p xs∧n=xs.length)∨∃ xs,SqT K H p xs∧n=xs.length
 | _=>False
theorem Kq:sM X (.builtin "len") (fun xs H Q=>∃ x n,xs=[x]∧LenV X.K x H n∧Q (.int n) H):=by
 intro pins s σ H xs us Q I r h
 obtain ⟨x,n,rfl,e,q⟩:=h
 obtain ⟨u,rfl,rx⟩:=F7 r
 have hl:=Ha
 have hs:sizeLine=16777216:=sizeLine_eq
 cases x with
 | str y=>
   obtain ⟨t,rfl⟩:=rx
   obtain ⟨hy,e'⟩:y.length≤sizeLine∧n=y.length:=e
   subst e'
   exact len_str (by omega) ⟨.int _,H,I.tok _,⟨_,rfl⟩,q⟩
 | byt y=>
   obtain ⟨t,rfl⟩:=rx
   obtain ⟨hy,e'⟩:y.size≤sizeLine∧n=y.size:=e
   subst e'
   exact PySem.W.len_bytes (by omega) ⟨.int _,H,I.tok _,⟨_,rfl⟩,q⟩
 | ref p=>
   cases rx
   have e':(∃ xs,SqL X.K H p xs∧n=xs.length)∨∃ xs,SqT X.K H p xs∧n=xs.length:=e
   rcases e' with ⟨xs,hx,e'⟩ | ⟨xs,hx,e'⟩
   ·subst e'
    obtain ⟨its,r',pl,hz⟩:=I.list hx
    have hlen:=r'.length
    exact Calls.call_len_list pl.isList (by simp only [List.size_toArray];omega) ⟨.int xs.length,H,I.tok _,⟨_,by simp only [List.size_toArray];rw [hlen]⟩,q⟩
   ·subst e'
    obtain ⟨its,r',pl,hz⟩:=I.tuple hx
    have hlen:=r'.length
    exact len_tuple pl (by simp only [List.size_toArray];omega) ⟨.int xs.length,H,I.tok _,⟨_,by simp only [List.size_toArray];rw [hlen]⟩,q⟩
 | _=>exact (show False from e).elim
end
structure ObjM (h:Heap) (x dx C:Addr) (mA:Str→Option Value):Prop where
 obj:h.get? x=some (PySem.W.instObj C dx)
 ns:h.Ns1 dx mA
 ne:dx≠x
theorem G8 {h:Heap} {dx:Addr} {mA:Str→Option Value} (n:h.Ns1 dx mA):∃ od,h.get? dx=some od∧∀ name,PySem.W.lookIn name od=some (mA name):=by
 obtain ⟨o,es,ep,ho,hd,hk,_,hm⟩:=n
 refine ⟨o,ho,fun name=>?_⟩
 have e:=hm name
 unfold nsFind findBy at e
 rw [← Array.find?_toList] at e
 unfold PySem.W.lookIn
 rw [hd]
 dsimp only
 split
 ·rename_i y q
  rw [q] at e
  exact congrArg some e
 ·rename_i q
  rw [q] at e
  have a:es.toList.any (·.refKey)=false:=by
   rw [List.any_eq_false]
   intro y hy
   obtain ⟨z,t,hkey⟩:=hk y (Array.mem_toList_iff.mp hy)
   simp [DictEntry.refKey,hkey]
  have a':¬ es.toList.any (·.refKey)=true:=by rw [a];exact Bool.false_ne_true
  rw [if_neg a']
  exact congrArg some e
theorem ObjM.look {h:Heap} {x dx C:Addr} {mA:Str→Option Value} (I:ObjM h x dx C mA):∃ od,PySem.W.InstAt h x (PySem.W.instObj C dx) C (some od)∧∀ name,PySem.W.lookIn name od=some (mA name):=
 let ⟨od,ho,hl⟩:=G8 I.ns
 ⟨od,⟨I.obj,rfl,rfl,ho⟩,hl⟩
section
variable {prog:Program} {w:World} {A:Around} {E:Value→Shared→Prop} {s:Shared} {K:PySem.W.Frag} {x dx C f:Addr} {mA:Str→Option Value} {name:Str} {v:Value}
theorem bZ {expr:Bool} {Q:Value→Shared→Prop} (X:K.In s.heap) (I:ObjM s.heap x dx C mA) (hg:PySem.W.plainGet K C name=true) (hh:PySem.W.hasDictIn K C=true)
  (ha:PySem.W.findIn K (.ref C) name=some none) (hv:mA name=some v) (hv':PySem.W.handedIn v=true) (h:Q v {s with toks:=s.toks + 1}):
  wpAny (model prog w) A (getAttr (.ref x) name expr) Q E s:=by
 obtain ⟨od,J,hl⟩:=I.look
 exact PySem.W.get_value X J (PySem.W.plainGet_of hg).1 (PySem.W.findObj_own hh ha rfl (by rw [hl,hv])) hv' h
theorem J8 {pl:Sem Bool} {Q:Value×List Value→Shared→Prop} (X:K.In s.heap) (I:ObjM s.heap x dx C mA) (hg:PySem.W.plainGet K C name=true)
  (hf:PySem.W.findIn K (.ref C) name=some (some (.ref f))) (ht:PySem.W.isFn K (.ref f)=true) (hv:mA name=none) (h:Q (.ref f,[.ref x]) s):
  wpAny (model prog w) A (getMethod (.ref x) name pl) Q E s:=by
 obtain ⟨od,J,hl⟩:=I.look
 exact PySem.W.method_fn X J (PySem.W.plainGet_of hg).1 (PySem.W.plainGet_of hg).2 hf (beq_iff_eq.mp ht) (by show (PySem.W.lookIn name od).map (·.isSome)=some false;rw [hl,hv];rfl) h
theorem LL {ns:List Str} {Q:Unit→Shared→Prop} (X:K.In s.heap) (I:ObjM s.heap x dx C mA)
  (hs:PySem.W.findIn K (.ref C) "__setattr__"=some (some (.builtin "object.__setattr__"))) (hp:PySem.W.plainOver K C=true) (ht:PySem.W.takerIn K C name=some none) (hh:PySem.W.hasDictIn K C=true)
  (hw:PySem.Within mA ns) (hsz:ns.length≤sizeLine)
  (h:∀ h',ObjM h' x dx C (fun y=>if y=name then some v else mA y)→Heap.SameBut dx s.heap h'→Q () {s with heap:=h',toks:=s.toks + 2}):
  wpAny (model prog w) A (setAttr (.ref x) name v) Q E s:=by
 obtain ⟨od,J,hl⟩:=I.look
 refine PySem.W.set_plain X J hs (PySem.W.osa_open (s:={s with toks:=s.toks + 1}) (r:=none) X J hp ht fun b=>?_)
 obtain ⟨cd,hc,hd'⟩:=PySem.W.any_some hh
 have hx:s.heap.get? x=some ⟨.ref C,some dx,.plain,#[]⟩:=I.obj
 refine wpAny_bind (wpAny_pure (wpAny_bind (wpAny_bind (wpAny_loadPart hx (wpAny_bind (PySem.W.Looks.here (s:={s with toks:=s.toks + 1}) (PySem.W.looks_clsIn X hc) ?_))))))
 rw [hd']
 refine wpAny_pure (a:=some dx) (wpAny_bind (wpAny_pure (wpAny_bind ?_)))
 refine wpAny_nsSet1 (s:={s with toks:=s.toks + 1}) I.ns fun h' hn2 hs2=>?_
 obtain ⟨oD,esD,epD,hoD,hdD,hcD⟩:=hn2.count (PySem.Within.cons name v hw)
 refine wpAny_bind (wpAny_lookBehind hoD (by rw [hdD];exact pastItsLine_dict (Nat.le_trans hcD (by rw [List.length_cons];omega))) ?_)
 exact wpAny_pure (h _ ⟨(hs2.2 _ (Ne.symm I.ne)).trans I.obj,hn2,I.ne⟩ hs2)
theorem JW {R:Result→Shared→Prop} {vs:List Value} {kw:List (Str×Value)} (X:K.In s.heap) (hm:PySem.W.makesIn K C=true)
  (hi:PySem.W.findIn K (.ref C) "__init__"=some (some (.ref f))) (hf:PySem.W.typeIn K (.ref f)=some (.type "function"))
  (h:codeAny (model prog w) (A.under (.builtin "type.__call__" ⟨.ref C::vs,kw⟩)) (.call (.ref f) ⟨.ref (s.heap.objs.size + 1)::vs,kw⟩) (PySem.W.InitBack (s.heap.objs.size + 1) R)
   {s with heap:=(s.heap.push PySem.W.emptyDict).push (PySem.W.instObj C s.heap.objs.size)}):
  codeAny (model prog w) A (.call (.ref C) ⟨vs,kw⟩) R s:=by
 obtain ⟨hh,g,d,t,os⟩:=s
 exact PySem.W.make_core (PySem.W.makes_of X hm) (PySem.W.looks_findIn X hi) (fun self=>PySem.W.bind_fn X self hf) (.inl rfl) h
end
noncomputable def putF (f:Str) (v:V):List (Str×V)→List (Str×V)
 | []=>[(f,v)]
 | (g,x)::r=>if g=f then (g,v)::r else (g,x)::putF f v r
theorem ug (f g:Str) (v:V):∀ fs:List (Str×V),(putF f v fs).lookup g=if g=f then some v else fs.lookup g
 | []=>by
   show List.lookup g [(f,v)]=_
   by_cases h:g=f
   ·have hb:(g == f)=true:=beq_iff_eq.mpr h
    simp only [List.lookup,hb,if_pos h]
   ·have hb:(g == f)=false:=beq_eq_false_iff_ne.mpr h
    simp only [List.lookup,hb,if_neg h]
 | (k,x)::r=>by
   have ih:=ug f g v r
   rw [show putF f v ((k,x)::r)=(if k=f then (k,v)::r else (k,x)::putF f v r) from rfl]
   by_cases hk:k=f
   ·rw [if_pos hk]
    by_cases h:g=k
    ·have hb:(g == k)=true:=beq_iff_eq.mpr h
     simp only [List.lookup,hb,if_pos (h.trans hk)]
    ·have hb:(g == k)=false:=beq_eq_false_iff_ne.mpr h
     simp only [List.lookup,hb,if_neg (fun e:g=f=>h (e.trans hk.symm))]
   ·rw [if_neg hk]
    by_cases h:g=k
    ·have hb:(g == k)=true:=beq_iff_eq.mpr h
     simp only [List.lookup,hb,if_neg (fun e:g=f=>hk (h.symm.trans e))]
    ·have hb:(g == k)=false:=beq_eq_false_iff_ne.mpr h
     simp only [List.lookup,hb]
     exact ih
theorem uw (f:Str) (v:V):∀ fs:List (Str×V),f∈(putF f v fs).map (·.1)∧∀ g,g∈fs.map (·.1)→g∈(putF f v fs).map (·.1)
 | []=>⟨by simp [putF],fun g h=>by simp at h⟩
 | (k,x)::r=>by
   obtain ⟨i1,i2⟩:=uw f v r
   rw [show putF f v ((k,x)::r)=(if k=f then (k,v)::r else (k,x)::putF f v r) from rfl]
   by_cases hk:k=f
   ·rw [if_pos hk]
    subst hk
    exact ⟨by simp,fun g h=>by simpa using h⟩
   ·rw [if_neg hk]
    refine ⟨?_,fun g h=>?_⟩
    ·rw [List.map_cons]
     exact List.mem_cons_of_mem _ i1
    ·rw [List.map_cons] at h ⊢
     rcases List.mem_cons.mp h with e | e
     ·exact List.mem_cons.mpr (.inl e)
     ·exact List.mem_cons_of_mem _ (i2 g e)
theorem uh (f:Str) (v:V):∀ fs:List (Str×V),(putF f v fs).length≤fs.length + 1
 | []=>by simp [putF]
 | (k,x)::r=>by
   have ih:=uh f v r
   rw [show putF f v ((k,x)::r)=(if k=f then (k,v)::r else (k,x)::putF f v r) from rfl]
   by_cases hk:k=f
   ·rw [if_pos hk,List.length_cons,List.length_cons];omega
   ·rw [if_neg hk,List.length_cons,List.length_cons];omega
theorem RelO.some_of {v:V} {o:Option Value} (r:RelO (some v) o):∃ u,o=some u∧RelV v u:=by
 cases o with
 | none=>exact (show False from r).elim
 | some u=>exact ⟨u,rfl,r⟩
theorem RelO.none_of {o:Option Value} (r:RelO none o):o=none:=by
 cases o with
 | none=>rfl
 | some u=>exact (show False from r).elim
theorem HB {v:V} {u:Value} (r:RelV v u):PySem.W.handedIn u=true:=by
 cases v with
 | non=>cases (show u=Value.none from r);rfl
 | bl b=>cases (show u=Value.bool b from r);rfl
 | int i=>obtain ⟨t,e⟩:=(show ∃ t,u=Value.int i t from r);cases e;rfl
 | str x=>obtain ⟨t,e⟩:=(show ∃ t,u=Value.str x t from r);cases e;rfl
 | byt b=>obtain ⟨t,e⟩:=(show ∃ t,u=Value.bytes b t from r);cases e;rfl
 | flt b=>obtain ⟨t,e⟩:=(show ∃ t,u=Value.float b t from r);cases e;rfl
 | ref a=>cases (show u=Value.ref a from r);rfl
 | ty n=>cases (show u=Value.type n from r);rfl
section
variable {P:Program} {w:World} {H H':Hp} {h h':Heap} {a C dx:Addr} {fs fs':List (Str×V)}
theorem BO (hok:HOk P w H h) (e:H a=some (.ins C dx fs)):∃ mA,ObjM h a dx C mA∧(∀ f,RelO (fs.lookup f) (mA f))∧PySem.Within mA (fs.map (·.1))∧fs.length≤1000∧H dx=some (.own a):=by
 obtain ⟨d,z,ne,ob,mA,n,r,q⟩:=(show eB P w H h a (.ins C dx fs) from hok a _ e)
 exact ⟨mA,⟨ob,n,ne⟩,r,q,z,d⟩
end
structure Cls (K:PySem.W.Frag) (C:Addr):Prop where
 pg:PySem.W.plainGet K C Str.empty=true
 hd:PySem.W.hasDictIn K C=true
 po:PySem.W.plainOver K C=true
 sa:PySem.W.findIn K (.ref C) "__setattr__"=some (some (.builtin "object.__setattr__"))
theorem Cls.get {K:PySem.W.Frag} {C:Addr} (c:Cls K C) (f:Str):PySem.W.plainGet K C f=true:=c.pg
noncomputable def dH (K:PySem.W.Frag) (C:Addr) (f:Str):Prop:=PySem.W.findIn K (.ref C) f=some none
theorem dH.taker {K:PySem.W.Frag} {C:Addr} {f:Str} (n:dH K C f):PySem.W.takerIn K C f=some none:=by
 unfold PySem.W.takerIn
 rw [show PySem.W.findIn K (.ref C) f=some none from n]
 rfl
structure Con (K:PySem.W.Frag) (C:Addr) (f:Str) (v:V) (u:Value):Prop where
 at_:PySem.W.findIn K (.ref C) f=some (some u)
 rel:RelV v u
 get:PySem.W.specialIn K u "__get__"=some none
 cp:PySem.W.copiedNames.contains f=false
structure Meth (K:PySem.W.Frag) (C:Addr) (m:Str) (f:Addr):Prop where
 at_:PySem.W.findIn K (.ref C) m=some (some (.ref f))
 fn:PySem.W.isFn K (.ref f)=true
 kp:PySem.W.keepIn K (.ref f)=true
section
variable {X:Cx} {pins:List (Addr×Obj)} {σ:St} {H:Hp} {s:Shared} {a C dx:Addr} {fs:List (Str×V)} {f:Str} {v:V} {A:Around} {E:Value→Shared→Prop}
theorem EO {b:Bool} {Q:Value→Shared→Prop} (I:Inv X pins σ H s) (e:H a=some (.ins C dx fs)) (c:Cls X.K C) (n:dH X.K C f) (l:fs.lookup f=some v)
  (h:∀ u s',Inv X pins σ H s'→RelV v u→Q u s'):wpAny (model X.prog X.w) A (getAttr (.ref a) f b) Q E s:=by
 obtain ⟨mA,O,r,_,_,_⟩:=BO I.hok e
 obtain ⟨u,hu,ru⟩:=RelO.some_of (v:=v) (o:=mA f) (by rw [← l];exact r f)
 exact bZ I.kIn O (c.get f) c.hd n hu (HB ru) (h u _ (I.tok _) ru)
theorem pX {m:Str} {g:Addr} {pl:Sem Bool} {Q:Value×List Value→Shared→Prop} (I:Inv X pins σ H s) (e:H a=some (.ins C dx fs)) (c:Cls X.K C) (k:Meth X.K C m g) (l:fs.lookup m=none)
  (h:Q (.ref g,[.ref a]) s):wpAny (model X.prog X.w) A (getMethod (.ref a) m pl) Q E s:=by
 obtain ⟨mA,O,r,_,_,_⟩:=BO I.hok e
 have hn:mA m=none:=RelO.none_of (by rw [← l];exact r m)
 exact J8 I.kIn O (c.get m) k.at_ k.fn hn h
theorem DL {y:V} {u:Value} {Q:Unit→Shared→Prop} (I:Inv X pins σ H s) (e:H a=some (.ins C dx fs)) (c:Cls X.K C) (n:dH X.K C f) (hl:fs.length < 1000) (ry:RelV y u)
  (h:∀ s',Inv X pins σ (upd H a (.ins C dx (putF f y fs))) s'→Q () s'):wpAny (model X.prog X.w) A (setAttr (.ref a) f u) Q E s:=by
 obtain ⟨mA,O,r,wi,_,ho⟩:=BO I.hok e
 have hz:(fs.map (·.1)).length≤sizeLine:=by rw [List.length_map,sizeLine_eq];omega
 refine LL I.kIn O c.sa c.po n.taker c.hd wi hz fun h' O' sb=>h _ ?_
 have hd:∃ o,h'.get? dx=some o:=let ⟨o,_,_,e',_⟩:=O'.ns;⟨o,e'⟩
 refine I.write (x:=a) (e:=dx) (by rw [e];exact True.intro) (.inr ho) (fun b q hb z=>(sb.2 b hb).trans z) hd ?_
 refine ⟨by rw [aL O.ne];exact ho,?_,O.ne,O'.obj,_,O'.ns,fun g=>?_,fun g hg=>?_⟩
 ·have:=uh f y fs;omega
 ·show RelO ((putF f y fs).lookup g) (if g=f then some u else mA g)
  rw [ug]
  by_cases q:g=f
  ·rw [if_pos q,if_pos q];exact ry
  ·rw [if_neg q,if_neg q];exact r g
 ·by_cases q:g=f
  ·rw [q];exact (uw f y fs).1
  ·refine (uw f y fs).2 g (wi g fun z=>hg ?_)
   show (if g=f then some u else mA g)=none
   rw [if_neg q];exact z
theorem Inv.made (I:Inv X pins σ H s):Inv X pins σ (upd (upd H s.heap.objs.size (.own (s.heap.objs.size + 1))) (s.heap.objs.size + 1) (.ins C s.heap.objs.size []))
  {s with heap:=(s.heap.push PySem.W.emptyDict).push (PySem.W.instObj C s.heap.objs.size)}:=by
 have e1:(s.heap.push PySem.W.emptyDict).get? s.heap.objs.size=some PySem.W.emptyDict:=Heap.get?_push_size s.heap rfl
 have e2:((s.heap.push PySem.W.emptyDict).push (PySem.W.instObj C s.heap.objs.size)).get? (s.heap.objs.size + 1)=some (PySem.W.instObj C s.heap.objs.size):=by
  have:=Heap.get?_push_size (s.heap.push PySem.W.emptyDict) (o:=PySem.W.instObj C s.heap.objs.size) rfl
  rwa [Heap.size_push] at this
 have e3:(s.heap.push PySem.W.emptyDict).Ns s.heap.objs.size (fun _=>none):=⟨PySem.W.emptyDict,#[],_,e1,rfl,(fun e he=>absurd he (by simp)),fun _=>rfl⟩
 have I1:=I.laid (a:=s.heap.objs.size) (o:= .own (s.heap.objs.size + 1)) (h':=s.heap.push PySem.W.emptyDict) (t':=s.toks) (fun b u q=>Heap.get?_push_of_some _ q) (Nat.le_refl _) ⟨_,e1⟩
 refine I1.laid (a:=s.heap.objs.size + 1) (o:= .ins C s.heap.objs.size []) (t':=s.toks) (fun b u q=>Heap.get?_push_of_some _ q) (Nat.le_of_eq (Heap.size_push _ _)) ?_
 have ne:s.heap.objs.size≠s.heap.objs.size + 1:=Nat.ne_of_lt (Nat.lt_succ_self _)
 refine ⟨by rw [aL ne,bf],Nat.zero_le _,ne,e2,fun _=>none,(Heap.Ns1.of_empty e3).at fun o q=>Heap.get?_push_of_some _ q,fun _=>True.intro,fun y hy=>absurd rfl hy⟩
theorem MT {prog:Program} {w:World} {env:Env} {e:Expr} {f:Str} {pos:Pos} {s:Shared} {Q:Value→Shared→Prop} (hb:attributeBase e f env (eval e env)=eval e env)
  (h:wpAny (model prog w) A (eval e env) (fun o s₁=>wpAny (model prog w) A (getAttr o f true) Q E s₁) E s):wpAny (model prog w) A (eval (.Attribute e f pos) env) Q E s:=
 Attribute_any_ h (by rw [arm_eval_Attribute,hb])
end
noncomputable def tFld (K:PySem.W.Frag) (ta:TE) (f:Str):TE:=fun σ H Q=>ta σ H fun x H1=>∃ a C dx fs v,x= .ref a∧H1 a=some (.ins C dx fs)∧Cls K C∧dH K C f∧fs.lookup f=some v∧Q v H1
noncomputable def sFld (K:PySem.W.Frag) (ta tv:TE) (f:Str):TS:=fun D σ H=>tv σ H fun y H1=>ta σ H1 fun x H2=>∃ a C dx fs,x= .ref a∧H2 a=some (.ins C dx fs)∧Cls K C∧dH K C f∧fs.length < 1000∧
 D.nx σ (upd H2 a (.ins C dx (putF f y fs)))
section
variable {X:Cx} {o e value:Expr} {f:Str} {pos pos' tpos:Pos} {ta tv:TE}
theorem On (he:PE X e ta) (hb:attributeBase e f X.env (eval e X.env)=eval e X.env):PE X (.Attribute e f pos) (tFld X.K ta f):=by
 intro pins s σ H Q I h
 refine MT hb (thn (he pins s σ H _ I h) fun u s1 ⟨x,H1,I1,rx,a,C,dx,fs,v,ex,ea,c,n,l,q⟩=>?_)
 subst ex
 obtain rfl:u=Value.ref a:=rx
 exact EO I1 ea c n l fun u' s2 I2 ru=>⟨v,H1,I2,ru,q⟩
theorem Oe (ha:PE X o ta) (hv:PE X value tv) (hs:swapsWith value (some (.Attribute o f pos')) pos.line X.env=pure false):PS X (.Assign [.Attribute o f pos'] value pos) (sFld X.K ta tv f):=by
 intro pins s σ H D I h
 refine plainObj_wpAny_Assign_Attribute (thn (hv pins s σ H _ I h) fun u s1 ⟨y,H1,I1,ry,q⟩=>thn (ha pins s1 σ H1 _ I1 q) fun ov s2 ⟨x,H2,I2,rx,a,C,dx,fs,ex,ea,c,n,l,q2⟩=>?_) hs
 subst ex
 obtain rfl:ov=Value.ref a:=rx
 exact DL I2 ea c n l ry fun s3 I3=>⟨σ,_,I3,q2⟩
end
section
variable {X:Cx} {pins:List (Addr×Obj)} {σ:St} {H:Hp} {s:Shared} {A:Around} {E:Value→Shared→Prop} {Q:Value→Shared→Prop} {c:Value} {b:Bool}
inductive TyOf (K:PySem.W.Frag) (H:Hp):V→Value→Prop where
 | non:TyOf K H .non (.type "NoneType")
 | bl (x:Bool):TyOf K H (.bl x) (.type "bool")
 | int (i:Int):TyOf K H (.int i) (.type "int")
 | str (x:Str):TyOf K H (.str x) (.type "str")
 | flt (x:UInt64):TyOf K H (.flt x) (.type "float")
 | lst {a:Addr} {xs:List V} (e:H a=some (.lst xs)):TyOf K H (.ref a) (.type "list")
 | frz {a:Addr} {o:Obj} {xs:List V} (e:H a=some (.frz o (.lst xs))):TyOf K H (.ref a) (.type "list")
 | tup {a:Addr} {xs:List V} (e:H a=some (.tup xs)):TyOf K H (.ref a) (.type "tuple")
 | dK {a:Addr} {kvs:List (Key×V)} (e:H a=some (.dK kvs)):TyOf K H (.ref a) (.type "dict")
 | dT {a:Addr} {kvs:List (List Key×V)} (e:H a=some (.dT kvs)):TyOf K H (.ref a) (.type "dict")
 | ins {a C dx:Addr} {fs:List (Str×V)} (e:H a=some (.ins C dx fs)) (cl:Cls K C) (ha:PySem.W.findIn K (.ref C) "__class__"=some (some (.builtin "object.__class__")))
   (hn:PySem.W.specialIn K (.builtin "object.__class__") "__get__"=some (some (.builtin "getset_descriptor.__get__"))) (htk:PySem.W.takesIn K (.builtin "object.__class__")=some true)
   (hm:PySem.W.mroIn K C (.type "object")=some true):TyOf K H (.ref a) (.ref C)
end
structure Room (k:Nat) (A:Around):Prop where
 hd:A.handled=none
 dp:A.depth + 3 * k + 5 < recursionLimit
 un:A.units + 16 * k + 200 < cLine
theorem Room.mono {j k:Nat} {A:Around} (r:Room k A) (h:j≤k):Room j A:=⟨r.hd,by have:=r.dp;omega,by have:=r.un;omega⟩
theorem Room.deeper {k:Nat} {A:Around} (r:Room (k + 1) A) (env:Env):Room k (A.deeper env):=
 ⟨r.hd,by have:=r.dp;show A.depth + 1 + 3 * k + 5 < _;omega,by have:=r.un;show A.units + 3 + 16 * k + 200 < _;omega⟩
theorem EA {A:Around} {C:Addr} {us:List Value} {kw:List (Str×Value)}:(A.under (.builtin "type.__call__" ⟨.ref C::us,kw⟩)).depth=A.depth + 1:=by
 first | rfl | simp [Around.under,Code.weight,Code.isCreation,Code.isGuard,Code.isCaller,Code.frames,Code.isFrame,guardIds]
theorem Ez {A:Around} {C:Addr} {us:List Value} {kw:List (Str×Value)}:(A.under (.builtin "type.__call__" ⟨.ref C::us,kw⟩)).units=A.units + 1:=by
 first | rfl | simp [Around.under,Code.cUnits,Code.frames,Code.isFrame]
theorem Room.make {k:Nat} {A:Around} (r:Room (k + 1) A) (C:Addr) (us:List Value) (kw:List (Str×Value)):Room k (A.under (.builtin "type.__call__" ⟨.ref C::us,kw⟩)):=
 ⟨r.hd,by have:=r.dp;rw [EA];omega,by have:=r.un;rw [Ez];omega⟩
theorem Room.depth {k:Nat} {A:Around} (r:Room k A):A.depth < recursionLimit:=by have:=r.dp;omega
theorem Room.units {k:Nat} {A:Around} (r:Room k A):A.units + 64 < cLine:=by have:=r.un;omega
noncomputable def tNil:TA:=fun _ H Q=>Q [] H
noncomputable def Nw (ta:TE) (tr:TA):TA:=fun σ H Q=>ta σ H fun x H1=>tr σ H1 fun xs H2=>Q (x::xs) H2
section
variable {X:Cx} {e:Expr} {es:List Expr} {te:TE} {t:TA} {pos:Pos}
theorem ai:PA X [] tNil:=fun _ _ _ _ H Q I h=>Calls.spliced_nil ⟨[],H,I,.nil,h⟩
theorem aa (ha:PE X e te) (hr:PA X es t) (hs:starEach (e::es) X.env=(false,eval e X.env)::starEach es X.env:=by rfl):PA X (e::es) (Nw te t):=by
 intro pos pins s σ H Q I h
 rw [hs]
 show wpAny _ _ (spliced ((false,eval e X.env)::backTo pos (starEach es X.env))) _ _ s
 refine Calls.spliced_cons (thn (ha pins s σ H _ I h) fun u s1 ⟨x,H1,I1,r1,q1⟩=>?_)
 exact thn (hr pos pins s1 σ H1 _ I1 q1) fun us s2 ⟨xs,H2,I2,r2,q2⟩=>⟨x::xs,H2,I2,.cons r1 r2,q2⟩
noncomputable def tTup (t:TA):TE:=fun σ H Q=>t σ H fun xs H1=>xs.length≤sizeLine∧∀ p,H1 p=none→Q (.ref p) (upd H1 p (.tup xs))
noncomputable def tLst (t:TA):TE:=fun σ H Q=>t σ H fun xs H1=>xs.length≤sizeLine∧∀ p,H1 p=none→Q (.ref p) (upd H1 p (.lst xs))
theorem dF {x1} (h:PA X es t):PE X (.Tuple es x1 pos) (tTup t):=by
 intro pins s σ H Q I hq
 refine wpAny_Tuple_spliced (thn (h pos pins s σ H _ I hq) fun us s1 ⟨xs,H1,I1,r,z,q⟩=>⟨by rw [← r.length];exact z,?_⟩)
 have hf:H1 s1.heap.objs.size=none:=I1.hok.fresh (Nat.le_refl _)
 refine ⟨.ref s1.heap.objs.size,upd H1 s1.heap.objs.size (.tup xs),I1.laid (t':=s1.toks) (fun b u e=>Heap.get?_push_of_some _ e) (Nat.le_refl _) ?_,rfl,q _ hf⟩
 exact ⟨z,us,r,⟨_,Heap.get?_push_size _ rfl,rfl,_,rfl⟩⟩
theorem eh (h:PA X es t):PE X (.List es pos) (tLst t):=by
 intro pins s σ H Q I hq
 refine wpAny_List_spliced (thn (h pos pins s σ H _ I hq) fun us s1 ⟨xs,H1,I1,r,z,q⟩=>⟨by rw [← r.length];exact z,?_⟩)
 have hf:H1 s1.heap.objs.size=none:=I1.hok.fresh (Nat.le_refl _)
 refine ⟨.ref s1.heap.objs.size,upd H1 s1.heap.objs.size (.lst xs),I1.laid (t':=s1.toks) (fun b u e=>Heap.get?_push_of_some _ e) (Nat.le_refl _) ?_,rfl,q _ hf⟩
 exact ⟨z,us,0,r,Heap.get?_push_size _ rfl⟩
end
noncomputable abbrev Sp:=List V→Hp→VK→XK→Prop
noncomputable abbrev CXT:=List Env→Hp→Shared→XK→Value→Shared→Prop
structure Env0 (P:Program) (w:World) (K:PySem.W.Frag) (mg:Str→Option Value) (base:Heap) (A:Around) (outer:List Env) (s:Shared) (H:Hp):Prop where
 frames:A.frames=some outer
 mod:Mod K mg base
 bs:∀ b o,base.get? b=some o→s.heap.get? b=some o∧H b=none
 bsz:base.objs.size≤s.heap.objs.size
 funs:s.heap.FunFrames base outer
 frf:∀ b∈frs outer,H b=none
 hok:HOk P w H s.heap
 bare:AllBare s.gens
noncomputable def CE (outer:List Env) (P:Program) (w:World) (H:Hp) (s:Shared) (Q:VK) (u:Value) (s':Shared):Prop:=
 ∃ v H',s'.os=s.os∧AllBare s'.gens∧Un (frs outer) [] H H' s.heap s'.heap∧HOk P w H' s'.heap∧RelV v u∧Q v H'
noncomputable def CR (CX:CXT) (outer:List Env) (P:Program) (w:World) (H:Hp) (s:Shared) (Q:VK) (E:XK) (r:Result) (s':Shared):Prop:=
 match r with
 | .ok (.ret u)=>CE outer P w H s Q u s'
 | .ok _=>False
 | .error e=>CX outer H s E e s'
structure FnOk (P:Program) (w:World) (K:PySem.W.Frag) (mg:Str→Option Value) (base:Heap) (CX:CXT) (k:Nat) (f:Addr) (fd:FuncData) (ps:List Str) (sp:Sp):Prop where
 len:∀ vs H Q E,sp vs H Q E→vs.length=ps.length
 run:∀ (A:Around) (outer:List Env) (s:Shared) (H:Hp) (args:Args) (us:List Value) (vs:List V) (Q:VK) (E:XK),Room k A→Env0 P w K mg base A outer s H→BindsTo s fd args (ps.zip us)→Vals vs us→sp vs H Q E→
  codeAny (model P w) A (.call (.ref f) args) (CR CX outer P w H s Q E) s
theorem Env0.make {P:Program} {w:World} {K:PySem.W.Frag} {mg:Str→Option Value} {base:Heap} {A:Around} {outer:List Env} {s:Shared} {H:Hp} (e:Env0 P w K mg base A outer s H) (C:Addr) (us:List Value) (kw:List (Str×Value)):
  Env0 P w K mg base (A.under (.builtin "type.__call__" ⟨.ref C::us,kw⟩)) outer s H:=⟨by first | exact e.frames | (simpa [Around.under,Code.envs,Code.isFrame,pushEnvs] using e.frames),e.mod,e.bs,e.bsz,e.funs,e.frf,e.hok,e.bare⟩
section
variable {X:Cx} {pins:List (Addr×Obj)} {σ:St} {H:Hp} {s s':Shared}
theorem Inv.env0 (I:Inv X pins σ H s):Env0 X.prog X.w X.K X.mg X.base X.A X.stack s H:=
 ⟨I.ok.frames,I.ok.mod,I.bs,Nat.le_trans I.ok.bsz I.sz,I.stack,I.stkFree,I.hok,I.bare⟩
theorem Inv.after {Q:VK} {u:Value} (I:Inv X pins σ H s) (h:CE X.stack X.prog X.w H s Q u s'):EP X pins σ Q u s':=by
 obtain ⟨v,H',os,bare,un,hok,r,q⟩:=h
 obtain ⟨hh,g,d,t,os'⟩:=s'
 obtain rfl:os'=s.os:=os
 exact ⟨v,H',I.call (h':=hh) (g':=g) (d':=d) (t':=t) (ch:=[]) un hok bare (fun b z=>absurd z (by simp)),r,q⟩
end
noncomputable def Lu (sp:Sp) (dvs:List V) (E:XK) (t:TA):TE:=fun σ H Q=>t σ H fun vs H1=>sp (vs++dvs) H1 Q E
noncomputable def Ls (C:Addr) (m:Str) (sp:Sp) (dvs:List V) (E:XK) (ta:TE) (t:TA):TE:=fun σ H Q=>ta σ H fun x H1=>∃ a dx fs,x= .ref a∧H1 a=some (.ins C dx fs)∧fs.lookup m=none∧
 t σ H1 fun vs H2=>sp (x::(vs++dvs)) H2 Q E
noncomputable def Nn (C:Addr) (sp:Sp) (dvs:List V) (E:XK) (t:TA):TE:=fun σ H Q=>t σ H fun vs H1=>∀ x dx,H1 x=none→H1 dx=none→dx≠x→
 sp (.ref x::(vs++dvs)) (upd (upd H1 dx (.own x)) x (.ins C dx [])) (fun v H2=>v= .non∧Q (.ref x) H2) E
noncomputable def bz (K:PySem.W.Frag) (fd:FuncData) (ps:List Str) (ds:List Value):Prop:=
 ∀ (s:Shared) (us:List Value),K.In s.heap→(us++ds).length=ps.length→BindsTo s fd ⟨us,[]⟩ (ps.zip (us++ds))
theorem bz.all {K:PySem.W.Frag} {fd:FuncData} {ps:List Str} (h:∀ us:List Value,us.length=ps.length→bindArgs fd ⟨us,[]⟩=pure (ps.zip us)):bz K fd ps []:=fun s us _ hl=>by
 rw [List.append_nil] at hl ⊢
 exact .of_eq (h us hl)
noncomputable def vi (CX:CXT) (X:Cx) (E:XK):Prop:=∀ (pins:List (Addr×Obj)) (σ:St) (H:Hp) (s:Shared) (e:Value) (s':Shared),Inv X pins σ H s→CX X.stack H s E e s'→X.xe e s'
section
variable {X:Cx} {CX:CXT} {k:Nat} {f C:Addr} {fd:FuncData} {ps:List Str} {sp:Sp} {dvs:List V} {ds:List Value} {E:XK} {x m:Str} {p pos apos:Pos} {e o:Expr} {es:List Expr} {ta:TE} {t:TA}
theorem GG {pins:List (Addr×Obj)} {σ:St} {H:Hp} {s:Shared} {Q:VK} {us:List Value} {vs:List V} (F:FnOk X.prog X.w X.K X.mg X.base CX k f fd ps sp) (hr:Room k X.A) (hb:bz X.K fd ps ds) (hd:Vals dvs ds) (hx:vi CX X E)
  (I:Inv X pins σ H s) (r:Vals vs us) (h:sp (vs++dvs) H Q E):wpAny (model X.prog X.w) X.A (call (.ref f) us) (EP X pins σ Q) X.xe s:=by
 have r2:Vals (vs++dvs) (us++ds):=r.append hd
 have hl:(us++ds).length=ps.length:=by rw [← r2.length];exact F.len _ _ _ _ h
 refine wpAny_call (codeAny_mono (F.run X.A X.stack s H ⟨us,[]⟩ (us++ds) (vs++dvs) Q E hr I.env0 (hb s us I.kIn hl) r2 h) fun r s' hq=>?_)
 cases r with
 | error e=>exact hx pins σ H s e s' I hq
 | ok fl=>
   cases fl with
   | ret u=>exact I.after hq
   | next=>exact False.elim hq
   | brk=>exact False.elim hq
   | cont=>exact False.elim hq
theorem au (F:FnOk X.prog X.w X.K X.mg X.base CX k f fd ps sp) (hr:Room k X.A) (hg:Gl X x) (hm:X.mg x=some (.ref f)) (hk:PySem.W.keepIn X.K (.ref f)=true) (hb:bz X.K fd ps ds) (hd:Vals dvs ds) (hx:vi CX X E)
  (ha:PA X (e::es) t) (hdb:(x == ("__debug__":Str))=false:=by decide) (he:starEach (e::es) X.env=(false,eval e X.env)::starEach es X.env:=by rfl) (hpl:(backTo pos (starEach es X.env)).any (·.1)=false:=by rfl):
  PE X (.Call (.Name x p) (e::es) [] pos) (Lu sp dvs E t):=by
 intro pins s σ H Q I h
 refine wpAny_Call_Name_kw (ui I hg hm ?_ hdb)
 refine PySem.W.callWith_K (h₀:=X.base) I.ok.mod.kin hk (thn (ha pos pins s σ H _ I h) fun us s1 ⟨vs,H1,I1,r,q⟩=>⟨I1.kIn,?_⟩) he hpl
 exact GG F hr hb hd hx I1 r q
theorem xU {pl:Sem Bool} (he:PE X o ta) (c:Cls X.K C) (hm:Meth X.K C m f) (F:FnOk X.prog X.w X.K X.mg X.base CX k f fd ps sp) (hr:Room k X.A) (hb:bz X.K fd ps ds) (hd:Vals dvs ds) (hx:vi CX X E) (ha:PA X (e::es) t)
  (hst:starEach (e::es) X.env=(false,eval e X.env)::starEach es X.env:=by rfl) (hpl:(backTo pos (starEach es X.env)).any (·.1)=false:=by rfl)
  (ht:eval (.Call (.Attribute o m apos) (e::es) [] pos) X.env=(do
   let ov ← eval o X.env
   standAt apos.atName
   let (f,first) ← holding [ov] (getMethod ov m pl)
   callWith pos f first (backTo pos (starEach (e::es) X.env)) (backToKw pos (keywordEach [] X.env))):=by rfl):
  PE X (.Call (.Attribute o m apos) (e::es) [] pos) (Ls C m sp dvs E ta t):=by
 intro pins s σ H Q I h
 refine PySem.W.methodCall_KW (pl:=pl) (thn (he pins s σ H _ I h) fun u s1 ⟨x,H1,I1,rx,a,dx,fs,ex,ea,l,q⟩=>?_) ht
 subst ex
 obtain rfl:u=Value.ref a:=rx
 refine pX I1 ea c hm l ?_
 refine PySem.W.callWith_K (first:=[.ref a]) (h₀:=X.base) I.ok.mod.kin hm.kp (thn (ha pos pins s1 σ H1 _ I1 q) fun us s2 ⟨vs,H2,I2,r,q2⟩=>⟨I2.kIn,?_⟩) hst hpl
 exact GG (us:= .ref a::us) (vs:= .ref a::vs) F hr hb hd hx I2 (.cons rfl r) q2
theorem xT {pl:Sem Bool} (he:PE X o ta) (c:Cls X.K C) (hm:Meth X.K C m f) (F:FnOk X.prog X.w X.K X.mg X.base CX k f fd ps sp) (hr:Room k X.A) (hb:bz X.K fd ps ds) (hd:Vals dvs ds) (hx:vi CX X E)
  (ht:eval (.Call (.Attribute o m apos) [] [] pos) X.env=(do
   let ov ← eval o X.env
   standAt apos.atName
   let (f,first) ← holding [ov] (getMethod ov m pl)
   callWith pos f first (backTo pos (starEach [] X.env)) (backToKw pos (keywordEach [] X.env))):=by rfl):
  PE X (.Call (.Attribute o m apos) [] [] pos) (Ls C m sp dvs E ta tNil):=by
 intro pins s σ H Q I h
 refine PySem.W.methodCall_KW (pl:=pl) (thn (he pins s σ H _ I h) fun u s1 ⟨x,H1,I1,rx,a,dx,fs,ex,ea,l,q⟩=>?_) ht
 subst ex
 obtain rfl:u=Value.ref a:=rx
 refine pX I1 ea c hm l ?_
 exact PySem.W.callWith_K0 (first:=[.ref a]) I1.kIn hm.kp (GG (us:=[.ref a]) (vs:=[.ref a]) F hr hb hd hx I1 (.cons rfl .nil) q)
structure Mk (K:PySem.W.Frag) (C f:Addr):Prop where
 makes:PySem.W.makesIn K C=true
 init:PySem.W.findIn K (.ref C) "__init__"=some (some (.ref f))
 fn:PySem.W.isFn K (.ref f)=true
 kp:PySem.W.keepIn K (.ref C)=true
theorem JB {pins:List (Addr×Obj)} {σ:St} {H:Hp} {s:Shared} {Q:VK} {us:List Value} {vs:List V} (M:Mk X.K C f) (F:FnOk X.prog X.w X.K X.mg X.base CX k f fd ps sp) (hr:Room (k + 1) X.A) (hb:bz X.K fd ps ds) (hd:Vals dvs ds)
  (hx:vi CX X E) (I:Inv X pins σ H s) (r:Vals vs us)
  (h:∀ x dx,H x=none→H dx=none→dx≠x→sp (.ref x::(vs++dvs)) (upd (upd H dx (.own x)) x (.ins C dx [])) (fun v H2=>v= .non∧Q (.ref x) H2) E):
  wpAny (model X.prog X.w) X.A (call (.ref C) us) (EP X pins σ Q) X.xe s:=by
 have hq:=h (s.heap.objs.size + 1) s.heap.objs.size (I.hok.fresh (Nat.le_succ _)) (I.hok.fresh (Nat.le_refl _)) (Nat.ne_of_lt (Nat.lt_succ_self _))
 have I2:=Inv.made (C:=C) I
 have r2:Vals (V.ref (s.heap.objs.size + 1)::(vs++dvs)) (Value.ref (s.heap.objs.size + 1)::(us++ds)):= .cons rfl (r.append hd)
 have hl:(Value.ref (s.heap.objs.size + 1)::us++ds).length=ps.length:=by
  have e:=r2.length
  rw [F.len _ _ _ _ hq] at e
  exact e.symm
 refine wpAny_call (JW (f:=f) I.kIn M.makes M.init (beq_iff_eq.mp M.fn) (codeAny_mono (F.run _ X.stack _ _ ⟨Value.ref (s.heap.objs.size + 1)::us,[]⟩ (Value.ref (s.heap.objs.size + 1)::(us++ds)) _ _ E (hr.make C us [])
  (I2.env0.make C us []) (hb _ (Value.ref (s.heap.objs.size + 1)::us) I2.kIn hl) r2 hq) fun r s' hq'=>?_))
 cases r with
 | error e=>exact hx pins σ _ _ e s' I2 hq'
 | ok fl=>
   cases fl with
   | ret u=>
     obtain ⟨v,H',I3,rv,ev,q3⟩:=I2.after hq'
     subst ev
     exact ⟨rv,⟨V.ref (s.heap.objs.size + 1),H',I3,rfl,q3⟩⟩
   | next=>exact False.elim hq'
   | brk=>exact False.elim hq'
   | cont=>exact False.elim hq'
theorem GR (M:Mk X.K C f) (F:FnOk X.prog X.w X.K X.mg X.base CX k f fd ps sp) (hr:Room (k + 1) X.A) (hg:Gl X x) (hm:X.mg x=some (.ref C)) (hb:bz X.K fd ps ds) (hd:Vals dvs ds) (hx:vi CX X E)
  (ha:PA X (e::es) t) (hdb:(x == ("__debug__":Str))=false:=by decide) (he:starEach (e::es) X.env=(false,eval e X.env)::starEach es X.env:=by rfl) (hpl:(backTo pos (starEach es X.env)).any (·.1)=false:=by rfl):
  PE X (.Call (.Name x p) (e::es) [] pos) (Nn C sp dvs E t):=by
 intro pins s σ H Q I h
 refine wpAny_Call_Name_kw (ui I hg hm ?_ hdb)
 refine PySem.W.callWith_K (h₀:=X.base) I.ok.mod.kin M.kp (thn (ha pos pins s σ H _ I h) fun us s1 ⟨vs,H1,I1,r,q⟩=>⟨I1.kIn,?_⟩) he hpl
 exact JB M F hr hb hd hx I1 r q
end
section
variable {X:Cx} {CX:CXT} {k:Nat} {f C:Addr} {fd:FuncData} {ps ks:List Str} {sp:Sp} {E:XK} {x m:Str} {p pos apos kpos:Pos} {e o:Expr} {es:List Expr} {kws:List Keyword} {te ta:TE} {t tk:TA} {nm:Option Str}
structure P9 (K:PySem.W.Frag) (fd:FuncData) (ps ks:List Str) (g:List Value→List Value→List Value) (gV:List V→List V→List V):Prop where
 to:∀ (s:Shared) (us ws:List Value),K.In s.heap→(g us ws).length=ps.length→BindsTo s fd ⟨us,ks.zip ws⟩ (ps.zip (g us ws))
 rel:∀ {vs:List V} {us:List Value} {zs:List V} {ws:List Value},Vals vs us→Vals zs ws→Vals (gV vs zs) (g us ws)
variable {g:List Value→List Value→List Value} {gV:List V→List V→List V}
end
structure aD (N P:List Str) (sc:Scope):Prop where
 kind:sc.kind= .function
 co:sc.isCoroutine=false
 gen:sc.isGenerator=false
 nd:N.Nodup
 pre:N.take P.length=P
 par:∀ x∈P,sc.names.lookup x=some .local∨sc.names.lookup x=some .cell
 nofree:∀ y∈sc.names,y.2≠.free
theorem AF {kindOf:Str→Option NameKind} {x:Str}:∀ {binds:List (Str×Value)} {m:Str→Option Value},(∀ v,(x,v)∉binds)→bindL kindOf binds m x=m x
 | [],_,_=>rfl
 | (n,v)::r,m,h=>by
   unfold bindL
   rw [AF fun w hw=>h w (List.mem_cons_of_mem _ hw)]
   split
   ·have:x≠n:=by rintro rfl;exact h v List.mem_cons_self
    simp [this]
   ·rfl
theorem AH {kindOf:Str→Option NameKind} {x:Str}:∀ {binds:List (Str×Value)} {m:Str→Option Value},(∀ v,(x,v)∉binds)→bindC kindOf binds m x=m x
 | [],_,_=>rfl
 | (n,v)::r,m,h=>by
   unfold bindC
   rw [AH fun w hw=>h w (List.mem_cons_of_mem _ hw)]
   split
   ·rfl
   ·have:x≠n:=by rintro rfl;exact h v List.mem_cons_self
    simp [this]
theorem AG {kindOf:Str→Option NameKind} {x:Str} {v:Value}:∀ {P:List Str} {vs:List Value} {i:Nat} {m:Str→Option Value},P.Nodup→P[i]? =some x→vs[i]? =some v→kindOf x=some .local→
  bindL kindOf (P.zip vs) m x=some v
 | [],_,_,_,_,h,_,_=>by simp at h
 | _::_,[],_,_,_,_,h,_=>by simp at h
 | p::P,w::vs,0,m,nd,h1,h2,hk=>by
   simp at h1 h2;subst h1;subst h2
   show bindL kindOf ((p,w)::P.zip vs) m p=_
   unfold bindL
   rw [AF fun v hv=>(List.nodup_cons.mp nd).1 (List.of_mem_zip hv).1,if_pos hk]
   simp
 | p::P,w::vs,i + 1,m,nd,h1,h2,hk=>by
   show bindL kindOf ((p,w)::P.zip vs) m x=_
   unfold bindL
   exact AG (i:=i) (List.nodup_cons.mp nd).2 (by simpa using h1) (by simpa using h2) hk
theorem AI {kindOf:Str→Option NameKind} {x:Str} {v:Value}:∀ {P:List Str} {vs:List Value} {i:Nat} {m:Str→Option Value},P.Nodup→P[i]? =some x→vs[i]? =some v→kindOf x≠some .local→
  bindC kindOf (P.zip vs) m x=some v
 | [],_,_,_,_,h,_,_=>by simp at h
 | _::_,[],_,_,_,_,h,_=>by simp at h
 | p::P,w::vs,0,m,nd,h1,h2,hk=>by
   simp at h1 h2;subst h1;subst h2
   show bindC kindOf ((p,w)::P.zip vs) m p=_
   unfold bindC
   rw [AH fun v hv=>(List.nodup_cons.mp nd).1 (List.of_mem_zip hv).1,if_neg hk]
   simp
 | p::P,w::vs,i + 1,m,nd,h1,h2,hk=>by
   show bindC kindOf ((p,w)::P.zip vs) m x=_
   unfold bindC
   exact AI (i:=i) (List.nodup_cons.mp nd).2 (by simpa using h1) (by simpa using h2) hk
noncomputable def qV (N:List Str) (vs:List V):St:=vs.map some++List.replicate (N.length - vs.length) none
noncomputable def cxOf (CX:CXT) (P:Program) (w:World) (K:PySem.W.Frag) (mg:Str→Option Value) (base:Heap) (N:List Str) (qual:Str) (scope:Scope) (f:Addr) (cd:Value) (A:Around) (outer:List Env) (s:Shared) (H:Hp) (E:XK):Cx where
 prog:=P
 w:=w
 K:=K
 mg:=mg
 base:=base
 A:=A.deeper (envOfC qual scope s.heap.objs.size f cd)
 N:=N
 s₀:=s
 H₀:=H
 env:=envOfC qual scope s.heap.objs.size f cd
 outer:=outer
 stack:=envOfC qual scope s.heap.objs.size f cd::outer
 ex:=[]
 calm:=true
 fn:=fun _=>true
 pn:=[]
 xe:=fun e s'=>wpAny (model P w) (A.deeper (envOfC qual scope s.heap.objs.size f cd)) (leaving (envOfC qual scope s.heap.objs.size f cd) e) (fun _ s''=>CX outer H s E e s'') (fun e' s''=>CX outer H s E e' s'') s'
theorem C2 {sc:Scope} {n:Nat} {x:Str} (h:sc.names.lookup x=some .cell):∃ c,(cellsFrom n sc.names []).lookup x=some c:=by
 have q:=PySem.W.cellsFrom_some sc.names n [] (.inl h)
 exact Option.isSome_iff_exists.mp q
theorem Hy {CX:CXT} {P:Program} {w:World} {K:PySem.W.Frag} {mg:Str→Option Value} {base:Heap} {N ps:List Str} {qual:Str} {scope:Scope} {f:Addr} {cd:Value} {A:Around} {outer:List Env} {s s1:Shared} {H:Hp} {E:XK} {us:List Value} {vs:List V}
  (S:aD N ps scope) (hd:A.handled=none) (e0:Env0 P w K mg base A outer s H) (hl:vs.length=ps.length) (r:Vals vs us)
  (x:InCallC s s.heap.objs.size (bindL (envOfC qual scope s.heap.objs.size f cd).kindOf (ps.zip us) fun _=>none) (cellsFrom (s.heap.objs.size + 1) scope.names []) (bindC (envOfC qual scope s.heap.objs.size f cd).kindOf (ps.zip us) fun _=>none) s1):
  Inv (cxOf CX P w K mg base N qual scope f cd A outer s H E) [] (qV N vs) H s1:=by
 have hpl:ps.length≤N.length:=by have:=congrArg List.length S.pre;rw [List.length_take] at this;omega
 obtain ⟨h1,tk,rfl,hk⟩:=x.done
 have noA:∀ b:Addr,b∉(cxOf CX P w K mg base N qual scope f cd A outer s H E).ex:=fun b z=>absurd (show b∈([]:List Addr) from z) (by simp)
 refine ⟨⟨e0.mod,S.kind,rfl,rfl,Nat.le_refl _,fun y z c h1 h2=>?_,fun y hy=>?_,fun y c _ h=>?_,fun _=>hd,Around.frames_deeper e0.frames,.inr ⟨rfl,rfl⟩,fun b z=>absurd z (noA b),e0.bs,e0.bsz,fun b _ _=>noA b,fun b z=>absurd z (noA b),e0.funs,e0.frf⟩,
  rfl,e0.bare,Un.kept hk,⟨_,x.toInCall.ns,fun i y v h1 h2 h3=>?_⟩,fun y c h=>⟨_,x.cell y c h⟩,e0.hok.fresh (Nat.le_refl _),fun y c h=>?_,fun p hp=>absurd (show p∈([]:List (Addr×Obj)) from hp) (by simp),e0.hok.kept hk,?_⟩
 ·exact name_of_addr x.apart (PySem.mem_of_lookup h1) (PySem.mem_of_lookup h2)
 ·have hy:scope.names.lookup y=some .cell∨scope.names.lookup y=some .free:=hy
  rcases hy with hy | hy
  ·exact C2 hy
  ·exact absurd rfl (S.nofree _ (PySem.mem_of_lookup hy))
 ·exact Nat.le_of_lt (x.above y c (PySem.mem_of_lookup h))
 ·have hi:i < vs.length:=by
   unfold qV at h2
   by_cases hi:i < vs.length
   ·exact hi
   ·rw [List.getElem?_append_right (by simpa using hi)] at h2
    rw [List.getElem?_replicate] at h2
    split at h2<;>cases h2
  have ha:vs[i]? =some v:=by
   unfold qV at h2
   rw [List.getElem?_append_left (by simpa using hi),List.getElem?_map] at h2
   cases e:vs[i]? with
   | none=>rw [e] at h2;cases h2
   | some a=>rw [e] at h2;cases h2;rfl
  obtain ⟨u,hu,rv⟩:=r.get ha
  have hp:ps[i]? =some y:=by
   rw [← S.pre,List.getElem?_take_of_lt (by omega)];exact h1
  have ndP:ps.Nodup:=by rw [← S.pre];exact S.nd.sublist (List.take_sublist _ _)
  refine ⟨u,rv,?_⟩
  rcases S.par y (List.mem_of_getElem? hp) with k | k
  ·exact .inl ⟨k,AG ndP hp hu k⟩
  ·obtain ⟨c,e⟩:=C2 (n:=s.heap.objs.size + 1) k
   refine .inr ⟨.inl k,c,e,?_⟩
   have q:=x.cell y c e
   rw [AI ndP hp hu (by show scope.names.lookup y≠_;rw [k];decide)] at q
   exact q
 ·exact e0.hok.fresh (Nat.le_of_lt (x.above y c (PySem.mem_of_lookup h)))
 ·unfold qV
  show _=N.length
  rw [List.length_append,List.length_map,List.length_replicate]
  omega
theorem MH {CX:CXT} {P:Program} {w:World} {K:PySem.W.Frag} {mg:Str→Option Value} {base:Heap} {k:Nat} {f:Addr} {name qual:Str} {params:Arguments} {body:List Stmt} {scope:Scope} {dV kV doc pm cdv ct oc:Value} {an od:Option Addr}
  {osl:Array (Option Value)} {N ps:List Str} {sp:Sp} (lk:K.lookup f=some ⟨oc,od,.func (PySem.W.fnOf name qual params body scope dV kV doc pm an cdv ct),osl⟩) (hcd:PySem.W.codeIn K cdv qual=true) (S:aD N ps scope)
  (len:∀ vs H Q E,sp vs H Q E→vs.length=ps.length)
  (hbody:∀ (A:Around) (outer:List Env) (s:Shared) (H:Hp) (vs:List V) (Q:VK) (E:XK),Room k (A.deeper (envOfC qual scope s.heap.objs.size f cdv))→sp vs H Q E→
   ∃ t,PSs (cxOf CX P w K mg base N qual scope f cdv A outer s H E) body t∧t {nx:=fun _ H'=>Q .non H',rt:=Q} (qV N vs) H):
  FnOk P w K mg base CX (k + 1) f (PySem.W.fnOf name qual params body scope dV kV doc pm an cdv ct) ps sp:=by
 refine ⟨len,fun A outer s H args us vs Q E hr e0 hb r hsp=>?_⟩
 have hl:=len _ _ _ _ hsp
 have KX:K.In s.heap:=e0.mod.kin.keeps fun b o e=>(e0.bs b o e).1
 have lim:s.heap.NoLimit:=e0.mod.nolimit.keeps fun b o e=>(e0.bs b o e).1
 have hkind:∀ y∈ps.zip us,scope.names.lookup y.1=some .local∨(scope.names.lookup y.1=some .cell∧((cellsFrom (s.heap.objs.size + 1) scope.names []).lookup y.1).isSome=true):=fun ⟨n,v⟩ hy=>by
  rcases S.par n (List.of_mem_zip hy).1 with q | q
  ·exact .inl q
  ·exact .inr ⟨q,PySem.W.cellsFrom_some _ _ _ (.inl q)⟩
 refine codeAny_call_function hr.depth (KX _ _ lk) rfl S.co S.gen rfl (PySem.W.codeRec_of KX hcd) (hb _ _ _ _ ?_)
 refine wpAny_newFunctionEnv_cells S.kind hkind fun env he s1 x=>?_
 subst he
 refine ⟨lim.keeps x.toInCall.keep,codeAny_func ?_⟩
 obtain ⟨t,ht,hq⟩:=hbody A outer s H vs Q E (hr.deeper _) hsp
 have I:Inv (cxOf CX P w K mg base N qual scope f cdv A outer s H E) [] (qV N vs) H s1:=Hy S hr.hd e0 hl r x
 refine wpAny_mono (ht [] s1 (qV N vs) H _ I hq) (fun fl s' hs=>?_) fun e s' hs=>hs
 have fin:∀ {σ':St} {H':Hp} {v:V} {u:Value},Inv (cxOf CX P w K mg base N qual scope f cdv A outer s H E) [] σ' H' s'→RelV v u→Q v H'→CE outer P w H s Q u s':=
  fun {σ' H' v u} J rv q=>⟨v,H',J.os,J.bare,J.base,J.hok,rv,q⟩
 cases fl with
 | ret u=>
   obtain ⟨v,σ',H',J,rv,q⟩:=hs
   exact fin J rv q
 | next=>
   obtain ⟨σ',H',J,q⟩:=hs
   exact fin (v:=V.non) (u:=Value.none) J rfl q
 | brk=>
   obtain ⟨_,_,_,q⟩:=hs
   exact False.elim q
 | cont=>
   obtain ⟨_,_,_,q⟩:=hs
   exact False.elim q
section
variable {X:Cx} {x:Str} {p pos:Pos} {e:Expr} {es:List Expr} {t:TA} {id T:String} {r:List V→Hp→VK→Prop}
noncomputable def tCB (r:List V→Hp→VK→Prop) (t:TA):TE:=fun σ H Q=>t σ H fun vs H1=>r vs H1 Q
theorem bD (hc:sM X (.builtin id) r) (hg:Gl X x) (hm:X.mg x=none) (hv:bootBuiltins x=some (.builtin id)) (ha:PA X (e::es) t) (hn:x≠"__name__":=by decide) (hdb:(x == ("__debug__":Str))=false:=by decide)
  (he:starEach (e::es) X.env=(false,eval e X.env)::starEach es X.env:=by rfl) (hpl:(backTo pos (starEach es X.env)).any (·.1)=false:=by rfl):PE X (.Call (.Name x p) (e::es) [] pos) (tCB r t):=by
 intro pins s σ H Q I h
 refine wpAny_Call_Name_kw (ke I hg hm hv ?_ hn hdb)
 exact PyProof.Rows.callWith_builtin1 (thn (ha pos pins s σ H _ I h) fun us s1 ⟨vs,H1,I1,r1,q1⟩=>hc pins s1 σ H1 vs us Q I1 r1 q1) he hpl
theorem nE (hc:sM X (.type T) r) (hg:Gl X x) (hm:X.mg x=none) (hv:bootBuiltins x=some (.type T)) (ha:PA X (e::es) t) (hn:x≠"__name__":=by decide) (hdb:(x == ("__debug__":Str))=false:=by decide)
  (he:starEach (e::es) X.env=(false,eval e X.env)::starEach es X.env:=by rfl) (hpl:(backTo pos (starEach es X.env)).any (·.1)=false:=by rfl):PE X (.Call (.Name x p) (e::es) [] pos) (tCB r t):=by
 intro pins s σ H Q I h
 refine wpAny_Call_Name_kw (ke I hg hm hv ?_ hn hdb)
 exact PyProof.Rows.callWith_type1 (thn (ha pos pins s σ H _ I h) fun us s1 ⟨vs,H1,I1,r1,q1⟩=>hc pins s1 σ H1 vs us Q I1 r1 q1) he hpl
end
end L2
namespace HT
open PySem PyProof.Rows
section
variable {prog:Program} {w:World} {A:Around} {E:Value→Shared→Prop} {s:Shared}
noncomputable def sIx (n d:Nat):Option Int→Nat
 | none=>d
 | some v=>if v < 0 then (v + (n:Int)).toNat else min v.toNat n
theorem sIx_none (n d:Nat):sIx n d none=d:=rfl
theorem sIx_nat (n d k:Nat):sIx n d (some (k:Int))=min k n:=by
 show (if (k:Int) < 0 then ((k:Int) + (n:Int)).toNat else min (k:Int).toNat n)=min k n
 rw [if_neg (by omega),Int.toNat_natCast]
end
end HT
namespace L2
open PySem PySem.Spec PyProof.Rows
noncomputable abbrev TO:=St→Hp→(Option Int→Hp→Prop)→Prop
noncomputable def PO (X:Cx) (e:Option Expr) (t:TO):Prop:=
 ∀ (pins:List (Addr×Obj)) (s:Shared) (σ:St) (H:Hp) (Q:Option Int→Hp→Prop),Inv X pins σ H s→t σ H Q→
  wpAny (model X.prog X.w) X.A (evalPart e X.env) (fun u s'=>∃ o H',Inv X pins σ H' s'∧IsPart u o∧Q o H') X.xe s
noncomputable def Gh:TO:=fun _ H Q=>Q none H
noncomputable def Nj (t:TE):TO:=fun σ H Q=>t σ H fun x H1=>∃ i,x= .int i∧Q (some i) H1
section
variable {X:Cx} {e:Expr} {te:TE} {lo hi:Option Expr} {tl th:TO} {pos p2:Pos}
theorem GO:PO X none Gh:=by
 intro pins s σ H Q I h
 rw [evalPart_none]
 exact wpAny_pure ⟨none,H,I,.none,h⟩
theorem xN (h:PE X e te):PO X (some e) (Nj te):=by
 intro pins s σ H Q I hw
 rw [evalPart_some]
 refine thn (h pins s σ H _ I hw) fun u s1 ⟨x,H1,I1,r1,q1⟩=>?_
 obtain ⟨i,rfl,q⟩:=q1
 obtain ⟨t,rfl⟩:=r1
 exact ⟨some i,H1,I1,.int i t,q⟩
noncomputable def SlR (X:Cx) (r:V→Option Int→Option Int→Hp→VK→Prop):Prop:=
 ∀ (pins:List (Addr×Obj)) (s:Shared) (σ:St) (H:Hp) (x:V) (v vl vu:Value) (lo hi:Option Int) (sl:Addr) (Q:VK),Inv X pins σ H s→RelV x v→s.heap.IsSliceOf sl vl vu .none→IsPart vl lo→IsPart vu hi→r x lo hi H Q→
  ∃ T id,typeLookup (.type T) "__getitem__"=pure (some (.builtin id))∧s.TypeIs v T∧wpAny (model X.prog X.w) X.A (getItem v (.ref sl)) (EP X pins σ Q) X.xe s
noncomputable def tSl (r:V→Option Int→Option Int→Hp→VK→Prop) (te:TE) (tl th:TO):TE:=fun σ H Q=>te σ H fun x H1=>tl σ H1 fun l H2=>th σ H2 fun u H3=>r x l u H3 Q
theorem xS {r:V→Option Int→Option Int→Hp→VK→Prop} (hr:SlR X r) (he:PE X e te) (hl:PO X lo tl) (hu:PO X hi th):PE X (.Subscript e (.Slice lo hi none p2) pos) (tSl r te tl th):=by
 intro pins s σ H Q I h
 refine Subscript_ (thn (he pins s σ H _ I h) fun v s1 ⟨x,H1,I1,r1,q1⟩=>?_)
 refine wpAny_Slice (thn (hl pins s1 σ H1 _ I1 q1) fun vl s2 ⟨l,H2,I2,pl,q2⟩=>thn (hu pins s2 σ H2 _ I2 q2) fun vu s3 ⟨u,H3,I3,pu,q3⟩=>?_)
 rw [evalPart_none]
 refine wpAny_pure ?_
 have I4:Inv X pins σ H3 {s3 with heap:=s3.heap.push {cls:= .type "slice",data:= .fields #[vl,vu,.none]}}:=I3.kept (t':=s3.toks) fun b ob q=>Heap.get?_push_of_some _ q
 obtain ⟨T,id,hT,ht,hg⟩:=hr pins {s3 with heap:=s3.heap.push {cls:= .type "slice",data:= .fields #[vl,vu,.none]}} σ H3 x v vl vu l u s3.heap.objs.size Q I4 r1 (Heap.IsSliceOf.new ..) pl pu q3
 show wpAny (model X.prog X.w) X.A (subscriptTail e (.Slice lo hi none p2) v (.ref s3.heap.objs.size)) (EP X pins σ Q) X.xe {s3 with heap:=s3.heap.push {cls:= .type "slice",data:= .fields #[vl,vu,.none]}}
 exact tail_any (ops:=[.ref s3.heap.objs.size,v]) ht hT hg (by with_unfolding_all rfl)
noncomputable def cutV (xs:List V) (lo hi:Option Int):List V:=(xs.drop (HT.sIx xs.length 0 lo)).take (HT.sIx xs.length xs.length hi - HT.sIx xs.length 0 lo)
theorem uN (xs:List V) (lo hi:Option Int):(cutV xs lo hi).length≤xs.length:=by
 unfold cutV
 rw [List.length_take,List.length_drop]
 omega
end
noncomputable def ixN (n:Nat) (i:Int):Option Nat:=if 0≤i then (if i < n then some i.toNat else none) else if -(n:Int)≤i then some (i + n).toNat else none
noncomputable def atI {α:Type} (xs:List α) (i:Int):Option α:=(ixN xs.length i).bind fun j=>xs[j]?
theorem Mz {n:Nat} {i:Int} {j:Nat} (h:ixN n i=some j):seqIndex? i n=some j∧j < n∧-(n:Int)≤i∧i < n:=by
 unfold ixN at h
 by_cases h0:0≤i
 ·rw [if_pos h0] at h
  by_cases h1:i < n
  ·rw [if_pos h1] at h
   have e:i.toNat=j:=Option.some.inj h
   exact ⟨by rw [seqIndex_of h0 h1,e],by omega,by omega,h1⟩
  ·rw [if_neg h1] at h;cases h
 ·rw [if_neg h0] at h
  by_cases h1: -(n:Int)≤i
  ·rw [if_pos h1] at h
   have e:(i + n).toNat=j:=Option.some.inj h
   exact ⟨by rw [seqIndex_neg (by omega) h1,e],by omega,h1,by omega⟩
  ·rw [if_neg h1] at h;cases h
theorem Iu {α:Type} {xs:List α} {i:Int} {v:α} (h:atI xs i=some v):∃ j,seqIndex? i xs.length=some j∧xs[j]? =some v∧j < xs.length∧-(xs.length:Int)≤i∧i < xs.length:=by
 unfold atI at h
 cases e:ixN xs.length i with
 | none=>rw [e] at h;cases h
 | some j=>
   rw [e] at h
   obtain ⟨h1,h2,h3,h4⟩:=Mz e
   exact ⟨j,h1,h,h2,h3,h4⟩
theorem nc {α:Type} {xs:List α} {j:Nat} {v:α} (h:xs[j]? =some v):atI xs (j:Int)=some v:=by
 have hj:j < xs.length:=(List.getElem?_eq_some_iff.mp h).1
 have e:ixN xs.length (j:Int)=some j:=by
  unfold ixN
  rw [if_pos (by omega),if_pos (by omega)];simp
 unfold atI;rw [e];exact h
theorem C6 {α:Type} (xs:List α) (v:α):atI (xs++[v]) (-1)=some v:=by
 have hl:(xs++[v]).length=xs.length + 1:=by simp
 have e:ixN (xs++[v]).length (-1)=some xs.length:=by
  unfold ixN
  rw [hl,if_neg (by decide),if_pos (by omega)]
  congr 1
  omega
 unfold atI
 rw [e]
 show (xs++[v])[xs.length]? =some v
 simp
noncomputable def M4 (b:Expr):Prop:=∀ o i,subscripted b false o i=operate [o,i] (getItem o i)
noncomputable def IxR (X:Cx) (r:R2):Prop:=
 ∀ (value slice:Expr) (pins:List (Addr×Obj)) (s:Shared) (σ:St) (H:Hp) (x y:V) (v u:Value) (Q:VK),Inv X pins σ H s→RelV x v→RelV y u→r x y H Q→
  subscripted slice false v u=operate [v,u] (getItem v u)→wpAny (model X.prog X.w) X.A (subscriptTail value slice v u) (EP X pins σ Q) X.xe s
noncomputable def MtR (X:Cx) (id:String) (r:V→List V→Hp→VK→Prop):Prop:=
 ∀ (pins:List (Addr×Obj)) (s:Shared) (σ:St) (H:Hp) (x:V) (xs:List V) (v:Value) (us:List Value) (Q:VK),Inv X pins σ H s→RelV x v→Vals xs us→r x xs H Q→
  wpAny (model X.prog X.w) X.A (call (.builtin id) (v::us)) (EP X pins σ Q) X.xe s
section
variable {X:Cx} {a b:Expr} {ta tb:TE} {pos:Pos}
theorem be {r:R2} (hr:IxR X r) (ha:PE X a ta) (hb:PE X b tb) (hs:M4 b):PE X (.Subscript a b pos) (tOp r ta tb):=by
 intro pins s σ H Q I h
 exact Subscript_ (binT ha hb I h fun v u s2 x y H2 I2 rx ry q=>hr a b pins s2 σ H2 x y v u Q I2 rx ry q (hs _ _))
noncomputable def rIxL (K:PySem.W.Frag):R2:=fun x y H Q=>∃ p xs i v,x= .ref p∧y= .int i∧SqL K H p xs∧atI xs i=some v∧Q v H
noncomputable def rIxT (K:PySem.W.Frag):R2:=fun x y H Q=>∃ p xs i v,x= .ref p∧y= .int i∧SqT K H p xs∧atI xs i=some v∧Q v H
theorem Mx:IxR X (rIxL X.K):=by
 intro value slice pins s σ H x y v u Q I rx ry h hs
 obtain ⟨p,xs,i,z,rfl,rfl,hq,he,q⟩:=h
 cases rx
 obtain ⟨t,rfl⟩:=ry
 obtain ⟨its,r,pl,hz⟩:=I.list hq
 obtain ⟨j,h1,h2,h3,h4,h5⟩:=Iu he
 obtain ⟨w,ew,rw'⟩:=r.get h2
 have hl:=r.length
 have hn:=Ha
 have fin:EP X pins σ Q w s:=⟨z,H,I,rw',q⟩
 by_cases h0:0≤i
 ·have hj:i.toNat=j:=by
   rw [seqIndex_of h0 h5] at h1
   exact Option.some.inj h1
  exact item_listR pl.isList h0 (by omega) (by rw [hj];simpa using ew) fin hs
 ·have hj:(i + (its.toArray.size:Int)).toNat=j:=by
   rw [seqIndex_neg (by omega) h4] at h1
   rw [List.size_toArray,← hl]
   exact Option.some.inj h1
  exact subscriptTail_builtinR (x:=w) pl.isList.typeIs slot_list_getitem.lookup
   (wpAny_getItem_list_neg (Q:=fun r s'=>r=w∧EP X pins σ Q r s') pl.isList (by omega) (by rw [List.size_toArray]<;>omega) (by omega) (by rw [hj];simpa using ew) ⟨rfl,fin⟩) hs
theorem OJ:IxR X (rIxT X.K):=by
 intro value slice pins s σ H x y v u Q I rx ry h hs
 obtain ⟨p,xs,i,z,rfl,rfl,hq,he,q⟩:=h
 cases rx
 obtain ⟨t,rfl⟩:=ry
 obtain ⟨its,r,pl,hz⟩:=I.tuple hq
 obtain ⟨j,h1,h2,h3,h4,h5⟩:=Iu he
 obtain ⟨w,ew,rw'⟩:=r.get h2
 have hl:=r.length
 have hn:=Ha
 have fin:EP X pins σ Q w s:=⟨z,H,I,rw',q⟩
 exact subscriptTail_builtinR (x:=w) pl.typeIs slot_tuple_getitem.lookup
  (getItem_tuple (j:=j) (Q:=fun r s'=>r=w∧EP X pins σ Q r s') pl (by omega) (by omega) (by rw [List.size_toArray,← hl];exact h1) (by simpa using ew) ⟨rfl,fin⟩) hs
theorem zb (lo hi:Option Int) (n:Nat):(sliceBounds lo hi none n).1=((HT.sIx n 0 lo:Nat):Int)∧(sliceBounds lo hi none n).2.1=((HT.sIx n n hi:Nat):Int)∧(sliceBounds lo hi none n).2.2=1:=by
 refine ⟨?_,?_,rfl⟩
 ·cases lo with
  | none=>simp [sliceBounds,HT.sIx]
  | some i=>
    simp only [sliceBounds,HT.sIx,Option.getD_none,show (1:Int) > 0 by decide,if_true]
    by_cases h:i < 0
    ·simp only [h,if_true]<;>omega
    ·simp only [h,if_false]<;>omega
 ·cases hi with
  | none=>simp [sliceBounds,HT.sIx]
  | some i=>
    simp only [sliceBounds,HT.sIx,Option.getD_none,show (1:Int) > 0 by decide,if_true]
    by_cases h:i < 0
    ·simp only [h,if_true]<;>omega
    ·simp only [h,if_false]<;>omega
theorem xx (its:List Value) (lo hi:Option Int):slicePick its.toArray lo hi none=((its.drop (HT.sIx its.length 0 lo)).take (HT.sIx its.length its.length hi - HT.sIx its.length 0 lo)).toArray:=by
 obtain ⟨h1,h2,h3⟩:=zb lo hi its.toArray.size
 unfold slicePick
 rw [h1,h2,h3]
 simp only [sliceRange_one,pick_run,List.size_toArray]<;>rfl
noncomputable def rSlL (K:PySem.W.Frag):V→Option Int→Option Int→Hp→VK→Prop:=fun x lo hi H Q=>∃ a xs,x= .ref a∧SqL K H a xs∧∀ p,H p=none→Q (.ref p) (upd H p (.lst (cutV xs lo hi)))
theorem LI:SlR X (rSlL X.K):=by
 intro pins s σ H x v vl vu lo hi sl Q I rx hs pl pu h
 obtain ⟨a,xs,rfl,hx,q⟩:=h
 cases rx
 obtain ⟨its,r,ht,hz⟩:=I.list hx
 have hlen:=r.length
 refine ⟨"list",_,slot_list_getitem.lookup,ht.isList.typeIs,?_⟩
 refine wpAny_getItem_list_slice ht.isList hs pl pu .none (by simp) ?_ (by rw [List.size_toArray]<;>omega)
 rw [xx,← hlen]
 refine ⟨.ref s.heap.objs.size,_,I.laid (t':=s.toks) (o:= .lst (cutV xs lo hi)) (fun b ob q=>Heap.get?_push_of_some _ q) (Nat.le_refl _) ?_,rfl,q _ (I.hok.fresh (Nat.le_refl _))⟩
 exact ⟨Nat.le_trans (uN xs lo hi) hz,_,0,(r.drop (HT.sIx xs.length 0 lo)).take (HT.sIx xs.length xs.length hi - HT.sIx xs.length 0 lo),Heap.get?_push_size _ rfl⟩
noncomputable def vV:V→Bool
 | .non=>true
 | .bl _=>true
 | .int _=>true
 | .str _=>true
 | _=>false
noncomputable def eqV:V→V→Bool
 | .non,.non=>true
 | .bl a,.bl b=>a == b
 | .bl a,.int b=>(if a then 1 else 0) == b
 | .int a,.bl b=>a == (if b then 1 else 0)
 | .int a,.int b=>a == b
 | .str a,.str b=>a == b
 | _,_=>false
theorem OR {A:Around} {s:Shared} {y x:V} {u v:Value} (ry:RelV y u) (rx:RelV x v) (fy:vV y=true) (fx:vV x=true):SeqAt.EqAt A s u v (eqV y x):=by
 cases y with
 | non=>
   cases ry
   cases x with
   | non=>cases rx;exact SeqAt.EqAt.same _
   | bl b=>cases rx;exact SeqAt.EqAt.none_bool b
   | int b=>obtain ⟨t,rfl⟩:=rx;exact SeqAt.EqAt.none_int b t
   | str b=>obtain ⟨t,rfl⟩:=rx;exact SeqAt.EqAt.none_str b t
   | _=>exact absurd (show false=true from fx) Bool.false_ne_true
 | bl a=>
   cases ry
   cases x with
   | non=>cases rx;exact SeqAt.EqAt.bool_none a
   | bl b=>cases rx;exact SeqAt.EqAt.bool_bool a b
   | int b=>obtain ⟨t,rfl⟩:=rx;exact SeqAt.EqAt.bool_int a b t
   | str b=>obtain ⟨t,rfl⟩:=rx;exact SeqAt.EqAt.bool_str a b t
   | _=>exact absurd (show false=true from fx) Bool.false_ne_true
 | int a=>
   obtain ⟨t',rfl⟩:=ry
   cases x with
   | non=>cases rx;exact SeqAt.EqAt.int_none a t'
   | bl b=>cases rx;exact SeqAt.EqAt.int_bool a t' b
   | int b=>obtain ⟨t,rfl⟩:=rx;exact SeqAt.EqAt.int_int a t' b t
   | str b=>obtain ⟨t,rfl⟩:=rx;exact SeqAt.EqAt.int_str a t' b t
   | _=>exact absurd (show false=true from fx) Bool.false_ne_true
 | str a=>
   obtain ⟨t',rfl⟩:=ry
   cases x with
   | non=>cases rx;exact SeqAt.EqAt.str_none a t'
   | bl b=>cases rx;exact SeqAt.EqAt.str_bool a t' b
   | int b=>obtain ⟨t,rfl⟩:=rx;exact SeqAt.EqAt.str_int a t' b t
   | str b=>obtain ⟨t,rfl⟩:=rx;exact SeqAt.EqAt.str_str a t' b t
   | _=>exact absurd (show false=true from fx) Bool.false_ne_true
 | _=>exact absurd (show false=true from fy) Bool.false_ne_true
theorem Az:sM X (.type "list") (fun xs H Q=>∃ p ys,xs=[.ref p]∧(SqL X.K H p ys∨SqT X.K H p ys)∧∀ l,H l=none→Q (.ref l) (upd H l (.lst ys))):=by
 intro pins s σ H xs us Q I r h
 obtain ⟨p,ys,rfl,hq,q⟩:=h
 obtain ⟨u,rfl,rx⟩:=F7 r
 cases rx
 have fin:∀ (its:List Value),Vals ys its→ys.length≤sizeLine→∀ (h':Heap) (c':Nat),(∀ b o',s.heap.get? b=some o'→h'.get? b=some o')→
   h'.get? s.heap.objs.size=some {cls:= .type "list",dict:=none,data:= .seq its.toArray c',slots:=#[]}→EP X pins σ Q (.ref s.heap.objs.size) {s with heap:=h'}:=fun its r' hz h' c' kp e=>
  ⟨.ref s.heap.objs.size,_,I.laid (t':=s.toks) kp (Nat.le_refl _) (show eB X.prog X.w _ h' _ (.lst ys) from ⟨hz,its,c',r',e⟩),rfl,q _ (I.hok.fresh (Nat.le_refl _))⟩
 rcases hq with hq | hq
 ·obtain ⟨its,r',pl,hz⟩:=I.list hq
  have hlen:=r'.length
  obtain ⟨o,ho,hc,n,hd⟩:=pl.isList
  exact call_list_seq p (.inl rfl) ho hc hd (fun h' c' kp e=>fin its r' hz h' c' kp e) (by simp only [List.size_toArray]<;>omega)
 ·obtain ⟨its,r',pl,hz⟩:=I.tuple hq
  have hlen:=r'.length
  obtain ⟨o,ho,hc,n,hd⟩:=pl
  exact call_list_seq p (.inr rfl) ho hc hd (fun h' c' kp e=>fin its r' hz h' c' kp e) (by simp only [List.size_toArray]<;>omega)
theorem yJ:sM X (.type "tuple") (fun xs H Q=>∃ p ys,xs=[.ref p]∧((SqL X.K H p ys∧∀ l,H l=none→Q (.ref l) (upd H l (.tup ys)))∨(SqT X.K H p ys∧Q (.ref p) H))):=by
 intro pins s σ H xs us Q I r h
 obtain ⟨p,ys,rfl,h⟩:=h
 obtain ⟨u,rfl,rx⟩:=F7 r
 cases rx
 rcases h with ⟨hq,q⟩ | ⟨hq,q⟩
 ·obtain ⟨its,r',pl,hz⟩:=I.list hq
  have hlen:=r'.length
  refine call_tuple_list pl.isList (fun h' kp=>?_) (by simp only [List.size_toArray]<;>omega)
  have I1:Inv X pins σ H {s with heap:=h'}:=I.kept (t':=s.toks) kp
  have I2:Inv X pins σ (upd H h'.objs.size (.tup ys)) {s with heap:=h'.push {cls:= .type "tuple",data:= .seq its.toArray}}:=
   I1.laid (t':=s.toks) (fun b o e=>Heap.get?_push_of_some _ e) (Nat.le_refl _) (show eB X.prog X.w _ _ _ (.tup ys) from ⟨hz,its,r',IsTup.new _ _⟩)
  exact ⟨.ref h'.objs.size,_,I2,rfl,q _ (I1.hok.fresh (Nat.le_refl _))⟩
 ·obtain ⟨its,r',pl,hz⟩:=I.tuple hq
  exact call_tuple_same pl ⟨.ref p,H,I,rfl,q⟩
noncomputable def tyV (K:PySem.W.Frag) (T:String) (x:V) (H:Hp):Prop:=match x with
 | .str _=>T="str"
 | .int _=>T="int"
 | .ref p=>(T="list"∧∃ xs,SqL K H p xs)∨(T="tuple"∧∃ o,K.lookup p=some o∧o.cls= .type "tuple"∧o.dict=none)∨
   (T="dict"∧((∃ kvs,H p=some (.dK kvs))∨∃ kvs,H p=some (.dT kvs)))∨(T="set"∧∃ S n,H p=some (.set S n))
 | _=>False
theorem KC {pins:List (Addr×Obj)} {σ:St} {H:Hp} {s:Shared} {T:String} {x:V} {v:Value} (I:Inv X pins σ H s) (r:RelV x v) (ty:tyV X.K T x H):
  s.TypeIs v T∧∀ a,v= .ref a→∃ ob,s.heap.get? a=some ob∧ob.dict=none:=by
 cases x with
 | str z=>
   obtain ⟨t,rfl⟩:=r
   cases (show T="str" from ty)
   exact ⟨typeIs_str s z t,fun _ e=>nomatch e⟩
 | int i=>
   obtain ⟨t,rfl⟩:=r
   cases (show T="int" from ty)
   exact ⟨typeIs_int s i t,fun _ e=>nomatch e⟩
 | ref p=>
   cases r
   rcases ty with ⟨rfl,xs,hq⟩ | ⟨rfl,o,hk,hc,hd⟩ | ⟨rfl,hk⟩ | ⟨rfl,S,n,hk⟩
   ·obtain ⟨its,_,pl,_⟩:=I.list hq
    refine ⟨pl.isList.typeIs,fun a e=>?_⟩
    cases e
    obtain ⟨o,n,e,c,hd,_⟩:=pl
    exact ⟨o,e,hd⟩
   ·refine ⟨⟨o,I.kIn p o hk,hc⟩,fun a e=>?_⟩
    cases e
    exact ⟨o,I.kIn _ o hk,hd⟩
   ·have z:∃ o,s.heap.get? p=some o∧o.ExactDict:=by
     rcases hk with ⟨kvs,hk⟩ | ⟨kvs,hk⟩
     ·obtain ⟨_,_,_,_,o,_,_,e,ex,_⟩:=I.hok p _ hk
      exact ⟨o,e,ex⟩
     ·obtain ⟨_,_,_,_,o,_,_,e,ex,_⟩:=I.hok p _ hk
      exact ⟨o,e,ex⟩
    obtain ⟨o,e,ex⟩:=z
    refine ⟨⟨o,e,ex.1⟩,fun a e2=>?_⟩
    cases e2
    exact ⟨o,e,ex.2.1⟩
   ·obtain ⟨o,_,_,_,e,ex,_⟩:=I.hok p _ hk
    refine ⟨⟨o,e,ex.1⟩,fun a e2=>?_⟩
    cases e2
    exact ⟨o,e,ex.2.1⟩
 | _=>exact False.elim ty
noncomputable def tBM0 (K:PySem.W.Frag) (T:String) (r:V→List V→Hp→VK→Prop) (to:TE):TE:=fun σ H Q=>to σ H fun x H1=>tyV K T x H1∧r x [] H1 Q
noncomputable def tBM (K:PySem.W.Frag) (T:String) (r:V→List V→Hp→VK→Prop) (to:TE) (t:TA):TE:=fun σ H Q=>to σ H fun x H1=>tyV K T x H1∧t σ H1 fun xs H2=>r x xs H2 Q
variable {o e:Expr} {es:List Expr} {to:TE} {t:TA} {name:Str} {apos cpos:Pos} {T id:String} {r:V→List V→Hp→VK→Prop}
theorem Oq (pa:PlainAttrs T) (slot:Slot T name id) (hty:typeOf (.builtin id)=pure (.type "method_descriptor")) (hm:MtR X id r) (ho:PE X o to)
  (hbase:attributeBase o name X.env (eval o X.env)=eval o X.env:=by rfl) (hline:(apos.endLine == cpos.line)=true:=by rfl):PE X (.Call (.Attribute o name apos) [] [] cpos) (tBM0 X.K T r to):=by
 intro pins s σ H Q I h
 refine wpAny_Call_method0_late hbase hline (thn (ho pins s σ H _ I h) fun v s1 ⟨x,H1,I1,r1,ty,q1⟩=>?_)
 obtain ⟨h1,h2⟩:=KC I1 r1 ty
 exact ⟨T,id,pa,slot,hty,h1,h2,Calls.callWith_builtin rfl (PySem.evalArgs_none (hm pins s1 σ H1 x [] v [] Q I1 r1 .nil q1))⟩
theorem PR (pa:PlainAttrs T) (slot:Slot T name id) (hty:typeOf (.builtin id)=pure (.type "method_descriptor")) (hm:MtR X id r) (ho:PE X o to) (ha:PA X (e::es) t)
  (hbase:attributeBase o name X.env (eval o X.env)=eval o X.env:=by rfl)
  (hfew:((backTo cpos (starEach (e::es) X.env)).all (fun x=> !x.1)&&(backToKw cpos (keywordEach [] X.env)).all (fun x=>x.1.isSome)
   &&decide ((e::es).length + ([]:List Keyword).length + (if ([]:List Keyword).isEmpty then 0 else 1) < 30))=true:=by rfl)
  (hline:(apos.endLine == cpos.line)=true:=by rfl) (hs:starEach (e::es) X.env=(false,eval e X.env)::starEach es X.env:=by rfl) (hplain:(backTo cpos (starEach es X.env)).any (·.1)=false:=by rfl):
  PE X (.Call (.Attribute o name apos) (e::es) [] cpos) (tBM X.K T r to t):=by
 intro pins s σ H Q I h
 refine wpAny_Call_method_late hbase hfew hline rfl (thn (ho pins s σ H _ I h) fun v s1 ⟨x,H1,I1,r1,ty,q1⟩=>?_)
 obtain ⟨h1,h2⟩:=KC I1 r1 ty
 refine ⟨T,id,pa,slot,hty,h1,h2,?_⟩
 have hA:=ha cpos pins s1 σ H1 _ I1 q1
 rw [hs] at hA ⊢
 refine Calls.callWith_builtin (by show (false||(backTo cpos (starEach es X.env)).any (·.1))=false;rw [hplain]<;>rfl) (Calls.evalArgs_plain ?_)
 exact thn hA fun us s2 ⟨vs,H2,I2,r2,q2⟩=>hm pins s2 σ H2 x vs v us Q I2 r1 r2 q2
end
noncomputable def MtM (X:Cx) (id:String) (r:V→List V→Hp→VK→Prop):Prop:=
 ∀ (pins:List (Addr×Obj)) (s:Shared) (σ:St) (H:Hp) (x:V) (xs:List V) (v:Value) (us:List Value) (Q:VK),Inv X pins σ H s→RelV x v→Vals xs us→r x xs H Q→
  wpAny (model X.prog X.w) X.A (call (.builtin id) (v::us)) (EP X pins σ Q) X.xe s
theorem Vals.one:∀ {x:V} {us:List Value},Vals [x] us→∃ u,us=[u]∧RelV x u
 | _,_,.cons r .nil=>⟨_,rfl,r⟩
theorem Vals.rep {xs:List V} {us:List Value} (h:Vals xs us):∀ k:Nat,Vals (List.replicate k xs).flatten (List.replicate k us).flatten
 | 0=> .nil
 | k + 1=>by
   rw [List.replicate_succ,List.replicate_succ,List.flatten_cons,List.flatten_cons]
   exact Vals.append h (Vals.rep h k)
theorem Ak (its:List Value):∀ (k:Nat) (acc:List Value),
  List.foldl (fun x1 x2=>x1++x2) acc.toArray (List.replicate k its.toArray)=(acc++(List.replicate k its).flatten).toArray
 | 0,acc=>by simp
 | k + 1,acc=>by
   have e:acc.toArray++its.toArray=(acc++its).toArray:=by simp
   have e2:(acc++its)++(List.replicate k its).flatten=acc++(List.replicate (k + 1) its).flatten:=by
    rw [List.replicate_succ,List.flatten_cons,List.append_assoc]
   rw [← e2,← Ak its k (acc++its),← e,List.replicate_succ,List.foldl_cons]
section
variable {X:Cx} {pins:List (Addr×Obj)} {σ:St} {H:Hp} {s:Shared} {l b:Addr} {xs ys zs:List V}
theorem Inv.lset {its its':List Value} {n:Nat} {f:Array Value→Array Value} {t':Nat} (I:Inv X pins σ H s) (hH:H l=some (.lst xs))
  (e:s.heap.get? l=some {cls:= .type "list",data:= .seq its.toArray n}) (hf:f its.toArray=its'.toArray) (hv:Vals ys its') (hz:ys.length≤sizeLine):
  Inv X pins σ (upd H l (.lst ys)) {s with heap:=s.heap.update l (Obj.mapSeq f),toks:=t'}:=by
 have q:=PySem.IsL.update e f
 rw [hf] at q
 refine I.write (x:=l) (e:=l) (by rw [hH];exact trivial) (.inl rfl) (fun b' u hb hu=>(Heap.get?_update_other s.heap (Obj.mapSeq f) (Ne.symm hb)).trans hu) ⟨_,q⟩ ?_
 exact ⟨hz,its',_,hv,q⟩
theorem Inv.lnew {its:List Value} {t':Nat} (I:Inv X pins σ H s) (hv:Vals ys its) (hz:ys.length≤sizeLine):
  Inv X pins σ (upd H s.heap.objs.size (.lst ys)) {s with heap:=s.heap.push {cls:= .type "list",data:= .seq its.toArray},toks:=t'}:=
 I.laid (fun _ _ q=>Heap.get?_push_of_some _ q) (Nat.le_refl _) ⟨hz,its,0,hv,Heap.get?_push_size _ rfl⟩
theorem Inv.fresh (I:Inv X pins σ H s):H s.heap.objs.size=none:=I.hok.fresh (Nat.le_refl _)
theorem Inv.lstM (I:Inv X pins σ H s) (hH:H l=some (.lst xs)):xs.length≤sizeLine∧∃ (its:List Value) (n:Nat),Vals xs its∧xs.length=its.length∧s.heap.get? l=some {cls:= .type "list",data:= .seq its.toArray n}:=by
 obtain ⟨z,its,n,r,e⟩:=I.hok l _ hH
 exact ⟨z,its,n,r,r.length,e⟩
theorem JS {n:Nat} (h:n≤sizeLine):Builtin.List.listTooLong n=false:=by
 unfold Builtin.List.listTooLong
 exact decide_eq_false (by omega)
end
section
variable {X:Cx}
noncomputable def GK:V→List V→Hp→VK→Prop:=fun x vs H Q=>∃ l xs y,x= .ref l∧vs=[y]∧H l=some (.lst xs)∧xs.length < sizeLine∧Q .non (upd H l (.lst (xs++[y])))
theorem cL:MtM X "list.append" GK:=by
 intro pins s σ H x vs v us Q I rx rv h
 obtain ⟨l,xs,y,rfl,rfl,hH,hz,q⟩:=h
 cases rx
 obtain ⟨u,rfl,ru⟩:=rv.one
 obtain ⟨z,its,n,r,hl,e⟩:=I.lstM hH
 refine call_meets F.slot_list_append ⟨_,e,rfl⟩ F.entry_list_append (F.args_list_append_2 _ _) (PySem.list_append l its.toArray n u (by rw [List.size_toArray];omega)) ⟨e,?_⟩
 refine ⟨.non,_,I.lset (its':=its++[u]) hH e (by simp) (r.append (.cons ru .nil)) ?_,rfl,q⟩
 rw [List.length_append,List.length_singleton]
 omega
noncomputable def rCat:R2:=fun x y H Q=>∃ l b xs zs,x= .ref l∧y= .ref b∧H l=some (.lst xs)∧H b=some (.lst zs)∧xs.length + zs.length≤sizeLine∧∀ p,H p=none→Q (.ref p) (upd H p (.lst (xs++zs)))
theorem GW:OpR X (binaryOp .Add) rCat:=by
 intro pins s σ H x y v u Q I rx ry h
 obtain ⟨l,b,xs,zs,rfl,rfl,hH,hB,hz,q⟩:=h
 cases rx
 cases ry
 obtain ⟨z,its,n,r,hl,e⟩:=I.lstM hH
 obtain ⟨z2,its2,n2,r2,hl2,e2⟩:=I.lstM hB
 refine PySem.P.add_list e e2 ?_ (by rw [List.size_toArray,List.size_toArray];omega)
 have ea:its.toArray++its2.toArray=(its++its2).toArray:=by simp
 rw [ea]
 exact ⟨.ref _,_,I.lnew (t':=s.toks) (r.append r2) (by rw [List.length_append];omega),rfl,q _ I.fresh⟩
noncomputable def rRep:R2:=fun x y H Q=>∃ l k xs,x= .ref l∧y= .int k∧H l=some (.lst xs)∧-(2 ^ 63)≤k∧k < 2 ^ 63∧xs.length * k.toNat≤sizeLine∧
 ∀ p,H p=none→Q (.ref p) (upd H p (.lst (List.replicate k.toNat xs).flatten))
theorem Mr {α:Type} (xs:List α) (k:Nat):(List.replicate k xs).flatten.length=k * xs.length:=by
 induction k with
 | zero=>simp
 | succ k ih=>rw [List.replicate_succ,List.flatten_cons,List.length_append,ih,Nat.succ_mul,Nat.add_comm]
theorem Ot:OpR X (binaryOp .Mult) rRep:=by
 intro pins s σ H x y v u Q I rx ry h
 obtain ⟨l,k,xs,rfl,rfl,hH,h1,h2,hz,q⟩:=h
 cases rx
 obtain ⟨t,rfl⟩:=ry
 obtain ⟨z,its,n,r,hl,e⟩:=I.lstM hH
 have hlen:its.toArray.size * k.toNat≤sizeLine:=by rw [List.size_toArray,← hl];exact hz
 have hcap:¬ its.toArray.size * k.toNat > (2 ^ 63 - 1) / 8:=by
  have:(sizeLine:Nat)≤(2 ^ 63 - 1) / 8:=by decide
  omega
 have hfit:¬ (!Builtin.List.listFitsIndex k)=true:=by
  rw [fitsIndex_both h1 h2]
  exact Bool.false_ne_true
 have hlong:¬ Builtin.List.listTooLong (its.toArray.size * k.toNat)=true:=by
  rw [JS hlen]
  exact Bool.false_ne_true
 have hnew:List.foldl (fun x1 x2=>x1++x2) #[] (List.replicate (if its.toArray.isEmpty=true then 0 else k.toNat) its.toArray)=(List.replicate k.toNat its).flatten.toArray:=by
  have f0:∀ m:Nat,List.foldl (fun x1 x2=>x1++x2) #[] (List.replicate m its.toArray)=(List.replicate m its).flatten.toArray:=fun m=>by
   have:=Ak its m []
   rw [List.nil_append] at this
   exact this
  rw [f0]
  cases its with
  | nil=>simp
  | cons a r'=>rw [if_neg (by simp)]
 refine wpAny_binaryOp_repeat_ref (T:="list") (U:="int") (by decide) ⟨_,e,rfl⟩ (fun s'=>typeIs_int s' k t) noFill_list_mul F.fills_int_mul F.slot_int_rmul repeat_list F.slot_int_index.lookup
  (call_meets F.slot_int_rmul (typeIs_int s k t) F.entry_int_rmul (F.args_int_rmul_2 _ _) (int___rmul___int_list k t l its.toArray n)
   ⟨e,rfl,⟨_,e,rfl⟩,call_meets F.slot_list_mul ⟨_,e,rfl⟩ F.entry_list_mul (F.args_list_mul_2 _ _) (AutoListH.list___mul___list_int_3 l its.toArray n k t hfit hcap hlong) ⟨e,?_⟩⟩)
 rw [hnew]
 exact ⟨.ref _,_,I.lnew (t':=s.toks) (r.rep k.toNat) (by rw [Mr,Nat.mul_comm];exact hz),rfl,q _ I.fresh⟩
end
end L2
namespace Att
open PySem PySem.W PySem.Calls PyProof.Rows
theorem uz {P:Params} {h:Heap}:∀ (ns:List Int) (vs:List Value),WellAll P h vs (ns.map WData.int)→IntsAre vs ns:=by
 intro ns
 induction ns with
 | nil=>
   intro vs w
   rw [List.map_nil] at w
   cases w
   exact .nil
 | cons n ns ih=>
   intro vs w
   rw [List.map_cons] at w
   cases w with
   | cons a b=>
     cases a
     exact .cons _ _ (ih _ b)
theorem GD {l:OpenLaw} {n:Nat} (hn:l.most=some n) {P:Params} {h:Heap} {args:List WData} {vals:List Value}
  (hpre:l.row.toRowW.claim.pre args=true) (hwl:WellAll P h vals args):
  ∃ a vs ns,vals=[Value.ref a]∧args=[WData.list (ns.map WData.int)]∧h.get? a=some {cls:= .type "list",data:= .seq vs.toArray}∧IntsAre vs ns∧ns.length≤n:=by
 have hsh:WShape.hasAll [] args [.list .int]=true:=(pre_splitW hpre).1
 have hc:l.pre.holds [] {args:=args}=true:=(pre_splitW hpre).2
 obtain ⟨d,r,rfl,h1,h2⟩:=hasAllW_cons hsh
 obtain rfl:=hasAllW_nil h2
 obtain ⟨xs,rfl,h3⟩:=hasW_list h1
 obtain ⟨ns,rfl⟩:=items_int h3
 have hlen:ns.length≤n:=by
  unfold OpenLaw.pre at hc
  have h4:(WTm.not (.lt (.lit (.int (n:Int))) (.len (.arg 0)))).holds [] {args:=[.list (ns.map .int)]}=true:=by
   have h4:=(holds_andW hc).1
   rw [hn] at h4
   exact h4
  have h5:=condW_of h4 (w_not (w_lt w_lit (w_len_list (w_arg rfl))))
  rw [List.length_map] at h5
  refine Nat.le_of_not_lt fun q=>?_
  have q':(n:Int) < ((ns.length:Nat):Int):=by omega
  first
   | (rw [decide_eq_true q'] at h5;exact absurd h5 (by decide))
   | (simp at h5;omega)
 cases hwl with
 | cons w1 w2=>
   cases w2
   cases w1 with
   | list ho hall=>exact ⟨_,_,ns,rfl,rfl,ho,uz ns _ hall,hlen⟩
theorem GN (l:OpenLaw) (args:List WData):l.row.toRowW.claim.post args (.bool true) args=true:=
 postW_of (r:=l.row.toRowW) (X:=(true == true))
  (show WShape.has [] (.bool true) .bool=true by first | rfl | decide | simp [WShape.has,WShape.arms,WShape.armsAll])
  (show (WTm.eq .res (.lit (.bool true))).value [] {args:=args,res:=some (.bool true),after:=args}=some (.bool (true == true)) from w_eq_bool (w_res rfl) w_lit) rfl
theorem attach_call {l:OpenLaw} {n:Nat} {q:Program} {loose:List Str} {XP:(Str→Option Value)→Heap→Prop} {YP:World→Heap→Prop} {d:DefRec}
  (hn:l.most=some n) (hdf:d.params.defaults=[])
  (call:∀ (w:World) (s₀ s₁:Shared) (mg mb:Str→Option Value) (fa:Addr) (o:Obj) (pm cd doc:Value) (a:Addr) (vs:List Value) (ns:List Int),
   Ground q loose [] XP w s₀ mg mb s₁.heap→YP w s₁.heap→
   s₁.heap.get? fa=some o→o.data= .func (docDef d.name d.params d.body d.scope pm cd doc)→s₁.heap.CodeRec cd d.name→mg d.name=some (.ref fa)→
   s₁.heap.get? a=some {cls:= .type "list",data:= .seq vs.toArray}→IntsAre vs ns→ns.length≤n→s₁.gens=#[]→
   codeAny (model l.prog w) callerA (.call (.ref fa) ⟨[.ref a],[]⟩) (fun r s'=>r= .ok (.ret (.bool true))∧OldK s₁.heap s'.heap∧s'.os=s₁.os∧AllBare s'.gens) s₁):
  WalkO q loose XP YP l.row.toRowW d [] (fun f vs=>PySem.call f vs):=by
 intro w s₀ s₁ mg mb G Y fa o pm cd doc dV kV ho hd hcd hD hmg hg args vals as hpre hlay hrd hwl hlo
 obtain rfl:dV= .none:=Dflts.none hD hdf
 obtain rfl:kV= .none:=Dflts.noKw hD
 obtain ⟨a,vs,ns,rfl,rfl,hobj,hints,hlen⟩:=GD hn hpre hwl
 refine enter_call (codeAny_mono (call w s₀ s₁ mg mb fa o pm cd doc a vs ns G Y ho (fd_plain hd) hcd hmg hobj hints hlen hg) fun r s' hq=>?_)
 obtain ⟨rfl,h2,h3,h4⟩:=hq
 exact ⟨.inl ⟨.bool true,.bool true,[],rfl,fun _=>rfl,.bool true,GN l _,fun _=>⟨List.Pairwise.nil,fun _ hm=>(nomatch hm)⟩⟩,h2,h3,h4⟩
section
variable {prog:Program} {w:World} {A:Around} {E:Value→Shared→Prop} {s:Shared} {K:Frag}
noncomputable def P8 (h:Heap):Heap:={h with objs:=#[]}
end
end Att
namespace L2
open PySem PySem.Spec PyProof.Rows
theorem sT:∀ {vs:List Value} {ns:List Int},IntsAre vs ns→Vals (ns.map V.int) vs
 | _,_,.nil=> .nil
 | _,_,.cons n t h=> .cons ⟨t,rfl⟩ (sT h)
noncomputable def Only (H:Hp):Prop:=∀ b,H b=none∨∃ o xs,H b=some (.frz o (.lst xs))
theorem JZ {P:Program} {w:World} {K:PySem.W.Frag} {mg mb:Str→Option Value} {CX:CXT} {k:Nat} {fa a:Addr} {fd:FuncData} {x:Str} {sp:Sp} {s₁:Shared} {vs:List Value} {ns:List Int}
  (KX:K.In s₁.heap) (hns:s₁.heap.Ns mainGlobals mg) (hb:s₁.heap.Ns builtinsNs mb) (hbb:∀ x:Str,x≠"__name__"→mb x=bootBuiltins x) (hlim:s₁.heap.NoLimit) (hg:s₁.gens=#[])
  (ha:s₁.heap.get? a=some {cls:= .type "list",data:= .seq vs.toArray}) (hi:IntsAre vs ns) (hl:ns.length≤sizeLine) (hr:Room k callerA)
  (F:∀ base:Heap,K.In base→base.Ns mainGlobals mg→FnOk P w K mg base CX k fa fd [x] sp) (hbind:∀ (s:Shared) (u:Value),BindsTo s fd ⟨[u],[]⟩ [(x,u)])
  (hsp:∀ H:Hp,Only H→SqL K H a (ns.map V.int)→sp [.ref a] H (fun v _=>v= .bl true) fun _ _ _=>False)
  (hCX:∀ H e s',CX [] H s₁ (fun _ _ _=>False) e s'→False):
  codeAny (model P w) callerA (.call (.ref fa) ⟨[.ref a],[]⟩) (fun r s'=>r= .ok (.ret (.bool true))∧OldK s₁.heap s'.heap∧s'.os=s₁.os∧AllBare s'.gens) s₁:=by
 have rv:=sT hi
 have lenV:=hi.length
 have core:∀ H:Hp,Only H→SqL K H a (ns.map V.int)→HOk P w H s₁.heap→(∀ b,H b≠none→b=a)→(H a≠none→K.lookup a=none)→
   codeAny (model P w) callerA (.call (.ref fa) ⟨[.ref a],[]⟩) (fun r s'=>r= .ok (.ret (.bool true))∧OldK s₁.heap s'.heap∧s'.os=s₁.os∧AllBare s'.gens) s₁:=by
  intro H hO hS hok hA hK
  have base_of:∀ {b:Addr} {o:Obj},s₁.heap.get? b=some o→H b=none→(hidT s₁.heap H).get? b=some o:=fun e n=>J6 e n
  have noA:∀ {b:Addr} {o:Obj} {es:Array DictEntry} {ep:Nat},s₁.heap.get? b=some o→o.data= .dict es ep→H b=none:=fun {b o es ep} e d=>by
   cases q:H b with
   | none=>rfl
   | some u=>
     have e':b=a:=hA b (by rw [q];simp)
     subst e'
     rw [ha] at e;cases e
     have d':Data.seq vs.toArray _=Data.dict es ep:=d
     cases d'
  have nsK:∀ {b:Addr} {m:Str→Option Value},s₁.heap.Ns b m→(hidT s₁.heap H).Ns b m:=fun {b m} ⟨o,es,ep,e,d,r⟩=>⟨o,es,ep,base_of e (noA e d),d,r⟩
  have hKb:K.In (hidT s₁.heap H):=fun b o e=>base_of (KX b o e) (by
   cases q:H b with
   | none=>rfl
   | some u=>
     have e':b=a:=hA b (by rw [q];simp)
     subst e'
     rw [hK (by rw [q];simp)] at e;cases e)
  have hM:Mod K mg (hidT s₁.heap H):=⟨hKb,nsK hns,⟨mb,nsK hb,hbb⟩,let ⟨mc,h1,h2⟩:=hlim;⟨mc,nsK h1,h2⟩⟩
  have e0:Env0 P w K mg (hidT s₁.heap H) callerA [] s₁ H:=⟨rfl,hM,fun b o e=>Mi e,Nat.le_of_eq (HA _ _),trivial,fun b hb=>absurd (show b∈([]:List Addr) from hb) (by simp),hok,.of_eq hg⟩
  refine codeAny_mono ((F _ hKb (nsK hns)).run callerA [] s₁ H ⟨[.ref a],[]⟩ [.ref a] [.ref a] _ _ hr e0 (hbind s₁ (.ref a)) (.cons rfl .nil) (hsp H hO hS)) fun r s' h=>?_
  cases r with
  | error e=>exact (hCX H e s' h).elim
  | ok fl=>
    cases fl with
    | next=>exact False.elim h
    | brk=>exact False.elim h
    | cont=>exact False.elim h
    | ret u=>
      obtain ⟨v,H',os,bare,un,hok',r',q⟩:=h
      have q':v= .bl true:=q
      subst q'
      obtain rfl:u=Value.bool true:=r'
      refine ⟨rfl,OldK.of_keep fun b o e=>?_,os,bare⟩
      cases q:H b with
      | none=>exact un.keep b o e q (by intro z;exact absurd (show b∈([]:List Addr) from z) (by simp)) (by simp)
      | some u=>
        rcases hO b with z | ⟨ob,xs,z⟩
        ·rw [q] at z;cases z
        ·have z2:=un.frzs b ob _ z
         obtain ⟨e1,_⟩:=hok b _ z
         obtain ⟨e2,_⟩:=hok' b _ z2
         rw [e] at e1;cases e1
         exact e2
 cases hk:K.lookup a with
 | some o=>
   have e:=KX a o hk
   rw [ha] at e
   cases e
   refine core (fun _=>none) (fun _=> .inl rfl) (.inr ⟨_,vs.toArray,_,hk,rfl,rfl,rfl,by rw [List.size_toArray,lenV];exact hl,by simpa using rv⟩) (fun b u z=>by have z':(none:Option HO)=some u:=z;cases z') (fun b z=>absurd rfl z) fun z=>absurd rfl z
 | none=>
   refine core (fun b=>if b=a then some (.frz {cls:= .type "list",data:= .seq vs.toArray} (.lst (ns.map V.int))) else none) (fun b=>?_) (.inl (.inr ⟨{cls:= .type "list",data:= .seq vs.toArray},if_pos rfl⟩)) (fun b u z=>?_) (fun b z=>?_) fun _=>hk
   ·by_cases hb:b=a
    ·exact .inr ⟨_,_,if_pos hb⟩
    ·exact .inl (if_neg hb)
   ·by_cases hb:b=a
    ·have z':=(if_pos hb).symm.trans z
     cases z'
     subst hb
     exact ⟨ha,by rw [List.length_map];exact hl,vs,_,rv,ha⟩
    ·have z':=(if_neg hb).symm.trans z
     cases z'
   ·by_cases hb:b=a
    ·exact hb
    ·exact absurd (if_neg hb) z
theorem walk_of {l:PySem.W.OpenLaw} {n k:Nat} {q:Program} {loose:List Str} {XP:(Str→Option Value)→Heap→Prop} {YP:World→Heap→Prop} {d:DefRec} {K:Params→PySem.W.Frag} {CX:World→CXT} {sp:World→Sp} {x:Str}
  (hn:l.most=some n) (hn2:n≤sizeLine) (hdf:d.params.defaults=[]) (hr:Room k callerA)
  (hY:∀ (w:World) (h:Heap),YP w h→(K w.params).In h)
  (F:∀ (w:World) (mg:Str→Option Value) (fa:Addr) (h:Heap),(K w.params).In h→h.Ns mainGlobals mg→mg d.name=some (.ref fa)→
   ∃ fd:FuncData,(∀ (s:Shared) (u:Value),BindsTo s fd ⟨[u],[]⟩ [(x,u)])∧
     ∀ base:Heap,(K w.params).In base→base.Ns mainGlobals mg→FnOk l.prog w (K w.params) mg base (CX w) k fa fd [x] (sp w))
  (hsp:∀ (w:World) (H:Hp) (a:Addr) (ns:List Int),ns.length≤n→Only H→SqL (K w.params) H a (ns.map V.int)→sp w [.ref a] H (fun v _=>v= .bl true) fun _ _ _=>False)
  (hCX:∀ (w:World) (H:Hp) (s:Shared) (e:Value) (s':Shared),CX w [] H s (fun _ _ _=>False) e s'→False):
  PySem.W.WalkO q loose XP YP l.row.toRowW d [] (fun f vs=>PySem.call f vs):=by
 refine Att.attach_call hn hdf fun w s₀ s₁ mg mb fa o pm cd doc a vs ns G Y ho hd hcd hmg hobj hints hlen hg=>?_
 have KX:=hY w _ Y
 obtain ⟨fd,hb,hF⟩:=F w mg fa _ KX G.T.g hmg
 exact JZ KX G.T.g G.T.b G.T.builtins G.T.nolimit hg hobj hints (Nat.le_trans hlen hn2) hr hF hb (fun H hO hS=>hsp w H a ns hlen hO hS) fun H e s'=>hCX w H s₁ e s'
noncomputable def g0 (s:Stmt) (j:Nat):Stmt:=match s with
 | .ClassDef _ _ _ body _ _ _ _ _ _ _=>body.getD j (.Pass ⟨0,0,0,0⟩)
 | _=> .Pass ⟨0,0,0,0⟩
noncomputable def aC (s:Stmt):Arguments:=match s with
 | .FunctionDef _ a _ _ _ _ _ _ _ _=>a
 | _=>{posonlyargs:=[],args:=[],vararg:=none,kwonlyargs:=[],kw_defaults:=[],kwarg:=none,defaults:=[]}
noncomputable def az (s:Stmt):List Stmt:=match s with
 | .FunctionDef _ _ b _ _ _ _ _ _ _=>b
 | _=>[]
noncomputable def ag (s:Stmt):Scope:=match s with
 | .FunctionDef _ _ _ _ _ _ sc _ _ _=>sc
 | _=>{kind:= .function,names:=[],isGenerator:=false,isCoroutine:=false}
noncomputable abbrev CX0:CXT:=fun _ _ _ _ _ _=>False
noncomputable abbrev E0:XK:=fun _ _ _=>False
theorem aV {X:Cx}:vi CX0 X E0:=fun _ _ _ _ _ _ _ h=>h.elim
structure Fun (K:PySem.W.Frag) (x qual:Str) (st:Stmt) (f:Addr) (fd:FuncData):Prop where
 ex:∃ (oc:Value) (od:Option Addr) (kV doc pm:Value) (an:Option Addr) (cdv ct:Value) (osl:Array (Option Value)),
  fd=PySem.W.fnOf x qual (aC st) (az st) (ag st) .none kV doc pm an cdv ct∧K.lookup f=some ⟨oc,od,.func fd,osl⟩∧PySem.W.codeIn K cdv qual=true
 kp:PySem.W.keepIn K (.ref f)=true
section
variable {P:Program} {w:World} {K:PySem.W.Frag} {mg:Str→Option Value} {base:Heap}
theorem Fun.ok {x qual:Str} {st:Stmt} {f:Addr} {fd:FuncData} {N ps:List Str} {k:Nat} {sp:Sp} (F:Fun K x qual st f fd) (S:aD N ps (ag st)) (len:∀ vs H Q E,sp vs H Q E→vs.length=ps.length)
  (hbody:∀ (cdv:Value) (A:Around) (outer:List Env) (s:Shared) (H:Hp) (vs:List V) (Q:VK) (E:XK),Room k (A.deeper (envOfC qual (ag st) s.heap.objs.size f cdv))→sp vs H Q E→
   ∃ t,PSs (cxOf CX0 P w K mg base N qual (ag st) f cdv A outer s H E).nox (az st) t∧t {nx:=fun _ H'=>Q .non H',rt:=Q} (qV N vs) H):FnOk P w K mg base CX0 (k + 1) f fd ps sp:=by
 obtain ⟨oc,od,kV,doc,pm,an,cdv,ct,osl,rfl,lk,hcd⟩:=F.ex
 refine MH lk hcd S len fun A outer s H vs Q E hr hsp=>?_
 obtain ⟨t,h,q⟩:=hbody cdv A outer s H vs Q E hr hsp
 exact ⟨t,h.nox,q⟩
theorem Fun.binds {x qual:Str} {st:Stmt} {f:Addr} {fd:FuncData} {ps:List Str} (F:Fun K x qual st f fd)
  (h:∀ (kV doc pm:Value) (an:Option Addr) (cdv ct:Value) (us:List Value),us.length=ps.length→bindArgs (PySem.W.fnOf x qual (aC st) (az st) (ag st) .none kV doc pm an cdv ct) ⟨us,[]⟩=pure (ps.zip us)):bz K fd ps []:=by
 obtain ⟨oc,od,kV,doc,pm,an,cdv,ct,osl,rfl,lk,hcd⟩:=F.ex
 exact .all (h kV doc pm an cdv ct)
theorem bh {x qual:Str} {st:Stmt} {f:Addr} {oc:Value} {od an:Option Addr} {osl:Array (Option Value)} {kV doc pm cdv ct:Value} (l:K.lookup f=some ⟨oc,od,.func (PySem.W.fnOf x qual (aC st) (az st) (ag st) .none kV doc pm an cdv ct),osl⟩)
  (c:PySem.W.codeIn K cdv qual=true) (k:PySem.W.keepIn K (.ref f)=true):Fun K x qual st f (PySem.W.fnOf x qual (aC st) (az st) (ag st) .none kV doc pm an cdv ct):=⟨⟨oc,od,kV,doc,pm,an,cdv,ct,osl,rfl,l,c⟩,k⟩
end
theorem vS {A:Around} {k:Nat} (hr:Room k A):A.units + 1 < cLine:=Nat.lt_of_le_of_lt (Nat.add_le_add_left (by decide:1≤64) _) hr.units
theorem cU {n:Nat} (h:n≤1000):n < sizeLine:=Nat.lt_of_le_of_lt h (by decide)
section
variable {X:Cx}
theorem pv (i:Nat) {x:Str} {pos:Pos} (hN:X.N[i]? =some x:=by rfl) (hv:Vis X.env.scope x:=by first | exact Or.inl rfl | exact Or.inr (Or.inl rfl) | exact Or.inr (Or.inr rfl)) (hd:(x == ("__debug__":Str))=false:=by decide)
  (hcd:(x == ("__classdict__":Str))=false:=by decide):PE X (.Name x pos) (tVar i):=Ol hN hv hd hcd
end
theorem ite2 {c A B:Prop} [Decidable c] (h1:c→A) (h2:¬ c→B):if c then A else B:=by
 by_cases h:c
 ·rw [if_pos h]
  exact h1 h
 ·rw [if_neg h]
  exact h2 h
noncomputable def Same (H H':Hp):Prop:=∀ b o,H b=some o→H' b=some o
theorem Same.refl (H:Hp):Same H H:=fun _ _ h=>h
theorem Same.trans {H H1 H2:Hp} (a:Same H H1) (b:Same H1 H2):Same H H2:=fun c o h=>b c o (a c o h)
theorem Same.free {H H':Hp} (e:Same H H') {l:Addr} (h:H' l=Option.none):H l=Option.none:=by
 cases q:H l with
 | none=>rfl
 | some o=>
   rw [e l o q] at h
   cases h
theorem Same.seq {K:PySem.W.Frag} {H H':Hp} {a:Addr} {xs:List V} (e:Same H H') (h:SqL K H a xs):SqL K H' a xs:=by
 rcases h with (h | ⟨o,h⟩) | h
 ·exact .inl (.inl (e _ _ h))
 ·exact .inl (.inr ⟨o,e _ _ h⟩)
 ·exact .inr h
section
variable {κ:Type} [DecidableEq κ]
noncomputable def valV (kvs:List (κ×V)) (k:κ):Option V:=(kvs.find? fun kv=>decide (kv.1=k)).map (·.2)
noncomputable def putK (kvs:List (κ×V)) (k:κ) (v:V):List (κ×V):=
 if (kvs.any fun kv=>decide (kv.1=k))=true then kvs.map (fun kv=>if kv.1=k then (kv.1,v) else kv) else kvs++[(k,v)]
theorem kM {p:κ×V} {r:List (κ×V)} {k:κ} (e:p.1=k):valV (p::r) k=some p.2:=by simp [valV,List.find?_cons,e]
theorem jb {p:κ×V} {r:List (κ×V)} {k:κ} (e:¬ p.1=k):valV (p::r) k=valV r k:=by simp [valV,List.find?_cons,e]
theorem sO (k:κ):∀ kvs:List (κ×V),(kvs.any fun kv=>decide (kv.1=k))=(valV kvs k).isSome
 | []=>rfl
 | p::r=>by
   rw [List.any_cons]
   by_cases e:p.1=k
   ·simp only [kM e,decide_eq_true e,Bool.true_or,Option.isSome_some]
   ·rw [jb e,decide_eq_false e,Bool.false_or];exact sO k r
theorem mI (kvs:List (κ×V)) (k:κ) (v:V):(putK kvs k v).length≤kvs.length + 1:=by
 unfold putK
 split
 ·rw [List.length_map];omega
 ·rw [List.length_append,List.length_cons,List.length_nil];omega
theorem putK_new {kvs:List (κ×V)} {k:κ} (v:V) (h:valV kvs k=none):putK kvs k v=kvs++[(k,v)]:=by
 unfold putK
 rw [sO,h]
 exact if_neg (by decide)
theorem RelO.isSome_eq {o:Option V} {u:Option Value} (r:RelO o u):o.isSome=u.isSome:=by
 cases o with
 | none=>cases u with
   | none=>rfl
   | some _=>exact (show False from r).elim
 | some _=>cases u with
   | none=>exact (show False from r).elim
   | some _=>rfl
theorem RelO.getD {o:Option V} {u:Option Value} {d:V} {d':Value} (r:RelO o u) (rd:RelV d d'):RelV (o.getD d) (u.getD d'):=by
 cases o with
 | none=>cases u with
   | none=>exact rd
   | some _=>exact (show False from r).elim
 | some _=>cases u with
   | none=>exact (show False from r).elim
   | some _=>exact r
theorem KV.val {kvs:List (κ×V)} {vs:List (κ×Value)} (r:KV kvs vs) (k:κ):RelO (valV kvs k) (valueAt vs k):=by
 unfold KV at r
 induction r with
 | nil=>exact True.intro
 | @cons p q ps qs h t ih=>
   obtain ⟨h1,h2⟩:=h
   by_cases e:p.1=k
   ·have e':q.1=k:=h1.symm.trans e
    have b:valueAt (q::qs) k=some q.2:=by simp [valueAt,List.find?_cons,e']
    rw [kM e,b];exact h2
   ·have e':¬ q.1=k:=fun z=>e (h1.trans z)
    have b:valueAt (q::qs) k=valueAt qs k:=by simp [valueAt,List.find?_cons,e']
    rw [jb e,b];exact ih
theorem KV.any {kvs:List (κ×V)} {vs:List (κ×Value)} (r:KV kvs vs) (k:κ):(kvs.any fun kv=>decide (kv.1=k))=vs.any fun kv=>decide (kv.1=k):=by
 unfold KV at r
 induction r with
 | nil=>rfl
 | cons h t ih=>rw [List.any_cons,List.any_cons,ih,h.1]
theorem KV.repl {kvs:List (κ×V)} {vs:List (κ×Value)} (r:KV kvs vs) (k:κ) {y:V} {u:Value} (ry:RelV y u):
  KV (kvs.map fun kv=>if kv.1=k then (kv.1,y) else kv) (vs.map fun kv=>if kv.1=k then (kv.1,u) else kv):=by
 unfold KV at r ⊢
 induction r with
 | nil=>exact .nil
 | @cons p q ps qs h t ih=>
   rw [List.map_cons,List.map_cons]
   refine .cons ?_ ih
   obtain ⟨h1,h2⟩:=h
   by_cases e:p.1=k
   ·rw [if_pos e,if_pos (h1.symm.trans e)];exact ⟨h1,ry⟩
   ·rw [if_neg e,if_neg (fun z=>e (h1.trans z))];exact ⟨h1,h2⟩
theorem KV.put {kvs:List (κ×V)} {vs:List (κ×Value)} (r:KV kvs vs) (k:κ) {y:V} {u:Value} (ry:RelV y u):KV (putK kvs k y) (stored vs k u):=by
 unfold putK stored
 rw [r.any k]
 by_cases e:(vs.any fun kv=>decide (kv.1=k))=true
 ·rw [if_pos e,if_pos e];exact r.repl k ry
 ·rw [if_neg e,if_neg e];exact Paired.snoc r ⟨rfl,ry⟩
theorem KV.keys {kvs:List (κ×V)} {vs:List (κ×Value)} (r:KV kvs vs):kvs.map (·.1)=vs.map (·.1):=by
 unfold KV at r
 induction r with
 | nil=>rfl
 | cons h t ih=>rw [List.map_cons,List.map_cons,ih,h.1]
theorem KV.length {kvs:List (κ×V)} {vs:List (κ×Value)} (r:KV kvs vs):kvs.length=vs.length:=Paired.length r
end
theorem BN {P:Program} {w:World} {k:Key} {u:Value} (r:RelV (kV k) u):(bY P w).is k u=true:=by
 cases k with
 | inl i=>obtain ⟨t,e⟩:=(show ∃ t,u=Value.int i t from r);subst e;exact BC P w i t
 | inr x=>obtain ⟨t,e⟩:=(show ∃ t,u=Value.str x t from r);subst e;exact BB P w x t
theorem Aa {P:Program} {w:World}:∀ {ks:List Key} {us:List Value},Vals (ks.map kV) us→ItemsAre (bY P w) ks us
 | [],_,r=>by rw [List.map_nil] at r;cases r;exact .nil
 | k::ks,_,r=>by
   rw [List.map_cons] at r
   cases r with
   | cons h t=>exact .cons (BN h) (Aa t)
noncomputable abbrev KT (H:Hp):List (List Key×V)→List (List Key×Addr×Value)→Prop:=Paired fun p q=>p.1=q.1∧H q.2.1=some (.tup (p.1.map kV))∧RelV p.2 q.2.2
theorem KT.val {H:Hp} {kvs:List (List Key×V)} {xs:List (List Key×Addr×Value)} (r:KT H kvs xs) (k:List Key):RelO (valV kvs k) ((atKey xs k).map (·.2)):=by
 induction r with
 | nil=>exact True.intro
 | @cons p q ps qs h t ih=>
   obtain ⟨h1,_,h2⟩:=h
   by_cases e:p.1=k
   ·have e':q.1=k:=h1.symm.trans e
    have b:atKey (q::qs) k=some q.2:=by simp [atKey,List.find?_cons,e']
    rw [kM e,b];exact h2
   ·have e':¬ q.1=k:=fun z=>e (h1.trans z)
    have b:atKey (q::qs) k=atKey qs k:=by simp [atKey,List.find?_cons,e']
    rw [jb e,b];exact ih
theorem KT.repl {H:Hp} {kvs:List (List Key×V)} {xs:List (List Key×Addr×Value)} (r:KT H kvs xs) (k:List Key) {y:V} {u:Value} (ry:RelV y u):
  KT H (kvs.map fun kv=>if kv.1=k then (kv.1,y) else kv) (xs.map (putAt k u)):=by
 induction r with
 | nil=>exact .nil
 | @cons p q ps qs h t ih=>
   rw [List.map_cons,List.map_cons]
   refine .cons ?_ ih
   obtain ⟨h1,h2,h3⟩:=h
   unfold putAt
   by_cases e:p.1=k
   ·rw [if_pos e,if_pos (h1.symm.trans e)];exact ⟨h1,h2,ry⟩
   ·rw [if_neg e,if_neg (fun z=>e (h1.trans z))];exact ⟨h1,h2,h3⟩
theorem KT.put {H:Hp} {kvs:List (List Key×V)} {xs:List (List Key×Addr×Value)} (r:KT H kvs xs) (k:List Key) {b:Addr} {y:V} {u:Value} (hb:H b=some (.tup (k.map kV))) (ry:RelV y u):
  KT H (putK kvs k y) (storedH xs k b u):=by
 have e:(kvs.any fun kv=>decide (kv.1=k))=(atKey xs k).isSome:=by
  rw [sO,(r.val k).isSome_eq,Option.isSome_map]
 unfold putK storedH
 rw [e]
 by_cases q:(atKey xs k).isSome=true
 ·rw [if_pos q,if_pos q];exact r.repl k ry
 ·rw [if_neg q,if_neg q];exact Paired.snoc r ⟨rfl,hb,ry⟩
theorem KT.keeps {H H':Hp} {kvs:List (List Key×V)} {xs:List (List Key×Addr×Value)} (r:KT H kvs xs) (ht:∀ b ys,H b=some (.tup ys)→H' b=some (.tup ys)):KT H' kvs xs:=
 Paired.mapP r fun _ _ z=>⟨z.1,ht _ _ z.2.1,z.2.2⟩
section
variable {P:Program} {w:World} {H:Hp} {h:Heap} {a:Addr}
theorem Oa {u:HO} (ok:HOk P w H h) (e:Rd H a u):eB P w H h a u:=e.ok ok
theorem BV {kvs:List (Key×V)} (ok:HOk P w H h) (e:Rd H a (.dK kvs)):kvs.length≤sizeLine∧(a == sysModules)=false∧∃ vs,KV kvs vs∧h.DictOf (bY P w) a vs:=
 show eB P w H h a (.dK kvs) from Oa ok e
theorem Kk {kvs:List (Key×V)} (ok:HOk P w H h) (e:H a=some (.dK kvs)):kvs.length≤sizeLine∧(a == sysModules)=false∧∃ vs,KV kvs vs∧h.DictOf (bY P w) a vs:=BV ok (.inl e)
theorem wV {ks:List Key} (ok:HOk P w H h) (e:H a=some (.tup (ks.map kV))):(tupleKind (bY P w)).is h ks a:=by
 obtain ⟨_,its,r,o,h1,h2,n,h3⟩:=(show eB P w H h a (.tup (ks.map kV)) from ok a _ e)
 exact ⟨o,its.toArray,n,h1,h2,h3,by simpa using Aa r⟩
theorem BU {kvs:List (List Key×V)} (ok:HOk P w H h) (e:Rd H a (.dT kvs)):kvs.length≤sizeLine∧(a == sysModules)=false∧
  ∃ xs,KT H kvs xs∧h.DictOfH (tupleKind (bY P w)) a xs:=by
 obtain ⟨z,y,xs,r,o,es,ep,h1,h2,h3,h4,h5⟩:=(show eB P w H h a (.dT kvs) from Oa ok e)
 refine ⟨z,y,xs,r,o,es,ep,h1,h2,h3,h4,fun x hx=>?_,h5⟩
 have all:∀ {l:List (List Key×V)} {m:List (List Key×Addr×Value)},KT H l m→∀ x∈m,(tupleKind (bY P w)).is h x.1 x.2.1:=by
  intro l m q
  induction q with
  | nil=>intro x hx;exact nomatch hx
  | @cons p q ps qs hq t ih=>
    intro x hx
    rcases List.mem_cons.mp hx with e | hx
    ·subst e
     exact wV ok (by rw [← hq.1];exact hq.2.1)
    ·exact ih x hx
 exact all r x hx
theorem P3 {kvs:List (List Key×V)} (ok:HOk P w H h) (e:H a=some (.dT kvs)):kvs.length≤sizeLine∧(a == sysModules)=false∧
  ∃ xs,KT H kvs xs∧h.DictOfH (tupleKind (bY P w)) a xs:=BU ok (.inl e)
end
noncomputable def DGet (H:Hp) (a:Addr) (y:V) (r:Option V):Prop:=
 (∃ kvs k,Rd H a (.dK kvs)∧y=kV k∧r=valV kvs k)∨∃ kvs k b,Rd H a (.dT kvs)∧y= .ref b∧H b=some (.tup (k.map kV))∧r=valV kvs k
noncomputable def DPut (H:Hp) (a:Addr) (y v:V) (H':Hp):Prop:=
 (∃ kvs k,H a=some (.dK kvs)∧y=kV k∧kvs.length < sizeLine∧H'=upd H a (.dK (putK kvs k v)))∨
 ∃ kvs k b,H a=some (.dT kvs)∧y= .ref b∧H b=some (.tup (k.map kV))∧kvs.length < sizeLine∧H'=upd H a (.dT (putK kvs k v))
theorem DGet.k {H:Hp} {a:Addr} {kvs:List (Key×V)} {k:Key} (e:H a=some (.dK kvs)):DGet H a (kV k) (valV kvs k):= .inl ⟨kvs,k,.inl e,rfl,rfl⟩
theorem DGet.t {H:Hp} {a b:Addr} {kvs:List (List Key×V)} {k:List Key} (e:H a=some (.dT kvs)) (eb:H b=some (.tup (k.map kV))):DGet H a (.ref b) (valV kvs k):= .inr ⟨kvs,k,b,.inl e,rfl,eb,rfl⟩
theorem DPut.k {H:Hp} {a:Addr} {kvs:List (Key×V)} {k:Key} {v:V} (e:H a=some (.dK kvs)) (hl:kvs.length < sizeLine):DPut H a (kV k) v (upd H a (.dK (putK kvs k v))):= .inl ⟨kvs,k,e,rfl,hl,rfl⟩
theorem DPut.t {H:Hp} {a b:Addr} {kvs:List (List Key×V)} {k:List Key} {v:V} (e:H a=some (.dT kvs)) (eb:H b=some (.tup (k.map kV))) (hl:kvs.length < sizeLine):
  DPut H a (.ref b) v (upd H a (.dT (putK kvs k v))):= .inr ⟨kvs,k,b,e,rfl,eb,hl,rfl⟩
section
variable {X:Cx} {pins:List (Addr×Obj)} {σ:St} {H:Hp} {s:Shared} {a:Addr} {y v:V} {u r:Value} {o:Option V} {A:Around} {E:Value→Shared→Prop}
theorem Inv.big (I:Inv X pins σ H s):sysModules < s.heap.objs.size:=by
 have h:mainGlobals < s.heap.objs.size:=(I.mod.glob.keeps I.bk).lt
 exact Nat.lt_trans (by decide) h
theorem HZ {Q:Value→Shared→Prop} (hu:A.units + 1 < cLine) (I:Inv X pins σ H s) (g:DGet H a y (some v)) (ry:RelV y u) (h:∀ w' s',Inv X pins σ H s'→RelV v w'→Q w' s'):
  wpAny (model X.prog X.w) A (getItem (.ref a) u) Q E s:=by
 rcases g with ⟨kvs,k,e,ey,l⟩ | ⟨kvs,k,b,e,ey,eb,l⟩
 ·subst ey
  obtain ⟨z,hd,vs,rel,dd⟩:=BV I.hok e
  obtain ⟨w',hw,rw'⟩:=RelO.some_of (v:=v) (o:=valueAt vs k) (by rw [l];exact rel.val k)
  exact wpAny_getItem_of (BN ry) dd.mapOf hw (h w' _ (I.tok _) rw')
 ·subst ey
  cases (show u=Value.ref b from ry)
  obtain ⟨z,hd,xs,rel,dd⟩:=BU I.hok e
  obtain ⟨w',hw,rw'⟩:=RelO.some_of (v:=v) (o:=(atKey xs k).map (·.2)) (by rw [l];exact rel.val k)
  obtain ⟨p,hp,hp2⟩:=Option.map_eq_some_iff.mp hw
  refine wpAny_getItem_heap (tupleKind_room_in1 hu) (wV I.hok eb) dd hp ?_
  rw [hp2]
  exact h w' _ (I.tok _) rw'
theorem d_in {Q:Value→Shared→Prop} (hu:A.units + 1 < cLine) (I:Inv X pins σ H s) (g:DGet H a y o) (ry:RelV y u) (h:∀ s',Inv X pins σ H s'→Q (.bool o.isSome) s'):
  wpAny (model X.prog X.w) A (compareOp .In u (.ref a)) Q E s:=by
 rcases g with ⟨kvs,k,e,ey,l⟩ | ⟨kvs,k,b,e,ey,eb,l⟩
 ·subst ey
  obtain ⟨z,hd,vs,rel,dd⟩:=BV I.hok e
  refine wpAny_in_of (BN ry) hd dd.mapOf ?_
  rw [← (rel.val k).isSome_eq,← l]
  exact h _ (I.tok _)
 ·subst ey
  cases (show u=Value.ref b from ry)
  obtain ⟨z,hd,xs,rel,dd⟩:=BU I.hok e
  refine wpAny_in_heap (tupleKind_room_in1 hu) (wV I.hok eb) hd dd ?_
  have q:=(rel.val k).isSome_eq
  rw [Option.isSome_map] at q
  rw [← q,← l]
  exact h _ (I.tok _)
theorem MK {Q:Value→Shared→Prop} (hu:A.units + 1 < cLine) (I:Inv X pins σ H s) (g:DGet H a y o) (ry:RelV y u) (h:∀ s',Inv X pins σ H s'→Q (.bool (!o.isSome)) s'):
  wpAny (model X.prog X.w) A (compareOp .NotIn u (.ref a)) Q E s:=by
 rcases g with ⟨kvs,k,e,ey,l⟩ | ⟨kvs,k,b,e,ey,eb,l⟩
 ·subst ey
  obtain ⟨z,hd,vs,rel,dd⟩:=BV I.hok e
  refine wpAny_notIn_of (BN ry) hd dd.mapOf ?_
  rw [← (rel.val k).isSome_eq,← l]
  exact h _ (I.tok _)
 ·subst ey
  cases (show u=Value.ref b from ry)
  obtain ⟨z,hd,xs,rel,dd⟩:=BU I.hok e
  refine wpAny_notIn_heap (tupleKind_room_in1 hu) (wV I.hok eb) hd dd ?_
  have q:=(rel.val k).isSome_eq
  rw [Option.isSome_map] at q
  rw [← q,← l]
  exact h _ (I.tok _)
theorem B1 {h':Heap} {t':Nat} {ob:HO} (I:Inv X pins σ H s) (mu:Mut (H a)) (hs:Heap.SameBut a s.heap h') (he:∃ q,h'.get? a=some q) (new:eB X.prog X.w (upd H a ob) h' a ob):
  Inv X pins σ (upd H a ob) {s with heap:=h',toks:=t'}:=
 I.write (x:=a) (e:=a) mu (.inl rfl) (fun b q hb z=>(hs.2 b hb).trans z) he new
theorem K6 {P:Program} {w:World} {H':Hp} {h':Heap} {kvs:List (Key×V)} {vs:List (Key×Value)} (z:kvs.length≤sizeLine) (hd:(a == sysModules)=false) (rel:KV kvs vs) (dd:h'.DictOf (bY P w) a vs):
  eB P w H' h' a (.dK kvs):=⟨z,hd,vs,rel,dd⟩
theorem HY {H':Hp} {Q:Unit→Shared→Prop} (hu:A.units + 1 < cLine) (I:Inv X pins σ H s) (g:DPut H a y v H') (ry:RelV y u) (rv:RelV v r) (h:∀ s',Inv X pins σ H' s'→Q () s'):
  wpAny (model X.prog X.w) A (setItem (.ref a) u r) Q E s:=by
 rcases g with ⟨kvs,k,e,ey,l,eH⟩ | ⟨kvs,k,b,e,ey,eb,l,eH⟩
 ·subst ey eH
  obtain ⟨z,hd,vs,rel,dd⟩:=Kk I.hok e
  have hz:vs.length≤sizeLine:=by rw [← rel.length];exact z
  have hl:(putK kvs k v).length≤sizeLine:=by have:=mI kvs k v;omega
  refine wpAny_setItem_pairs (hsz:=hz) (BN ry) dd fun h' dd' hs=>h _ ?_
  have he:∃ q,h'.get? a=some q:=let ⟨q,_,_,hq,_⟩:=dd';⟨q,hq⟩
  exact B1 I (by rw [e];exact True.intro) hs he (K6 hl hd (rel.put k rv) dd')
 ·subst ey eH
  cases (show u=Value.ref b from ry)
  obtain ⟨z,hd,xs,rel,dd⟩:=P3 I.hok e
  have hz:xs.length≤sizeLine:=by rw [← Paired.length rel];exact z
  have hl:(putK kvs k v).length≤sizeLine:=by have:=mI kvs k v;omega
  refine wpAny_setItem_heap (hsz:=hz) (tupleKind_room_in1 hu) (wV I.hok eb) dd fun h' dd' hs=>h _ ?_
  obtain ⟨q,es,ep,hq,h2,h3,h4,_,h5⟩:=dd'
  refine B1 I (by rw [e];exact True.intro) hs ⟨q,hq⟩ ⟨hl,hd,_,(rel.put k eb rv).keeps fun c ys ec=>?_,q,es,ep,hq,h2,h3,h4,h5⟩
  rw [aL (iU ec e (fun z=>nomatch z))]
  exact ec
end
noncomputable def NoSl (i:Expr):Prop:=∀ ov iv,subscripted i false ov iv=operate [ov,iv] (getItem ov iv)
theorem Lv {prog:Program} {w:World} {A:Around} {E:Value→Shared→Prop} {s:Shared} {env:Env} {value slice:Expr} {pos:Pos} {T id:String} {Q:Value→Shared→Prop}
  (hl:typeLookup (.type T) "__getitem__"=pure (some (.builtin id))) (hs:NoSl slice)
  (h:wpAny (model prog w) A (eval value env) (fun o s₁=>wpAny (model prog w) A (eval slice env) (fun i s₂=>s₂.TypeIs o T∧wpAny (model prog w) A (getItem o i) Q E s₂) E s₁) E s):
  wpAny (model prog w) A (eval (.Subscript value slice pos) env) Q E s:=by
 refine Subscript_ (wpAny_mono h (fun o s₁ h₁=>wpAny_mono h₁ (fun i s₂ h₂=>?_) fun _ _ x=>x) fun _ _ x=>x)
 obtain ⟨hT,h₂⟩:=h₂
 unfold subscriptTail
 refine wpAny_bind ?_
 rw [getitemInPython_of_ne hT.not_modules]
 refine wpAny_bind (wpAny_specialOf hT hl ?_)
 have fin:wpAny (model prog w) A (subscripted slice false o i) (fun r s₃=>wpAny (model prog w) A (letTemporaryGo value o r >>=fun _=>pure r) Q E s₃) E s₂:=by
  rw [hs o i]
  exact wpAny_operating (wpAny_mono h₂ (fun r s₃ h₃=>wpAny_bind (wpAny_letTemporaryGo (wpAny_pure h₃))) fun _ _ x=>x)
 first
  | exact wpAny_pure (wpAny_bind fin)
  | exact wpAny_bind (wpAny_pure (wpAny_bind fin))
  | exact wpAny_bind fin
theorem BW {X:Cx} {pins:List (Addr×Obj)} {σ:St} {H:Hp} {s:Shared} {a:Addr} {y:V} {o:Option V} (I:Inv X pins σ H s) (g:DGet H a y o):s.TypeIs (.ref a) "dict":=by
 rcases g with ⟨kvs,k,e,_,_⟩ | ⟨kvs,k,b,e,_,_,_⟩
 ·obtain ⟨_,_,vs,_,dd⟩:=BV I.hok e
  exact dd.typeIs
 ·obtain ⟨_,_,xs,_,dd⟩:=BU I.hok e
  exact dd.typeIs
noncomputable def Nv (td ty:TE):TE:=fun σ H Q=>td σ H fun x H1=>ty σ H1 fun y H2=>∃ a v,x= .ref a∧DGet H2 a y (some v)∧Q v H2
noncomputable def tDIn (ty td:TE):TE:=fun σ H Q=>ty σ H fun y H1=>td σ H1 fun x H2=>∃ a o,x= .ref a∧DGet H2 a y o∧Q (.bl o.isSome) H2
noncomputable def Gi (ty td:TE):TE:=fun σ H Q=>ty σ H fun y H1=>td σ H1 fun x H2=>∃ a o,x= .ref a∧DGet H2 a y o∧Q (.bl (!o.isSome)) H2
noncomputable def N8 (td ty tv:TE):TS:=fun D σ H=>tv σ H fun v H1=>td σ H1 fun x H2=>ty σ H2 fun y H3=>∃ a H4,x= .ref a∧DPut H3 a y v H4∧D.nx σ H4
section
variable {X:Cx} {o i e value:Expr} {pos pos' tpos:Pos} {td ty tv:TE}
theorem tF (hu:X.A.units + 1 < cLine) (ho:PE X o td) (hi:PE X i ty) (hs:NoSl i):PE X (.Subscript o i pos) (Nv td ty):=by
 intro pins s σ H Q I h
 refine Lv PySem.F.slot_dict_getitem.lookup hs (thn (ho pins s σ H _ I h) fun u s1 ⟨x,H1,I1,rx,q1⟩=>thn (hi pins s1 σ H1 _ I1 q1) fun iv s2 ⟨y,H2,I2,ry,a,v,ex,g,q2⟩=>?_)
 subst ex
 obtain rfl:u=Value.ref a:=rx
 exact ⟨BW I2 g,HZ hu I2 g ry fun w' s3 I3 rw'=>⟨v,H2,I3,rw',q2⟩⟩
theorem CN (hu:X.A.units + 1 < cLine) (hi:PE X i ty) (ho:PE X o td):PC X .In i o (tDIn ty td):=by
 intro pins s σ H Q I h
 refine thn (hi pins s σ H _ I h) fun iv s1 ⟨y,H1,I1,ry,q1⟩=>thn (ho pins s1 σ H1 _ I1 q1) fun u s2 ⟨x,H2,I2,rx,a,ov,ex,g,q2⟩=>?_
 subst ex
 obtain rfl:u=Value.ref a:=rx
 exact d_in hu I2 g ry fun s3 I3=>⟨.bl ov.isSome,H2,I3,rfl,q2⟩
theorem tI (hu:X.A.units + 1 < cLine) (hi:PE X i ty) (ho:PE X o td):PC X .NotIn i o (Gi ty td):=by
 intro pins s σ H Q I h
 refine thn (hi pins s σ H _ I h) fun iv s1 ⟨y,H1,I1,ry,q1⟩=>thn (ho pins s1 σ H1 _ I1 q1) fun u s2 ⟨x,H2,I2,rx,a,ov,ex,g,q2⟩=>?_
 subst ex
 obtain rfl:u=Value.ref a:=rx
 exact MK hu I2 g ry fun s3 I3=>⟨.bl (!ov.isSome),H2,I3,rfl,q2⟩
theorem xK (hu:X.A.units + 1 < cLine) (ho:PE X o td) (hi:PE X i ty) (hv:PE X value tv) (hs:swapsWith value (some (.Subscript o i pos')) pos.line X.env=pure false):
  PS X (.Assign [.Subscript o i pos'] value pos) (N8 td ty tv):=by
 intro pins s σ H D I h
 refine wpAny_Assign_Subscript (thn (hv pins s σ H _ I h) fun r s1 ⟨v,H1,I1,rv,q1⟩=>thn (ho pins s1 σ H1 _ I1 q1) fun u s2 ⟨x,H2,I2,rx,q2⟩=>thn (hi pins s2 σ H2 _ I2 q2) fun iv s3 ⟨y,H3,I3,ry,a,H4,ex,g,q3⟩=>?_) hs
 subst ex
 obtain rfl:u=Value.ref a:=rx
 exact HY hu I3 g ry rv fun s4 I4=>⟨σ,H4,I4,q3⟩
end
theorem CZ {P:Program} {w:World} {H:Hp} (h:Heap) (hb:sysModules < h.objs.size):eB P w H (h.push {cls:= .type "dict",data:= .dict #[]}) h.objs.size (.dK []):=
 ⟨Nat.zero_le _,beq_eq_false_iff_ne.mpr (Ne.symm (Nat.ne_of_lt hb)),[],.nil,Heap.DictOf.new h⟩
theorem Kj {P:Program} {w:World} {H:Hp} (h:Heap) (hb:sysModules < h.objs.size):eB P w H (h.push {cls:= .type "dict",data:= .dict #[]}) h.objs.size (.dT []):=
 ⟨Nat.zero_le _,beq_eq_false_iff_ne.mpr (Ne.symm (Nat.ne_of_lt hb)),[],.nil,_,#[],0,Heap.get?_push_size _ rfl,⟨rfl,rfl,rfl⟩,rfl,rfl,List.nodup_nil⟩
noncomputable def KH:TE:=fun _ H Q=>∀ p,H p=none→Q (.ref p) (upd H p (.dK []))
noncomputable def Nu:TE:=fun _ H Q=>∀ p,H p=none→Q (.ref p) (upd H p (.dT []))
section
variable {X:Cx} {pos:Pos}
theorem CM:PE X (.Dict [] [] pos) KH:=fun pins s σ H Q I h=>
 wpAny_Dict_empty ⟨.ref s.heap.objs.size,_,I.laid (a:=s.heap.objs.size) (o:= .dK []) (t':=s.toks) (fun _ _ q=>Heap.get?_push_of_some _ q) (Nat.le_refl _) (CZ s.heap I.big),rfl,h _ (I.hok.fresh (Nat.le_refl _))⟩
theorem JL:PE X (.Dict [] [] pos) Nu:=fun pins s σ H Q I h=>
 wpAny_Dict_empty ⟨.ref s.heap.objs.size,_,I.laid (a:=s.heap.objs.size) (o:= .dT []) (t':=s.toks) (fun _ _ q=>Heap.get?_push_of_some _ q) (Nat.le_refl _) (Kj s.heap I.big),rfl,h _ (I.hok.fresh (Nat.le_refl _))⟩
end
noncomputable def Gg:List (TE×TE)→St→Hp→(List (V×V)→Hp→Prop)→Prop
 | [],_,H,Q=>Q [] H
 | (tk,tv)::r,σ,H,Q=>tk σ H fun x H1=>tv σ H1 fun y H2=>Gg r σ H2 fun ps H3=>Q ((x,y)::ps) H3
noncomputable abbrev VV:List (V×V)→List (Value×Value)→Prop:=Paired fun p q=>RelV p.1 q.1∧RelV p.2 q.2
noncomputable def PPs (X:Cx) (pos:Pos) (keys:List (Option Expr)) (values:List Expr) (trs:List (TE×TE)):Prop:=
 ∀ (pins:List (Addr×Obj)) (s:Shared) (σ:St) (H:Hp) (Q:List (V×V)→Hp→Prop),Inv X pins σ H s→Gg trs σ H Q→
  wpAny (model X.prog X.w) X.A (evalPairs (pairTrees keys values X.env pos)) (fun vs s'=>∃ ps H',Inv X pins σ H' s'∧VV ps vs∧Q ps H') X.xe s
theorem GM {X:Cx} {pos:Pos}:PPs X pos [] [] []:=fun pins s σ H Q I h=>pairTrees_nil_walk ⟨[],H,I,.nil,h⟩
theorem CJ {X:Cx} {pos:Pos} {k v:Expr} {ks:List (Option Expr)} {vs:List Expr} {tk tv:TE} {trs:List (TE×TE)} (hk:PE X k tk) (hv:PE X v tv) (hr:PPs X pos ks vs trs):
  PPs X pos (some k::ks) (v::vs) ((tk,tv)::trs):=fun pins s σ H Q I h=>
 pairTrees_cons_walk (thn (hk pins s σ H _ I h) fun u s1 ⟨x,H1,I1,rx,q1⟩=>thn (hv pins s1 σ H1 _ I1 q1) fun w2 s2 ⟨y,H2,I2,ry,q2⟩=>
  thn (hr pins s2 σ H2 _ I2 q2) fun ws s3 ⟨ps,H3,I3,rel,q3⟩=>⟨(x,y)::ps,H3,I3,.cons ⟨rx,ry⟩ rel,q3⟩)
noncomputable def zM (kvs more:List (Key×V)):List (Key×V):=more.foldl (fun acc kv=>putK acc kv.1 kv.2) kvs
theorem KV.merge:∀ {more:List (Key×V)} {rs:List (Key×Value)} {kvs:List (Key×V)} {vs:List (Key×Value)},KV more rs→KV kvs vs→KV (zM kvs more) (merged vs rs):=by
 intro more rs kvs vs r
 unfold KV at r
 induction r generalizing kvs vs with
 | nil=>intro q;exact q
 | @cons p q ps qs h t ih=>
   intro r0
   have e:KV (putK kvs p.1 p.2) (stored vs q.1 q.2):=by
    have:=r0.put p.1 h.2
    rw [← h.1];exact this
   exact ih e
theorem nO:∀ (more kvs:List (Key×V)),(zM kvs more).length≤kvs.length + more.length
 | [],kvs=>by show kvs.length≤kvs.length + 0;omega
 | p::r,kvs=>by
   have h1:=nO r (putK kvs p.1 p.2)
   have h2:=mI kvs p.1 p.2
   show (zM (putK kvs p.1 p.2) r).length≤_
   rw [List.length_cons];omega
theorem xq {P:Program} {w:World}:∀ {kvs:List (Key×V)} {ws:List (Value×Value)},VV (kvs.map fun kv=>(kV kv.1,kv.2)) ws→∃ rs,Carries (bY P w) ws rs∧KV kvs rs
 | [],_,r=>by rw [List.map_nil] at r;cases r;exact ⟨[],True.intro,.nil⟩
 | p::kvs,_,r=>by
   rw [List.map_cons] at r
   cases r with
   | @cons a b as bs h t=>
     obtain ⟨rs,c,q⟩:=xq (P:=P) (w:=w) t
     obtain ⟨b1,b2⟩:=b
     exact ⟨(p.1,b2)::rs,⟨BN h.1,rfl,c⟩,.cons ⟨rfl,h.2⟩ q⟩
noncomputable def Nr (trs:List (TE×TE)):TE:=fun σ H Q=>∀ p,H p=none→Gg trs σ (upd H p (.dK [])) fun ps H2=>H2 p=some (.dK [])∧∃ kvs:List (Key×V),ps=kvs.map (fun kv=>(kV kv.1,kv.2))∧kvs.length≤15∧Q (.ref p) (upd H2 p (.dK (zM [] kvs)))
theorem GS {X:Cx} {pos:Pos} {keys:List (Option Expr)} {values:List Expr} {trs:List (TE×TE)} (h:PPs X pos keys values trs) (hall:keys.all (·.isSome)=true) (hl:keys.length=values.length) (h0:keys≠[])
  (h15:keys.length≤15):PE X (.Dict keys values pos) (Nr trs):=by
 intro pins s σ H Q I q
 have hn:=I.hok.fresh (Nat.le_refl s.heap.objs.size)
 have I1:=I.laid (a:=s.heap.objs.size) (o:= .dK []) (h':=s.heap.push {cls:= .type "dict",data:= .dict #[]}) (t':=s.toks) (fun _ _ q=>Heap.get?_push_of_some _ q) (Nat.le_refl _) (CZ s.heap I.big)
 refine wpAny_Dict_walk (knd:=bY X.prog X.w) hall hl h0 h15 (thn (h pins _ σ _ _ I1 (q _ hn)) fun ws s2 ⟨ps,H2,I2,rel,e,kvs,ep,lk,q2⟩=>?_)
 subst ep
 obtain ⟨rs,c,rk⟩:=xq (P:=X.prog) (w:=X.w) rel
 obtain ⟨z,hd,vs0,r0,dd⟩:=Kk I2.hok e
 cases r0
 refine ⟨rs,c,dd,fun h' dd' hs=>⟨.ref s.heap.objs.size,_,?_,rfl,q2⟩⟩
 have hz:(zM [] kvs).length≤sizeLine:=by
  have h1:=nO kvs []
  rw [List.length_nil] at h1
  rw [sizeLine_eq];omega
 have he:∃ q,h'.get? s.heap.objs.size=some q:=let ⟨q,_,_,hq,_⟩:=dd';⟨q,hq⟩
 exact B1 I2 (by rw [e];exact True.intro) hs he (K6 hz hd (rk.merge .nil) dd')
structure M1 (X:Cx) (o:Expr) (m:Str) (apos:Pos) (e:Expr) (cpos:Pos):Prop where
 base:attributeBase o m X.env (eval o X.env)=eval o X.env
 few:((backTo cpos (starEach [e] X.env)).all (fun x=> !x.1)&&(backToKw cpos (keywordEach [] X.env)).all (fun x=>x.1.isSome)
  &&decide (([e]:List Expr).length + ([]:List Keyword).length + (if ([]:List Keyword).isEmpty then 0 else 1) < 30))=true
 line:(apos.endLine == cpos.line)=true
 trees:backTo cpos (starEach [e] X.env)=[(false,eval e X.env)]
structure M2 (X:Cx) (o:Expr) (m:Str) (apos:Pos) (e f:Expr) (cpos:Pos):Prop where
 base:attributeBase o m X.env (eval o X.env)=eval o X.env
 few:((backTo cpos (starEach [e,f] X.env)).all (fun x=> !x.1)&&(backToKw cpos (keywordEach [] X.env)).all (fun x=>x.1.isSome)
  &&decide (([e,f]:List Expr).length + ([]:List Keyword).length + (if ([]:List Keyword).isEmpty then 0 else 1) < 30))=true
 line:(apos.endLine == cpos.line)=true
 trees:backTo cpos (starEach [e,f] X.env)=[(false,eval e X.env),(false,eval f X.env)]
noncomputable def IsD (H:Hp) (a:Addr):Prop:=(∃ kvs,Rd H a (.dK kvs))∨∃ kvs,Rd H a (.dT kvs)
theorem OK {X:Cx} {pins:List (Addr×Obj)} {σ:St} {H:Hp} {s:Shared} {a:Addr} (I:Inv X pins σ H s) (d:IsD H a):
  s.TypeIs (.ref a) "dict"∧(∀ b,Value.ref a= .ref b→∃ ob,s.heap.get? b=some ob∧ob.dict=none)∧(a == sysModules)=false:=by
 rcases d with ⟨kvs,e⟩ | ⟨kvs,e⟩
 ·obtain ⟨_,hd,vs,_,dd⟩:=BV I.hok e
  refine ⟨dd.typeIs,fun b q=>?_,hd⟩
  cases q
  obtain ⟨ob,_,_,h1,h2,_⟩:=dd
  exact ⟨ob,h1,h2.2.1⟩
 ·obtain ⟨_,hd,xs,_,dd⟩:=BU I.hok e
  refine ⟨dd.typeIs,fun b q=>?_,hd⟩
  cases q
  obtain ⟨ob,_,_,h1,h2,_⟩:=dd
  exact ⟨ob,h1,h2.2.1⟩
section
variable {X:Cx} {pins:List (Addr×Obj)} {σ:St} {H:Hp} {s:Shared} {a:Addr} {y d:V} {u r:Value} {o:Option V} {A:Around} {E:Value→Shared→Prop}
theorem OT {Q:Value→Shared→Prop} (hu:A.units + 1 < cLine) (I:Inv X pins σ H s) (g:DGet H a y o) (ry:RelV y u) (rd:RelV d r) (h:∀ w' s',Inv X pins σ H s'→RelV (o.getD d) w'→Q w' s'):
  wpAny (model X.prog X.w) A (call (.builtin "dict.get") [.ref a,u,r]) Q E s:=by
 rcases g with ⟨kvs,k,e,ey,l⟩ | ⟨kvs,k,b,e,ey,eb,l⟩
 ·subst ey
  obtain ⟨z,hd,vs,rel,dd⟩:=BV I.hok e
  refine call_meetsIn PySem.F.slot_dict_get dd.typeIs PySem.F.entry_dict_get (PySem.F.args_dict_get_3 _ _ _) (meets_dict_get_default (bY X.prog X.w) a (BN ry) hd r) ⟨_,dd.mapOf,h _ _ (I.tok _) ?_⟩
  rw [l]
  exact (rel.val k).getD rd
 ·subst ey
  cases (show u=Value.ref b from ry)
  obtain ⟨z,hd,xs,rel,dd⟩:=BU I.hok e
  refine call_meetsIn PySem.F.slot_dict_get dd.typeIs PySem.F.entry_dict_get (PySem.F.args_dict_get_3 _ _ _) (meetsH_dict_get_default (tupleKind (bY X.prog X.w)) a b hd r) ⟨tupleKind_room_in1 hu,k,xs,wV I.hok eb,dd,h _ _ (I.tok _) ?_⟩
  rw [l]
  exact (rel.val k).getD rd
end
noncomputable def KI (td ty tx:TE):TE:=fun σ H Q=>td σ H fun x H1=>∃ a,x= .ref a∧IsD H1 a∧ty σ H1 fun y H2=>tx σ H2 fun z H3=>∃ o,DGet H3 a y o∧Q (o.getD z) H3
section
variable {X:Cx} {o e f:Expr} {apos cpos:Pos} {td ty tx:TE}
theorem JM (hu:X.A.units + 1 < cLine) (ho:PE X o td) (he:PE X e ty) (hf:PE X f tx) (m:M2 X o "get" apos e f cpos):PE X (.Call (.Attribute o "get" apos) [e,f] [] cpos) (KI td ty tx):=by
 intro pins s σ H Q I h
 refine wpAny_Call_method m.base m.few m.line PySem.F.plainAttrs_dict PySem.F.slot_dict_get PySem.F.type_dict_get (thn (ho pins s σ H _ I h) fun u s1 ⟨x,H1,I1,rx,a,ex,d,q1⟩=>?_)
 subst ex
 obtain rfl:u=Value.ref a:=rx
 obtain ⟨t1,t2,_⟩:=OK I1 d
 refine ⟨t1,t2,?_⟩
 rw [m.trees]
 refine Calls.callWith_builtin rfl (Calls.evalArgs_plain (Calls.spliced_cons (thn (he pins s1 σ H1 _ I1 q1) fun iv s2 ⟨y,H2,I2,ry,q2⟩=>
  Calls.spliced_cons (thn (hf pins s2 σ H2 _ I2 q2) fun fv s3 ⟨z,H3,I3,rz,ov,g,q3⟩=>Calls.spliced_nil ?_))))
 exact OT hu I3 g ry rz fun w' s4 I4 rw'=>⟨_,H3,I4,rw',q3⟩
end
end L2
set_option maxHeartbeats 4000000
namespace L2
open PySem PySem.Spec PyProof.Rows
section
variable {P0:Program} {w0:World} {A0:Around} {R0:Result→Shared→Prop} {t0:Shared}
theorem Ff {elt tg iter:Expr} {ifs:List Expr} {sc:Scope} {pos:Pos} {it acc:Value} {ce:Env} (J:Nat→Shared→Prop)
  (turn:∀ n s,J n s→wpAny (model P0 w0) A0 (pyNext it) (fun r s₁=>match r with
   | none=>R0 (.ok .next) s₁
   | some v=>wpAny (model P0 w0) A0 (letOwnedTupleGo tg it v) (fun _ s₂=>wpAny (model P0 w0) A0 (assign tg ce v) (fun _ s₃=>
     wpAny (model P0 w0) A0 (forIn ifs true fun c r=>if r=true then do let ok ← isTrue c ce (eval c ce);pure (ForInStep.yield ok) else pure (ForInStep.yield r)) (fun ok s₄=>
      if ok=true then wpAny (model P0 w0) A0 (eval elt ce) (fun x s₅=>
       wpAny (model P0 w0) A0 (call (.builtin "list.append") [acc,x]) (fun _ s₆=>∃ m,m < n∧J m s₆) (fun _ _=>False) s₅) (fun _ _=>False) s₄
      else ∃ m,m < n∧J m s₄) (fun _ _=>False) s₃) (fun _ _=>False) s₂) (fun _ _=>False) s₁) (fun _ _=>False) s)
  (n:Nat) (h:J n t0):
  codeAny (model P0 w0) A0 (.compLoop (.ListComp elt [⟨tg,iter,ifs,0⟩] sc pos) 0 it acc ce) R0 t0:=by
 have no:∀ {α:Type} {t:Sem α} {Q:α→Shared→Prop} {E:Value→Shared→Prop} {s:Shared},wpAny (model P0 w0) A0 t Q (fun _ _=>False) s→wpAny (model P0 w0) A0 t Q E s:=
  fun h=>wpAny_mono h (fun _ _ q=>q) fun _ _ z=>z.elim
 refine codeAny_loop rfl J (fun n s hJ=>?_) n h
 show wpAny _ A0 ((compTurn (.ListComp elt [⟨tg,iter,ifs,0⟩] sc pos) 0 it acc ce).onRaise (fun x=>do noteFrame x ce;theTreesLotGoes x)) _ _ s
 refine wpAny_noted ?_
 rw [compTurn_list]
 refine wpAny_bind (wpAny_standAt (wpAny_bind (thn (no (turn n s hJ)) fun r s₁ h₁=>?_)))
 cases r with
 | none=>exact wpAny_pure h₁
 | some v=>
   refine wpAny_bind (thn (no h₁) fun _ s₂ h₂=>?_)
   refine wpAny_bind (thn (no h₂) fun _ s₃ h₃=>wpAny_bind (thn (no h₃) fun ok s₄ h₄=>?_))
   cases ok with
   | false=>exact wpAny_pure ⟨rfl,h₄⟩
   | true=>
     rw [if_pos rfl] at h₄
     refine wpAny_bind (wpAny_bind (thn (no h₄) fun x s₅ h₅=>?_))
     refine wpAny_bind (thn (no h₅) fun _ s₆ h₆=>?_)
     exact wpAny_pure (wpAny_pure ⟨rfl,h₆⟩)
end
theorem qh (env:Env):∀ (l:List (Str×NameKind)) (cs:List (Str×Addr)),(∀ y∈l,y.2= .free→∃ c,env.cells.lookup y.1=some c)→
  ∃ r:List (Str×Addr),(forIn l cs (fun (x:Str×NameKind) (r:List (Str×Addr))=>if x.2 == NameKind.free then (do let c ← cellOf env x.1;pure (ForInStep.yield ((x.1,c)::r))) else pure (ForInStep.yield r)):Sem (List (Str×Addr)))=pure r∧
   (∀ p∈r,p∈cs∨env.cells.lookup p.1=some p.2)∧(∀ p∈cs,p∈r)∧(∀ y∈l,y.2= .free→∃ c,(y.1,c)∈r)
 | [],cs,_=>⟨cs,rfl,fun p hp=> .inl hp,fun p hp=>hp,fun y hy=>nomatch hy⟩
 | (x,k)::l,cs,h=>by
   by_cases hk:k= .free
   ·subst hk
    obtain ⟨c,hc⟩:=h (x,.free) List.mem_cons_self rfl
    obtain ⟨r,e,h1,h2,h3⟩:=qh env l ((x,c)::cs) fun y hy=>h y (List.mem_cons_of_mem _ hy)
    refine ⟨r,?_,fun p hp=>?_,fun p hp=>h2 p (List.mem_cons_of_mem _ hp),fun y hy hf=>?_⟩
    ·rw [List.forIn_cons]
     have e2:cellOf env x=pure c:=by unfold cellOf;rw [hc]
     simp only [beq_self_eq_true,if_true,e2,pure_bind]
     exact e
    ·rcases h1 p hp with q | q
     ·rcases List.mem_cons.mp q with z | z
      ·subst z;exact .inr hc
      ·exact .inl z
     ·exact .inr q
    ·rcases List.mem_cons.mp hy with z | z
     ·subst z;exact ⟨c,h2 _ List.mem_cons_self⟩
     ·exact h3 y z hf
   ·obtain ⟨r,e,h1,h2,h3⟩:=qh env l cs fun y hy=>h y (List.mem_cons_of_mem _ hy)
    refine ⟨r,?_,h1,h2,fun y hy hf=>?_⟩
    ·rw [List.forIn_cons]
     have hb:(k == NameKind.free)=false:=by cases k<;>first | rfl | exact absurd rfl hk
     simp only [hb,Bool.false_eq_true,if_false,pure_bind]
     exact e
    ·rcases List.mem_cons.mp hy with z | z
     ·subst z;exact absurd hf hk
     ·exact h3 y z hf
theorem xg (sc:Scope) (env:Env) (h:∀ y∈sc.names,y.2= .free→∃ c,env.cells.lookup y.1=some c):
  ∃ cl,closureFor sc env=pure cl∧(∀ p∈cl,env.cells.lookup p.1=some p.2)∧∀ y∈sc.names,y.2= .free→∃ c,(y.1,c)∈cl:=by
 obtain ⟨r,e,h1,h2,h3⟩:=qh env sc.names [] h
 refine ⟨r,?_,fun p hp=>(h1 p hp).resolve_left (fun z=>nomatch z),h3⟩
 unfold closureFor
 have:=e
 simp only [bind_pure] at *
 exact e
theorem yl {κ β:Type} [BEq κ] [LawfulBEq κ]:∀ {l:List (κ×β)} {x:κ} {c:β},(x,c)∈l→∃ c',l.lookup x=some c'
 | [],_,_,h=>nomatch h
 | (y,d)::l,x,c,h=>by
   by_cases e:x=y
   ·subst e;exact ⟨d,by simp [List.lookup_cons]⟩
   ·have hb:(x == y)=false:=beq_eq_false_iff_ne.mpr e
    rcases List.mem_cons.mp h with z | z
    ·exact absurd (congrArg Prod.fst z) e
    ·obtain ⟨c',q⟩:=yl z
     exact ⟨c',by rw [List.lookup_cons,hb];exact q⟩
theorem ny {env:Env}:∀ {names:List (Str×NameKind)} {x:Str} {k':NameKind},
  (names.map fun (n,k)=>if (k == NameKind.free&&env.scope.kind == .function&&env.kindOf n == some .cell) then (n,NameKind.cell) else (n,k)).lookup x=some k'→∃ k,(x,k)∈names∧(k'=k∨k= .free)
 | [],_,_,h=>by cases h
 | (y,k)::l,x,k',h=>by
   rw [List.map_cons,List.lookup_cons] at h
   by_cases e:x=y
   ·subst e
    by_cases hc:(k == NameKind.free&&env.scope.kind == .function&&env.kindOf x == some .cell)=true
    ·refine ⟨k,List.mem_cons_self,.inr ?_⟩
     rw [Bool.and_eq_true,Bool.and_eq_true] at hc
     exact eq_of_beq hc.1.1
    ·refine ⟨k,List.mem_cons_self,.inl ?_⟩
     simp only [if_neg hc,beq_self_eq_true] at h
     exact (Option.some.inj h).symm
   ·have hb:(x == y)=false:=beq_eq_false_iff_ne.mpr e
    have h':(l.map fun (n,k)=>if (k == NameKind.free&&env.scope.kind == .function&&env.kindOf n == some .cell) then (n,NameKind.cell) else (n,k)).lookup x=some k':=by
     by_cases hc:(k == NameKind.free&&env.scope.kind == .function&&env.kindOf y == some .cell)=true
     ·simp only [if_pos hc,hb] at h;exact h
     ·simp only [if_neg hc,hb] at h;exact h
    obtain ⟨q,hm,z⟩:=ny h'
    exact ⟨q,List.mem_cons_of_mem _ hm,z⟩
theorem qv {env:Env}:∀ {names:List (Str×NameKind)} {x:Str},names.lookup x=some .free→
  (names.map fun (n,k)=>if (k == NameKind.free&&env.scope.kind == .function&&env.kindOf n == some .cell) then (n,NameKind.cell) else (n,k)).lookup x=some .cell∨
  (names.map fun (n,k)=>if (k == NameKind.free&&env.scope.kind == .function&&env.kindOf n == some .cell) then (n,NameKind.cell) else (n,k)).lookup x=some .free
 | [],_,h=>by cases h
 | (y,k)::l,x,h=>by
   rw [List.lookup_cons] at h
   rw [List.map_cons,List.lookup_cons]
   by_cases e:x=y
   ·subst e
    simp only [beq_self_eq_true] at h
    cases h
    by_cases hc:(NameKind.free == NameKind.free&&env.scope.kind == .function&&env.kindOf x == some .cell)=true
    ·refine .inl ?_
     rw [if_pos hc]
     simp only [beq_self_eq_true]
    ·refine .inr ?_
     rw [if_neg hc]
     simp only [beq_self_eq_true]
   ·have hb:(x == y)=false:=beq_eq_false_iff_ne.mpr e
    simp only [hb] at h
    have q:=qv (env:=env) h
    by_cases hc:(k == NameKind.free&&env.scope.kind == .function&&env.kindOf y == some .cell)=true
    ·simp only [if_pos hc,hb];exact q
    ·simp only [if_neg hc,hb];exact q
structure ja (osc:Scope) (ON N:List Str) (n:Nat) (fx:List Nat) (sc:Scope):Prop where
 kind:sc.kind= .function
 noc:∀ y∈sc.names,y.2≠.cell
 own:∀ y∈sc.names,y.2= .local→sc.names.lookup y.1=some .local
 fre:∀ y∈sc.names,y.2= .free→osc.names.lookup y.1=some .cell∨osc.names.lookup y.1=some .free
 len:N.length=n + fx.length
 frn:∀ k,k < fx.length→∃ x j,N[n + k]? =some x∧fx[k]? =some j∧ON[j]? =some x∧sc.names.lookup x=some .free
noncomputable def Kb (ON:List Str) (sc:Scope):List Str→List Nat→Bool
 | [],[]=>true
 | x::xs,j::js=>decide (ON[j]? =some x)&&decide (sc.names.lookup x=some .free)&&Kb ON sc xs js
 | _,_=>false
theorem Aj {ON:List Str} {sc:Scope}:∀ {xs:List Str} {js:List Nat},Kb ON sc xs js=true→xs.length=js.length∧∀ k,k < js.length→∃ x j,xs[k]? =some x∧js[k]? =some j∧ON[j]? =some x∧sc.names.lookup x=some .free
 | [],[],_=>⟨rfl,fun k h=>absurd h (Nat.not_lt_zero k)⟩
 | [],_::_,h=>by cases h
 | _::_,[],h=>by cases h
 | x::xs,j::js,h=>by
   simp only [Kb,Bool.and_eq_true,decide_eq_true_eq] at h
   obtain ⟨l,q⟩:=Aj h.2
   refine ⟨congrArg Nat.succ l,fun k hk=>?_⟩
   cases k with
   | zero=>exact ⟨x,j,rfl,rfl,h.1.1,h.1.2⟩
   | succ k=>
     obtain ⟨x',j',a,b,c⟩:=q k (Nat.lt_of_succ_lt_succ hk)
     exact ⟨x',j',by simpa using a,by simpa using b,c⟩
noncomputable def C0 (osc:Scope) (ON N:List Str) (n:Nat) (fx:List Nat) (sc:Scope):Bool:=
 decide (sc.kind= .function)&&decide (∀ y∈sc.names,y.2≠.cell)&&decide (∀ y∈sc.names,y.2= .local→sc.names.lookup y.1=some .local)&&
 decide (∀ y∈sc.names,y.2= .free→osc.names.lookup y.1=some .cell∨osc.names.lookup y.1=some .free)&&decide (n≤N.length)&&Kb ON sc (N.drop n) fx
theorem ja.of {osc:Scope} {ON N:List Str} {n:Nat} {fx:List Nat} {sc:Scope} (h:C0 osc ON N n fx sc=true):ja osc ON N n fx sc:=by
 simp only [C0,Bool.and_eq_true,decide_eq_true_eq] at h
 obtain ⟨⟨⟨⟨⟨h1,h2⟩,h3⟩,h4⟩,h5⟩,h6⟩:=h
 obtain ⟨l,q⟩:=Aj h6
 refine ⟨h1,h2,h3,h4,?_,fun k hk=>?_⟩
 ·rw [List.length_drop] at l;omega
 ·obtain ⟨x,j,a,b⟩:=q k hk
  exact ⟨x,j,by rw [List.getElem?_drop] at a;exact a,b⟩
noncomputable def jG (X:Cx) (N:List Str) (sc:Scope) (cl:List (Str×Addr)) (C:Addr) (fp:List Addr) (s:Shared) (H:Hp):Cx where
 prog:=X.prog
 w:=X.w
 K:=X.K
 mg:=X.mg
 base:=X.base
 A:=X.A
 N:=N
 s₀:=s
 H₀:=H
 env:=compEnvC sc cl C X.env
 outer:=X.stack
 stack:=X.stack
 ex:=fp
 fn:=fun _=>false
 calm:=X.calm
 pn:=[]
 xe:=fun _ _=>False
noncomputable def er (n:Nat) (fx:List Nat) (σ:St):St:=List.replicate n none++fx.map fun j=>(σ[j]?).join
noncomputable def FH (n:Nat) (g:TG):Prop:=∀ v σ H (Q Q':St→Hp→Prop),(∀ σ' H',Q σ' H'→σ'.drop n=σ.drop n→σ'.length=σ.length→Q' σ' H')→g v σ H Q→g v σ H Q'
noncomputable def C7 (n:Nat) (g:TGs):Prop:=∀ vs σ H (Q Q':St→Hp→Prop),(∀ σ' H',Q σ' H'→σ'.drop n=σ.drop n→σ'.length=σ.length→Q' σ' H')→g vs σ H Q→g vs σ H Q'
theorem eM {n i:Nat} (h:i < n):FH n (BS i):=fun v σ H Q Q' k q=>k _ _ q (by rw [List.drop_set_of_lt h]) (by rw [List.length_set])
theorem BP {n:Nat}:C7 n gNil:=fun vs σ H Q Q' k ⟨e,q⟩=>⟨e,k _ _ q rfl rfl⟩
theorem kT {n:Nat} {t:TG} {u:TGs} (ht:FH n t) (hu:C7 n u):C7 n (ME t u):=fun vs σ H Q Q' k ⟨v,r,e,q⟩=>
 ⟨v,r,e,ht v σ H _ _ (fun σ1 H1 q1 e1 l1=>hu r σ1 H1 Q Q' (fun σ2 H2 q2 e2 l2=>k σ2 H2 q2 (e2.trans e1) (l2.trans l1)) q1) q⟩
theorem HE {K:PySem.W.Frag} {n m:Nat} {t:TGs} (h:C7 n t):FH n (gTup K m t):=fun v σ H Q Q' k ⟨a,xs,e,hs,hl,q⟩=>⟨a,xs,e,hs,hl,h xs σ H Q Q' k q⟩
noncomputable def PTs (X:Cx) (ifs:List Expr) (t:TT):Prop:=
 ∀ (pins:List (Addr×Obj)) (s:Shared) (σ:St) (H:Hp) (Q:Bool→Hp→Prop),Inv X pins σ H s→t σ H Q→
  wpAny (model X.prog X.w) X.A (forIn ifs true fun c r=>if r=true then do let ok ← isTrue c X.env (eval c X.env);pure (ForInStep.yield ok) else pure (ForInStep.yield r)) (TP X pins σ Q) X.xe s
noncomputable def tYes:TT:=fun _ H Q=>Q true H
theorem jg {X:Cx}:PTs X [] tYes:=fun _ _ _ H _ I h=>wpAny_tests_nil ⟨H,I,h⟩
theorem GL {X:Cx} {c:Expr} {t:TT} (h:PT X c t):PTs X [c] t:=fun pins s σ H Q I q=>wpAny_tests_one (h pins s σ H Q I q)
noncomputable def Je (n:Nat) (fx:List Nat) (wi:TI) (g:TG) (tc:TT) (te:TE):TE:=fun σ H Q=>wi σ H fun J H1=>∀ D,H1 D=none→
 ∃ W:Nat→Nat→List V→Hp→Prop,(∃ m,W 0 m [] (upd H1 D (.lst [])))∧∀ i m ys H2,W i m ys H2→(J.stop i H2∧Q (.ref D) H2)∨
   (J.go i H2∧∃ N:List V→Hp→Prop,(∀ ys' H',N ys' H'→∃ m',m' < m∧W (i + 1) m' ys' H')∧∀ x H3,J.yld i H2 x H3→g x (er n fx σ) H3 fun σ4 H4=>tc σ4 H4 fun b H5=>
    if b=true then te σ4 H5 fun v H6=>H6 D=some (.lst ys)∧ys.length < sizeLine∧N (ys++[v]) (upd H6 D (.lst (ys++[v]))) else N ys H5)
section
variable {X:Cx} {pins:List (Addr×Obj)} {σ:St} {H:Hp} {s:Shared}
theorem Fh {n:Nat} {fx:List Nat}:(er n fx σ).length=n + fx.length:=by unfold er;simp
theorem xc {n:Nat} {fx:List Nat} {i:Nat} {v:V} (e:(er n fx σ)[i]? =some (some v)):∃ k j,i=n + k∧fx[k]? =some j∧σ[j]? =some (some v):=by
 unfold er at e
 by_cases h:i < n
 ·rw [List.getElem?_append_left (by simpa using h),List.getElem?_replicate,if_pos h] at e
  cases e
 ·rw [List.getElem?_append_right (by simpa using h),List.length_replicate,List.getElem?_map] at e
  cases q:fx[i - n]? with
  | none=>rw [q] at e;cases e
  | some j=>
    rw [q] at e
    have e':(σ[j]?).join=some v:=Option.some.inj e
    refine ⟨i - n,j,by omega,q,?_⟩
    cases z:σ[j]? with
    | none=>rw [z] at e';cases e'
    | some o=>rw [z] at e';have:o=some v:=e';rw [this]
theorem Kp {osc:Scope} {ON N:List Str} {n:Nat} {fx:List Nat} {sc:Scope} {cl:List (Str×Addr)} {fp:List Addr} {h4:Heap} {tk:Nat}
  (ho:X.env.scope=osc) (hN:X.N=ON) (S:ja osc ON N n fx sc)
  (hcl1:∀ p∈cl,X.env.cells.lookup p.1=some p.2) (hcl2:∀ y∈sc.names,y.2= .free→∃ c,(y.1,c)∈cl)
  (I:Inv X pins σ H s) (hf:∀ b∈fp,FpOk X pins H b) (hfo:∀ b∈fp,b < s.heap.objs.size)
  (hns:∃ m,h4.Ns s.heap.objs.size m) (old:∀ b o,s.heap.get? b=some o→h4.get? b=some o):
  Inv (jG X N sc cl s.heap.objs.size fp s H) [] (er n fx σ) H {s with heap:=h4,toks:=tk}:=by
 have look:∀ {x:Str} {c:Addr},cl.lookup x=some c→X.env.cells.lookup x=some c:=fun {x c} e=>hcl1 (x,c) (PySem.mem_of_lookup e)
 have ok:(jG X N sc cl s.heap.objs.size fp s H).Ok:=by
  refine ⟨I.ok.mod,S.kind,I.ok.glob,I.ok.blt,Nat.le_refl _,fun x y c h1 h2=>I.ok.inj x y c (look h1) (look h2),fun x hx=>?_,fun x c z=>(by cases z),I.ok.hd,I.ok.frames,.inl rfl,fun b hb=>⟨Nat.ne_of_lt (hfo b hb),fun x c e=>(hf b hb).2.2.2.2.1 x c (look e)⟩,
   I.bs,Nat.le_trans I.ok.bsz I.sz,fun b o e hb=>?_,fun b hb z=>?_,I.stack,I.stkFree⟩
  ·have hx':∃ k',(k'=NameKind.cell∨k'=NameKind.free)∧(sc.names.map fun (n,k)=>if (k == NameKind.free&&X.env.scope.kind == .function&&X.env.kindOf n == some .cell) then (n,NameKind.cell) else (n,k)).lookup x=some k':=by
    rcases hx with hx | hx
    ·exact ⟨_,.inl rfl,hx⟩
    ·exact ⟨_,.inr rfl,hx⟩
   obtain ⟨k',hk,e⟩:=hx'
   obtain ⟨k,hm,z⟩:=ny e
   have kf:k= .free:=by
    rcases z with z | z
    ·subst z
     rcases hk with q | q
     ·exact absurd q (S.noc _ hm)
     ·exact q
    ·exact z
   subst kf
   obtain ⟨c,hc⟩:=hcl2 _ hm rfl
   exact yl hc
  ·rcases (hf b hb).2.2.2.1 with z | z
   ·exact I.ok.noex b o e z
   ·exact absurd (Nat.lt_of_lt_of_le (Heap.lt_size (I.ok.bs b o e).1) z) (Nat.lt_irrefl _)
  ·rcases List.mem_cons.mp (I.stkSub b z) with q | q
   ·exact (hf b hb).2.1 q
   ·exact (hf b hb).2.2.1 q
 obtain ⟨m,hns⟩:=hns
 refine ⟨ok,rfl,I.bare,Un.kept old,⟨m,hns,fun i x v e1 e2 e3=>?_⟩,fun x c e=>?_,I.hok.fresh (Nat.le_refl _),fun x c e=>I.freeC x c (look e),fun p hp=>absurd (show p∈([]:List (Addr×Obj)) from hp) (by simp),I.hok.kept old,?_⟩
 ·obtain ⟨k,j,rfl,hj,hv⟩:=xc e2
  obtain ⟨x',j',a1,a2,a3,a4⟩:=S.frn k (List.getElem?_eq_some_iff.mp hj).1
  have ex:x'=x:=Option.some.inj (a1.symm.trans e1)
  have ej:j'=j:=Option.some.inj (a2.symm.trans hj)
  subst ex;subst ej
  obtain ⟨m',_,hl⟩:=I.loc
  have hk:X.env.scope.names.lookup x'=some .cell∨X.env.scope.names.lookup x'=some .free:=by rw [ho];exact S.fre _ (PySem.mem_of_lookup a4) rfl
  have vis:Vis X.env.scope x':=by rcases hk with z | z;exact .inr (.inl z);exact .inr (.inr z)
  obtain ⟨u,r,q⟩:=hl j' x' v (by rw [hN];exact a3) hv vis
  rcases q with ⟨z,_⟩ | ⟨_,c,ec,ic⟩
  ·have z':X.env.scope.names.lookup x'=some .local:=z
   rcases hk with q | q<;>(rw [q] at z';cases z')
  ·refine ⟨u,r,.inr ⟨qv a4,c,?_,ic.keeps old⟩⟩
   obtain ⟨c0,hc0⟩:=hcl2 _ (PySem.mem_of_lookup a4) rfl
   obtain ⟨c1,hc1⟩:=yl hc0
   have:=look hc1
   rw [ec] at this
   cases this
   exact hc1
 ·obtain ⟨v,q⟩:=I.cell x c (look e)
  exact ⟨v,q.keeps old⟩
 ·show _=N.length
  rw [Fh,S.len]
theorem Aw {osc:Scope} {ON N:List Str} {n:Nat} {fx:List Nat} {sc:Scope} {cl:List (Str×Addr)} {elt tg iter:Expr} {ifs:List Expr} {pos:Pos} {wi:TI} {g:TG} {tc:TT} {te:TE} {Q:VK} {RR:Value→Addr→Result→Shared→Prop}
  (hcalm:X.calm=true) (ho:X.env.scope=osc) (hN:X.N=ON) (S:ja osc ON N n fx sc)
  (hcl1:∀ p∈cl,X.env.cells.lookup p.1=some p.2) (hcl2:∀ y∈sc.names,y.2= .free→∃ c,(y.1,c)∈cl)
  (hi:PI X tg iter wi) (gk:FH n g) (hb:∀ cl C fp s H,PG (jG X N sc cl C fp s H) tg g∧PTs (jG X N sc cl C fp s H) ifs tc∧PE (jG X N sc cl C fp s H) elt te)
  (I:Inv X pins σ H s) (h:Je n fx wi g tc te σ H Q)
  (hRR:∀ D C H' s',Inv X pins σ H' s'→(∃ m,s'.heap.Ns C m)→FpOk X pins H' C→Q (.ref D) H'→RR (.ref D) C (.ok .next) s'):
  wpAny (model X.prog X.w) X.A (eval iter X.env) (fun x s₁=>wpAny (model X.prog X.w) X.A (pyIter x) (fun it s₂=>wpAny (model X.prog X.w) X.A (newList []) (fun acc s₃=>
   wpAny (model X.prog X.w) X.A (newFunctionEnv sc X.env.globals cl [] X.env.qual none .none (some X.env)) (fun cenv s₄=>
    codeAny (model X.prog X.w) X.A (.compStart (.ListComp elt [⟨tg,iter,ifs,0⟩] sc pos) 0 it acc {cenv with scope:=relabel sc X.env}) (RR acc cenv.locals) s₄) X.xe s₃) X.xe s₂) X.xe s₁) X.xe s:=by
 refine thn (hi pins s σ H _ I h) fun v s1 h1=>thn h1 fun itv s2 h2=>?_
 obtain ⟨it,fp,tn,J,H2,e2,I2,T,st2,f2,hW⟩:=h2
 subst e2
 obtain ⟨W,⟨m0,w0⟩,hturn⟩:=hW s2.heap.objs.size I2.fresh
 refine wpAny_newObj_type ?_
 have I3:Inv X pins σ (upd H2 s2.heap.objs.size (.lst [])) {s2 with heap:=s2.heap.push {cls:= .type "list",data:= .seq ([]:List Value).toArray}}:=I2.lnew (t':=s2.toks) (its:=[]) .nil (Nat.zero_le _)
 have f3:∀ b∈fp,FpOk X pins (upd H2 s2.heap.objs.size (.lst [])) b∧b < s2.heap.objs.size:=fun b hb=>by
  obtain ⟨o,e,_⟩:=T.obj _ _ st2 b hb
  have l:=Heap.lt_size e
  obtain ⟨a1,a2⟩:=f2 b hb
  exact ⟨⟨by rw [aL (Nat.ne_of_lt l)];exact a1,a2⟩,l⟩
 have sz:({s2 with heap:=s2.heap.push {cls:= .type "list",data:= .seq ([]:List Value).toArray}}:Shared).heap.objs.size=s2.heap.objs.size + 1:=Heap.size_push ..
 generalize hs3:({s2 with heap:=s2.heap.push {cls:= .type "list",data:= .seq ([]:List Value).toArray}}:Shared)=s3 at I3 sz ⊢
 generalize hH3:upd H2 s2.heap.objs.size (.lst [])=H3 at I3 f3 w0
 have old3:∀ b o,s2.heap.get? b=some o→s3.heap.get? b=some o:=fun b o e=>by rw [← hs3];exact Heap.get?_push_of_some _ e
 refine wpAny_newFunctionEnv (fun y hy=>S.noc y hy) (fun y hy=>nomatch hy) (fun h4 hns hsb=>?_) S.kind
 have old4:∀ b o,s3.heap.get? b=some o→h4.get? b=some o:=fun b o e=>hsb.extBut b o (Nat.ne_of_lt (Heap.lt_size e)) (Heap.get?_push_of_some _ e)
 have I4:=Kp (tk:=s3.toks + ([]:List (Str×Value)).length) ho hN S hcl1 hcl2 I3 (fun b hb=>(f3 b hb).1) (fun b hb=>by rw [sz];exact Nat.lt_succ_of_lt (f3 b hb).2) ⟨_,hns⟩ old4
 have hb':=hb cl s3.heap.objs.size fp s3 H3
 generalize hY:jG X N sc cl s3.heap.objs.size fp s3 H3=Y at I4 hb'
 have stat:∀ {H':Hp},(∀ b∈fp,H' b=none)→∀ b∈fp,FpOk Y [] H' b:=fun {H'} hn b hb=>by
  subst hY
  obtain ⟨⟨a1,a2,a3,a4,a5,a6⟩,l⟩:=f3 b hb
  refine ⟨hn b hb,Nat.ne_of_lt (show b < s3.heap.objs.size by rw [sz];exact Nat.lt_succ_of_lt l),fun z=>?_,.inl hb,fun x c e=>a5 x c (hcl1 (x,c) (PySem.mem_of_lookup e)),fun p hp=>absurd (show p∈([]:List (Addr×Obj)) from hp) (by simp)⟩
  rcases List.mem_cons.mp (I3.stkSub b z) with q | q
  ·exact a2 q
  ·exact a3 q
 have fin:∀ {σ6:St} {H6:Hp} {s6:Shared},Inv Y [] σ6 H6 s6→Q (.ref s2.heap.objs.size) H6→RR (.ref s2.heap.objs.size) s3.heap.objs.size (.ok .next) s6:=fun {σ6 H6 s6} I6 q=>by
  subst hY
  refine hRR _ _ H6 s6 ?_ (let ⟨m,hm,_⟩:=I6.loc;⟨m,hm⟩) (I3.fpOk (Nat.le_refl _) I6.free) q
  obtain ⟨hh,gg,dd,tt,os'⟩:=s6
  obtain rfl:os'=s3.os:=I6.os
  exact I3.call (h':=hh) (g':=gg) (d':=dd) (t':=tt) (ch:=fp) I6.base I6.hok I6.bare fun b hb=>by
   obtain ⟨⟨a1,a2,a3,a4,a5,a6⟩,l⟩:=f3 b hb
   exact ⟨a4,a2,a5,a6⟩
 have pY:Y.prog=X.prog:=by subst hY;rfl
 have wY:Y.w=X.w:=by subst hY;rfl
 have kY:Y.K=X.K:=by subst hY;rfl
 have aY:Y.A=X.A:=by subst hY;rfl
 have cY:Y.calm=true:=by subst hY;exact hcalm
 have eY:Y.env=compEnvC sc cl s3.heap.objs.size X.env:=by subst hY;rfl
 have xY:Y.xe=fun _ _=>False:=by subst hY;rfl
 have T':Turn Y.prog Y.w Y.K tg J fp it tn:=by rw [pY,wY,kY];exact T
 have tn4:tn 0 h4:=T.keep _ _ _ st2 fun b hb o e=>old4 b o (old3 b o e)
 have loop:codeAny (model X.prog X.w) X.A (.compLoop (.ListComp elt [⟨tg,iter,ifs,0⟩] sc pos) 0 (.ref it) (.ref s2.heap.objs.size) (compEnvC sc cl s3.heap.objs.size X.env)) (RR (.ref s2.heap.objs.size) s3.heap.objs.size)
   {s3 with heap:=h4,toks:=s3.toks + ([]:List (Str×Value)).length}:=by
  rw [← pY,← wY,← aY,← eY]
  refine Ff (fun k s'=>∃ i ys σ' H',Inv Y [] σ' H' s'∧σ'.drop n=(er n fx σ).drop n∧σ'.length=(er n fx σ).length∧tn i s'.heap∧(∀ b∈fp,H' b=none)∧W i k ys H') ?_ m0 ⟨0,[],_,H3,I4,rfl,rfl,tn4,fun b hb=>(f3 b hb).1.1,w0⟩
  rintro k s5 ⟨i,ys,σ5,H5,I5,ed,el,st5,fr5,w5⟩
  have I5:Inv Y [] (er n fx σ) H5 s5:=I5.weak el.symm fun j v e=>by
   obtain ⟨k',j',rfl,_,_⟩:=xc e
   have q:=congrArg (fun l=>l[k']?) ed
   simp only [List.getElem?_drop] at q
   rw [q];exact e
  rcases hturn i k ys H5 w5 with ⟨stop,q⟩ | ⟨go,N',hN',step⟩
  ·refine wpAny_mono (T'.done Y rfl rfl rfl cY i [] s5 _ H5 (fun _ _=>False) I5 (stat fr5) st5 stop) (fun r s6 ⟨hr,I6⟩=>?_) fun _ _ z=>z
   subst hr
   exact fin I6 q
  ·rw [← xY]
   refine thn (T'.item Y rfl rfl rfl cY i [] s5 _ H5 Y.xe I5 (stat fr5) st5 go) fun r s6 ⟨u,hr,h6⟩=>?_
   subst hr
   show wpAny _ _ _ _ _ _
   refine thn h6 fun _ s7 ⟨x,H7,I7,r7,y7,st7,fr7⟩=>?_
   have I7':=I7.pinned (stat fr7) (T.obj _ _ st7)
   refine thn (hb'.1 _ s7 _ H7 x u _ I7' r7 (gk _ _ _ _ _ (fun σ' H' q e l=>(⟨q,e,l⟩:_∧_∧_)) (step x H7 y7))) fun _ s8 ⟨σ8,H8,I8,q8,ed8,el8⟩=>?_
   refine thn (hb'.2.1 _ s8 σ8 H8 _ I8 q8) fun ok s9 ⟨H9,I9,q9⟩=>?_
   have again:∀ {H10:Hp} {s10:Shared} {zs:List V},Inv Y ([]++zj fp s7.heap) σ8 H10 s10→N' zs H10→
     ∃ m,m < k∧∃ i ys σ' H',Inv Y [] σ' H' s10∧σ'.drop n=(er n fx σ).drop n∧σ'.length=(er n fx σ).length∧tn i s10.heap∧(∀ b∈fp,H' b=none)∧W i m ys H':=fun {H10 s10 zs} I10 n10=>by
    obtain ⟨m',hm,w10⟩:=hN' _ _ n10
    refine ⟨m',hm,i + 1,zs,σ8,H10,I10.unpinned,ed8,el8,T.keep _ _ _ st7 fun b hb o e=>(I10.pin (b,o) (List.mem_append_right _ (List.mem_append_right _ (kS hb e)))).1,fun b hb=>?_,w10⟩
    obtain ⟨o,e,d⟩:=T.obj _ _ st7 b hb
    exact (I10.pin (b,o) (List.mem_append_right _ (List.mem_append_right _ (kS hb e)))).2.1
   cases ok with
   | false=>exact again I9 q9
   | true=>
     rw [if_pos rfl]
     refine thn (hb'.2.2 _ s9 σ8 H9 _ I9 q9) fun y s10 ⟨v',H10,I10,r10,hD10,hl10,n10⟩=>?_
     refine thn (cL (X:=Y) _ s10 σ8 H10 (.ref s2.heap.objs.size) [v'] (.ref s2.heap.objs.size) [y] (fun _ H'=>H'=upd H10 s2.heap.objs.size (.lst (ys++[v']))) I10 rfl (.cons r10 .nil) ⟨_,ys,v',rfl,rfl,hD10,hl10,rfl⟩) fun _ s11 ⟨_,H11,I11,_,e11⟩=>?_
     subst e11
     exact again I11 n10
 exact codeAny_compStart_list loop (T.self X.A 0 _ _ _ tn4 loop)
theorem tG {osc:Scope} {ON N:List Str} {n:Nat} {fx:List Nat} {sc:Scope} {elt tg iter:Expr} {ifs:List Expr} {pos:Pos} {wi:TI} {g:TG} {tc:TT} {te:TE}
  (hcalm:X.calm=true) (ho:X.env.scope=osc) (hN:X.N=ON) (S:C0 osc ON N n fx sc=true) (hi:PI X tg iter wi) (gk:FH n g)
  (hb:∀ cl C fp s H,PG (jG X N sc cl C fp s H) tg g∧PTs (jG X N sc cl C fp s H) ifs tc∧PE (jG X N sc cl C fp s H) elt te)
  (hs:∀ x,foldedSetIterable iter X.env x=pure x:=by intro _;rfl):PE X (.ListComp elt [⟨tg,iter,ifs,0⟩] sc pos) (Je n fx wi g tc te):=by
 intro pins s σ H Q I h
 have S:=ja.of S
 obtain ⟨cl,hcl,hcl1,hcl2⟩:=xg sc X.env fun y hy hf=>I.ok.has y.1 (by show X.env.scope.names.lookup y.1=some .cell∨X.env.scope.names.lookup y.1=some .free;rw [ho];exact S.fre y hy hf)
 rw [eval_ListComp]
 refine wpAny_comprehension_free (use:=none) rfl hs hcl S.kind S.own (Aw (RR:=fun acc C=>compPost (model X.prog X.w) X.A X.xe none (EP X pins σ Q) acc C) hcalm ho hN S hcl1 hcl2 hi gk hb I h ?_)
 intro D C H' s' I' hm hf q
 obtain ⟨m,hm⟩:=hm
 obtain ⟨f0,f1,f2,f3,f4,f5⟩:=hf
 exact ⟨m,hm,fun h' hsb=>⟨.ref D,H',I'.turned (t':=s'.toks) (fun b o hb e=>(hsb.2 b hb).trans e) f0 f1 f3 f4 f5,rfl,q⟩⟩
theorem o8 {i:Nat} {x:Str} {px:Pos} {spos:Pos} {osc:Scope} {ON N:List Str} {n:Nat} {fx:List Nat} {sc:Scope} {elt tg iter:Expr} {ifs:List Expr} {pos:Pos} {wi:TI} {g:TG} {tc:TT} {te:TE}
  (hnd:X.N.Nodup) (hx:X.N[i]? =some x) (hl:X.env.scope.names.lookup x=some .local) (hsw:swapsWith (.ListComp elt [⟨tg,iter,ifs,0⟩] sc pos) (some (.Name x px)) spos.line X.env=pure true)
  (hcalm:X.calm=true) (ho:X.env.scope=osc) (hN:X.N=ON) (S:C0 osc ON N n fx sc=true) (hi:PI X tg iter wi) (gk:FH n g)
  (hb:∀ cl C fp s H,PG (jG X N sc cl C fp s H) tg g∧PTs (jG X N sc cl C fp s H) ifs tc∧PE (jG X N sc cl C fp s H) elt te)
  (hs:∀ x,foldedSetIterable iter X.env x=pure x:=by intro _;rfl):PS X (.Assign [.Name x px] (.ListComp elt [⟨tg,iter,ifs,0⟩] sc pos) spos) (tAsg (Je n fx wi g tc te) (BS i)):=by
 intro pins s σ H D I h
 have S:=ja.of S
 obtain ⟨cl,hcl,hcl1,hcl2⟩:=xg sc X.env fun y hy hf=>I.ok.has y.1 (by show X.env.scope.names.lookup y.1=some .cell∨X.env.scope.names.lookup y.1=some .free;rw [ho];exact S.fre y hy hf)
 rw [exec_Assign_Name_used _ _ _ _ hsw]
 refine wpAny_bind (wpAny_standAt (wpAny_bind ?_))
 show wpAny _ X.A (do let _ ← comprehension (.ListComp elt [⟨tg,iter,ifs,0⟩] sc pos) sc X.env _ (newList []) false (eval iter X.env) (some (assign (.Name x px) X.env))) _ _ s
 refine wpAny_bind (thn (wpAny_comprehension_free (use:=some (assign (.Name x px) X.env)) (Q:=fun _ s'=>SP X pins D .next s') rfl hs hcl S.kind S.own
  (Aw (RR:=fun acc C=>compPost (model X.prog X.w) X.A X.xe (some (assign (.Name x px) X.env)) (fun _ s'=>SP X pins D .next s') acc C) hcalm ho hN S hcl1 hcl2 hi gk hb I h ?_)) fun _ s' q=>wpAny_pure (wpAny_pure q))
 intro D' C H' s' I' hm hf q
 obtain ⟨m,hm⟩:=hm
 obtain ⟨f0,f1,f2,f3,f4,f5⟩:=hf
 show wpAny _ X.A (assign (.Name x px) X.env (.ref D')) _ _ _
 refine wpAny_assign_Name (za I' hnd hx (.inl hl) (v:= .ref D') rfl (fun s2 I2 hch=>?_) (.inr hl))
 obtain ⟨a,hsb,ha⟩:=hch
 have hCa:C≠a:=by
  rcases ha with z | z
  ·rw [z];exact f1
  ·exact fun e=>f4 _ _ z e.symm
 exact ⟨m,hm.sameBut hsb hCa,fun h' hsb'=>⟨_,H',I2.turned (t':=s2.toks) (fun b o hb e=>(hsb'.2 b hb).trans e) f0 f1 f3 f4 f5,q⟩⟩
end
section
variable {K:PySem.W.Frag} {n:Nat} {fx:List Nat} {g:TG} {tc:TT} {te:TE} {σ:St} {H1:Hp} {D:Addr} {Q:Hp→Prop}
theorem kX {lo:Int} {k:Nat} (Pv:Nat→List V→Hp→Prop) (h0:Pv 0 [] (upd H1 D (.lst [])))
  (hs:∀ i ys H,i < k→Pv i ys H→g (.int (lo + i)) (er n fx σ) H fun σ4 H4=>tc σ4 H4 fun b H5=>if b=true then te σ4 H5 fun v H6=>H6 D=some (.lst ys)∧ys.length < sizeLine∧Pv (i + 1) (ys++[v]) (upd H6 D (.lst (ys++[v]))) else Pv (i + 1) ys H5)
  (hd:∀ ys H,Pv k ys H→Q H):
  ∃ W:Nat→Nat→List V→Hp→Prop,(∃ m,W 0 m [] (upd H1 D (.lst [])))∧∀ i m ys H2,W i m ys H2→((Itr lo k).stop i H2∧Q H2)∨
    ((Itr lo k).go i H2∧∃ N:List V→Hp→Prop,(∀ ys' H',N ys' H'→∃ m',m' < m∧W (i + 1) m' ys' H')∧∀ x H3,(Itr lo k).yld i H2 x H3→g x (er n fx σ) H3 fun σ4 H4=>tc σ4 H4 fun b H5=>
      if b=true then te σ4 H5 fun v H6=>H6 D=some (.lst ys)∧ys.length < sizeLine∧N (ys++[v]) (upd H6 D (.lst (ys++[v]))) else N ys H5):=by
 refine ⟨fun i m ys H=>m=k - i∧i≤k∧Pv i ys H,⟨k,by simp,Nat.zero_le _,h0⟩,?_⟩
 rintro i m ys H ⟨rfl,hi,p⟩
 by_cases hlt:i < k
 ·refine .inr ⟨hlt,Pv (i + 1),fun ys' H' p'=>⟨k - (i + 1),by omega,rfl,hlt,p'⟩,fun x H' y=>?_⟩
  obtain ⟨e,y⟩:=y
  subst e;subst y
  exact hs i ys _ hlt p
 ·have e:i=k:=by omega
  subst e
  exact .inl ⟨Nat.le_refl _,hd ys H p⟩
theorem oj {a:Addr} {xs:List V} (Pv:Nat→List V→Hp→Prop) (h0:Pv 0 [] (upd H1 D (.lst []))) (hl:∀ i ys H,i≤xs.length→Pv i ys H→SqL K H a xs)
  (hs:∀ i x ys H,xs[i]? =some x→Pv i ys H→g x (er n fx σ) H fun σ4 H4=>tc σ4 H4 fun b H5=>if b=true then te σ4 H5 fun v H6=>H6 D=some (.lst ys)∧ys.length < sizeLine∧Pv (i + 1) (ys++[v]) (upd H6 D (.lst (ys++[v]))) else Pv (i + 1) ys H5)
  (hd:∀ ys H,Pv xs.length ys H→Q H):
  ∃ W:Nat→Nat→List V→Hp→Prop,(∃ m,W 0 m [] (upd H1 D (.lst [])))∧∀ i m ys H2,W i m ys H2→((Itl K a).stop i H2∧Q H2)∨
    ((Itl K a).go i H2∧∃ N:List V→Hp→Prop,(∀ ys' H',N ys' H'→∃ m',m' < m∧W (i + 1) m' ys' H')∧∀ x H3,(Itl K a).yld i H2 x H3→g x (er n fx σ) H3 fun σ4 H4=>tc σ4 H4 fun b H5=>
      if b=true then te σ4 H5 fun v H6=>H6 D=some (.lst ys)∧ys.length < sizeLine∧N (ys++[v]) (upd H6 D (.lst (ys++[v]))) else N ys H5):=by
 refine ⟨fun i m ys H=>m=xs.length - i∧i≤xs.length∧Pv i ys H,⟨xs.length,by simp,Nat.zero_le _,h0⟩,?_⟩
 rintro i m ys H ⟨rfl,hi,p⟩
 have q:=hl i ys H hi p
 by_cases hlt:i < xs.length
 ·refine .inr ⟨⟨xs,xs[i],q,by simp [hlt]⟩,Pv (i + 1),fun ys' H' p'=>⟨xs.length - (i + 1),by omega,rfl,hlt,p'⟩,fun x H' y=>?_⟩
  obtain ⟨e,y⟩:=y
  subst e
  exact hs i x ys _ (y xs q) p
 ·have e:i=xs.length:=by omega
  subst e
  exact .inl ⟨⟨xs,q,Nat.le_refl _⟩,hd ys H p⟩
end
noncomputable def gZ (K:PySem.W.Frag) (H:Hp) (x:V) (k:String):Prop:=match x with
 | .non=>k="NoneType"
 | .bl _=>k="bool"
 | .int _=>k="int"
 | .str _=>k="str"
 | .ref p=>(k="list"∧∃ xs,SqL K H p xs)∨(k="tuple"∧∃ xs,SqT K H p xs)∨(k="dict"∧∃ kvs,Rd H p (.dK kvs))
 | _=>False
noncomputable def subB (k T:String):Bool:=k == T||(k == "bool"&&T == "int")
noncomputable def rIsi (K:PySem.W.Frag):List V→Hp→VK→Prop:=fun xs H Q=>∃ x k T,xs=[x,.ty T]∧gZ K H x k∧T∈["int","bool","str","list","tuple","dict"]∧Q (.bl (subB k T)) H
section
variable {X:Cx}
theorem Kr:sM X (.builtin "isinstance") (rIsi X.K):=by
 intro pins s σ H xs us Q I r h
 obtain ⟨x,k,T,rfl,hk,hT,q⟩:=h
 obtain ⟨u,v,rfl,rx,rt⟩:=Pi r
 cases rt
 have f0:∀ b,b=subB k T→EP X pins σ Q (.bool b) s:=fun b e=>⟨.bl b,H,I,rfl,by rw [e];exact q⟩
 have f1:∀ b,b=subB k T→EP X pins σ Q (.bool b) {s with toks:=s.toks + 1}:=fun b e=>⟨.bl b,H,I.tok _,rfl,by rw [e];exact q⟩
 simp only [List.mem_cons,List.not_mem_nil,or_false] at hT
 cases x with
 | non=>
   cases rx;cases hk
   rcases hT with rfl | rfl | rfl | rfl | rfl | rfl
   ·exact IsiPair.NoneType_int (f1 _ (by decide))
   ·exact IsiPair.NoneType_bool (f1 _ (by decide))
   ·exact IsiPair.NoneType_str (f1 _ (by decide))
   ·exact IsiPair.NoneType_list (f1 _ (by decide))
   ·exact IsiPair.NoneType_tuple (f1 _ (by decide))
   ·exact IsiPair.NoneType_dict (f1 _ (by decide))
 | bl b=>
   cases rx;cases hk
   rcases hT with rfl | rfl | rfl | rfl | rfl | rfl
   ·exact IsiPair.bool_int (f0 _ (by decide))
   ·exact IsiPair.bool_bool (f0 _ (by decide))
   ·exact IsiPair.bool_str (f1 _ (by decide))
   ·exact IsiPair.bool_list (f1 _ (by decide))
   ·exact IsiPair.bool_tuple (f1 _ (by decide))
   ·exact IsiPair.bool_dict (f1 _ (by decide))
 | int i=>
   obtain ⟨t,rfl⟩:=rx;cases hk
   rcases hT with rfl | rfl | rfl | rfl | rfl | rfl
   ·exact IsiPair.int_int (f0 _ (by decide))
   ·exact IsiPair.int_bool (f1 _ (by decide))
   ·exact IsiPair.int_str (f1 _ (by decide))
   ·exact IsiPair.int_list (f1 _ (by decide))
   ·exact IsiPair.int_tuple (f1 _ (by decide))
   ·exact IsiPair.int_dict (f1 _ (by decide))
 | str z=>
   obtain ⟨t,rfl⟩:=rx;cases hk
   rcases hT with rfl | rfl | rfl | rfl | rfl | rfl
   ·exact IsiPair.str_int (f1 _ (by decide))
   ·exact IsiPair.str_bool (f1 _ (by decide))
   ·exact IsiPair.str_str (f0 _ (by decide))
   ·exact IsiPair.str_list (f1 _ (by decide))
   ·exact IsiPair.str_tuple (f1 _ (by decide))
   ·exact IsiPair.str_dict (f1 _ (by decide))
 | ref p=>
   cases rx
   rcases hk with ⟨rfl,xs,hq⟩ | ⟨rfl,xs,hq⟩ | ⟨rfl,kvs,hq⟩
   ·obtain ⟨its,_,pl,_⟩:=I.list hq
    obtain ⟨o,ho,hc,_⟩:=pl.isList
    rcases hT with rfl | rfl | rfl | rfl | rfl | rfl
    ·exact IsiPair.list_int ho hc (f1 _ (by decide))
    ·exact IsiPair.list_bool ho hc (f1 _ (by decide))
    ·exact IsiPair.list_str ho hc (f1 _ (by decide))
    ·exact IsiPair.list_list ho hc (f0 _ (by decide))
    ·exact IsiPair.list_tuple ho hc (f1 _ (by decide))
    ·exact IsiPair.list_dict ho hc (f1 _ (by decide))
   ·obtain ⟨its,_,pl,_⟩:=I.tuple hq
    obtain ⟨o,ho,hc,_⟩:=pl
    rcases hT with rfl | rfl | rfl | rfl | rfl | rfl
    ·exact IsiPair.tuple_int ho hc (f1 _ (by decide))
    ·exact IsiPair.tuple_bool ho hc (f1 _ (by decide))
    ·exact IsiPair.tuple_str ho hc (f1 _ (by decide))
    ·exact IsiPair.tuple_list ho hc (f1 _ (by decide))
    ·exact IsiPair.tuple_tuple ho hc (f0 _ (by decide))
    ·exact IsiPair.tuple_dict ho hc (f1 _ (by decide))
   ·obtain ⟨_,_,_,_,o,_,_,ho,ex,_⟩:=hq.ok I.hok
    have hc:o.cls= .type "dict":=ex.1
    rcases hT with rfl | rfl | rfl | rfl | rfl | rfl
    ·exact IsiPair.dict_int ho hc (f1 _ (by decide))
    ·exact IsiPair.dict_bool ho hc (f1 _ (by decide))
    ·exact IsiPair.dict_str ho hc (f1 _ (by decide))
    ·exact IsiPair.dict_list ho hc (f1 _ (by decide))
    ·exact IsiPair.dict_tuple ho hc (f1 _ (by decide))
    ·exact IsiPair.dict_dict ho hc (f0 _ (by decide))
 | _=>exact False.elim hk
noncomputable def Ob:V→List V→Hp→VK→Prop:=fun x xs H Q=>∃ i,x= .int i∧xs=[]∧Q (.int (Builtin.Int.intBits i:Nat)) H
theorem kb:MtR X "int.bit_length" Ob:=by
 intro pins s σ H x xs v us Q I rx rs h
 obtain ⟨i,rfl,rfl,q⟩:=h
 obtain ⟨t,rfl⟩:=rx
 cases rs
 exact call_int_bit_length ⟨.int _,H,I.tok _,⟨_,rfl⟩,q⟩
noncomputable def eqVs (xs ys:List V):Bool:=xs.length == ys.length&&(List.range xs.length).all fun j=>eqV (xs.getD j .non) (ys.getD j .non)
noncomputable def rEqL (K:PySem.W.Frag) (neg:Bool):R2:=fun x y H Q=>∃ a b xs ys,x= .ref a∧y= .ref b∧SqL K H a xs∧SqL K H b ys∧xs.all vV=true∧ys.all vV=true∧Q (.bl (if neg then !eqVs xs ys else eqVs xs ys)) H
theorem F6 {xs:List V} {us:List Value} (r:Vals xs us) {j:Nat} (h:j < us.toArray.size):RelV (xs.getD j .non) (us.toArray[j]):=by
 have hl:=r.length
 have h':j < us.length:=by simpa using h
 obtain ⟨u,e,ru⟩:=r.get (i:=j) (x:=xs.getD j .non) (by rw [List.getD_eq_getElem?_getD,List.getElem?_eq_getElem (by omega)];rfl)
 have e2:us.toArray[j]=u:=by
  rw [List.getElem?_eq_getElem h'] at e
  have:=Option.some.inj e
  simpa using this
 rw [e2];exact ru
theorem HR {xs:List V} (f:xs.all vV=true) (j:Nat):vV (xs.getD j .non)=true:=by
 rw [List.getD_eq_getElem?_getD]
 cases e:xs[j]? with
 | none=>rfl
 | some x=>exact List.all_eq_true.mp f x (List.mem_of_getElem? e)
theorem JC {pins:List (Addr×Obj)} {σ:St} {H:Hp} {s:Shared} {a b:Addr} {xs ys:List V} {A:Around} (hu:A.units < cLine) (I:Inv X pins σ H s) (ha:SqL X.K H a xs) (hb:SqL X.K H b ys) (fx:xs.all vV=true) (fy:ys.all vV=true):
  SeqAt.RcAt A s (.ref a) (.ref b) (eqVs xs ys)∧SeqAt.RcNeAt A s (.ref a) (.ref b) (!eqVs xs ys):=by
 obtain ⟨its,r,pl,_⟩:=I.list ha
 obtain ⟨jts,r',pl',_⟩:=I.list hb
 have l1:=r.length
 have l2:=r'.length
 by_cases hl:xs.length=ys.length
 ·have e:eqVs xs ys=(List.range its.toArray.size).all fun j=>eqV (xs.getD j .non) (ys.getD j .non):=by
   unfold eqVs
   rw [hl,beq_self_eq_true,Bool.true_and,List.size_toArray,← l1,hl]
  rw [e]
  have hz:its.toArray.size=jts.toArray.size:=by simp;omega
  have he:∀ j (h1:j < its.toArray.size) (h2:j < jts.toArray.size),SeqAt.EqAt A.in1 s its.toArray[j] jts.toArray[j] (eqV (xs.getD j .non) (ys.getD j .non)):=fun j h1 h2=>
   OR (F6 r h1) (F6 r' h2) (HR fx j) (HR fy j)
  exact ⟨SeqAt.RcAt.lists pl.isList pl'.isList hz hu he,SeqAt.RcNeAt.lists pl.isList pl'.isList hz hu he⟩
 ·have e:eqVs xs ys=false:=by
   unfold eqVs
   rw [beq_eq_false_iff_ne.mpr hl,Bool.false_and]
  rw [e]
  have hz:(its.toArray.size != jts.toArray.size)=true:=by simp;omega
  exact ⟨SeqAt.RcAt.lists_lengths pl.isList pl'.isList hz hu,SeqAt.RcNeAt.lists_lengths pl.isList pl'.isList hz hu⟩
theorem Ou (hu:X.A.units < cLine):OpR X (compareOp .NotEq) (rEqL X.K true):=by
 intro pins s σ H x y v u Q I rx ry h
 obtain ⟨a,b,xs,ys,rfl,rfl,ha,hb,fx,fy,q⟩:=h
 cases rx;cases ry
 exact (JC hu I ha hb fx fy).2 X.prog X.w X.xe _ ⟨.bl _,H,I,rfl,q⟩
end
theorem bS (a b:Nat):Builtin.bitAnd (a:Int) (b:Int)=((a&&&b:Nat):Int):=by
 unfold Builtin.bitAnd
 rw [decide_eq_true (Int.natCast_nonneg a),decide_eq_true (Int.natCast_nonneg b)]
 simp
section
variable {X:Cx} {K:PySem.W.Frag}
theorem fQ (h:X.K=K):IxR X (rIxL K):=by subst h;exact Mx
theorem ax (h:X.K=K):IxR X (rIxT K):=by subst h;exact OJ
theorem xB (h:X.K=K):SlR X (rSlL K):=by subst h;exact LI
theorem Mg (h:X.K=K) (hu:X.A.units < cLine):OpR X (compareOp .NotEq) (rEqL K true):=by subst h;exact Ou hu
theorem kF (h:X.K=K):sM X (.builtin "isinstance") (rIsi K):=by subst h;exact Kr
noncomputable def rLen (K:PySem.W.Frag):List V→Hp→VK→Prop:=fun xs H Q=>∃ x n,xs=[x]∧LenV K x H n∧Q (.int n) H
theorem cq (h:X.K=K):sM X (.builtin "len") (rLen K):=by subst h;exact Kq
noncomputable def GJ (K:PySem.W.Frag):List V→Hp→VK→Prop:=fun xs H Q=>∃ p ys,xs=[.ref p]∧(SqL K H p ys∨SqT K H p ys)∧∀ l,H l=none→Q (.ref l) (upd H l (.lst ys))
theorem xr (h:X.K=K):sM X (.type "list") (GJ K):=by subst h;exact Az
noncomputable def KP (K:PySem.W.Frag):List V→Hp→VK→Prop:=fun xs H Q=>∃ p ys,xs=[.ref p]∧((SqL K H p ys∧∀ l,H l=none→Q (.ref l) (upd H l (.tup ys)))∨(SqT K H p ys∧Q (.ref p) H))
theorem uW (h:X.K=K):sM X (.type "tuple") (KP K):=by subst h;exact yJ
theorem dy {tg l:Expr} {tl:TE} (h:X.K=K) (hl:PE X l tl):PI X tg l (MA K tl):=by subst h;exact Mc hl
theorem j5 {o:Expr} {to:TE} {name:Str} {apos cpos:Pos} {T id:String} {r:V→List V→Hp→VK→Prop} (h:X.K=K) (pa:PlainAttrs T) (slot:Slot T name id) (hty:typeOf (.builtin id)=pure (.type "method_descriptor")) (hm:MtR X id r) (ho:PE X o to)
  (hbase:attributeBase o name X.env (eval o X.env)=eval o X.env:=by rfl) (hline:(apos.endLine == cpos.line)=true:=by rfl):PE X (.Call (.Attribute o name apos) [] [] cpos) (tBM0 K T r to):=by subst h;exact Oq pa slot hty hm ho hbase hline
theorem jA {o e:Expr} {es:List Expr} {to:TE} {t:TA} {name:Str} {apos cpos:Pos} {T id:String} {r:V→List V→Hp→VK→Prop} (h:X.K=K) (pa:PlainAttrs T) (slot:Slot T name id) (hty:typeOf (.builtin id)=pure (.type "method_descriptor")) (hm:MtR X id r) (ho:PE X o to) (ha:PA X (e::es) t)
  (hbase:attributeBase o name X.env (eval o X.env)=eval o X.env:=by rfl)
  (hfew:((backTo cpos (starEach (e::es) X.env)).all (fun x=> !x.1)&&(backToKw cpos (keywordEach [] X.env)).all (fun x=>x.1.isSome)
   &&decide ((e::es).length + ([]:List Keyword).length + (if ([]:List Keyword).isEmpty then 0 else 1) < 30))=true:=by rfl)
  (hline:(apos.endLine == cpos.line)=true:=by rfl) (hs:starEach (e::es) X.env=(false,eval e X.env)::starEach es X.env:=by rfl) (hplain:(backTo cpos (starEach es X.env)).any (·.1)=false:=by rfl):
  PE X (.Call (.Attribute o name apos) (e::es) [] cpos) (tBM K T r to t):=by subst h;exact PR pa slot hty hm ho ha hbase hfew hline hs hplain
end
noncomputable def Oc (K:PySem.W.Frag):List V→Hp→VK→Prop:=fun xs H Q=>∃ (a:Addr) (bs:List Bool),xs=[.ref a]∧SqL K H a (bs.map V.bl)∧Q (.bl (bs.all id)) H
section
variable {X:Cx} {K:PySem.W.Frag}
theorem MQ {bs:List Bool} {its:List Value} (rv:Vals (bs.map V.bl) its) {i:Nat} {v:Value} (h:its.toArray[i]? =some v):v= .bool (bs.getD i false):=by
 have h':its[i]? =some v:=by simpa using h
 have hi:i < its.length:=(List.getElem?_eq_some_iff.mp h').1
 have hl:=rv.length
 rw [List.length_map] at hl
 obtain ⟨u,e,r⟩:=rv.get (i:=i) (x:= .bl (bs.getD i false)) (by rw [List.getElem?_map,List.getElem?_eq_getElem (by omega),List.getD_eq_getElem?_getD,List.getElem?_eq_getElem (by omega)];rfl)
 rw [h'] at e
 cases e
 exact r
theorem O2 (bs:List Bool):(List.range bs.length).all (fun i=>bs.getD i false)=bs.all id:=by
 rw [Bool.eq_iff_iff,List.all_eq_true,List.all_eq_true]
 constructor
 ·intro h x hx
  obtain ⟨i,hi,e⟩:=List.mem_iff_getElem.mp hx
  have:=h i (List.mem_range.mpr hi)
  rw [List.getD_eq_getElem?_getD,List.getElem?_eq_getElem hi,e] at this
  exact this
 ·intro h i hi
  have hi:=List.mem_range.mp hi
  rw [List.getD_eq_getElem?_getD,List.getElem?_eq_getElem hi]
  exact h _ (List.getElem_mem hi)
theorem Ie (h:X.K=K) (hc:X.calm=true):sM X (.builtin "all") (Oc K):=by
 subst h
 intro pins s σ H xs us Q I r h
 obtain ⟨a,bs,rfl,hq,q⟩:=h
 obtain ⟨u,rfl,ru⟩:=F7 r
 cases ru
 obtain ⟨its,rv,pl,hz⟩:=I.list hq
 have lt:a < s.heap.objs.size:=let ⟨o,e,_⟩:=pl.isList;Heap.lt_size e
 have hl:its.toArray.size=bs.length:=by have:=rv.length;rw [List.length_map] at this;simp [this]
 refine call_all_walk (wpAny_pyIter_list pl.isList ⟨s.heap.objs.size,_,_,its.toArray.size,_,_,fun i=>bs.getD i false,rfl,Walks.list (A:=X.A.in1) (I.ok.hd hc) s.heap.objs.size a (Nat.ne_of_lt lt) its.toArray,⟨⟨_,Heap.get?_push_size _ rfl,rfl,rfl⟩,let ⟨o,e,c⟩:=pl.isList;⟨o,Heap.get?_push_of_some _ e,c⟩⟩,fun i v s Q E hv hQ=>by rw [MQ rv hv];exact wpAny_truthy_bool hQ,fun h' tk kk=>?_⟩)
 rw [hl,O2]
 exact ⟨.bl _,H,I.kept (fun b o e=>kk b o (fun hm=>by have:=Heap.lt_size e;rw [List.mem_singleton.mp hm] at this;exact absurd this (Nat.lt_irrefl _)) (Heap.get?_push_of_some _ e)),rfl,q⟩
end
inductive Dt where
 | non | bl (b:Bool) | int (i:Int) | str (x:Str) | lst (xs:List Dt) | tup (xs:List Dt)
inductive Rep (K:PySem.W.Frag) (H:Hp):V→Dt→Prop where
 | non:Rep K H .non .non
 | bl (b:Bool):Rep K H (.bl b) (.bl b)
 | int (i:Int):Rep K H (.int i) (.int i)
 | str (x:Str):Rep K H (.str x) (.str x)
 | lst {p:Addr} {xs:List V} {ds:List Dt} (h:SqL K H p xs) (l:xs.length=ds.length) (r:∀ (i:Nat) x d,xs[i]? =some x→ds[i]? =some d→Rep K H x d):Rep K H (.ref p) (.lst ds)
 | tup {p:Addr} {xs:List V} {ds:List Dt} (h:SqT K H p xs) (l:xs.length=ds.length) (r:∀ (i:Nat) x d,xs[i]? =some x→ds[i]? =some d→Rep K H x d):Rep K H (.ref p) (.tup ds)
theorem Same.tup {K:PySem.W.Frag} {H H':Hp} {a:Addr} {xs:List V} (e:Same H H') (h:SqT K H a xs):SqT K H' a xs:=by
 rcases h with (h | ⟨o,h⟩) | h
 ·exact .inl (.inl (e _ _ h))
 ·exact .inl (.inr ⟨o,e _ _ h⟩)
 ·exact .inr h
mutual
noncomputable def eqD:Dt→Dt→Bool
 | .non,.non=>true
 | .bl a,.bl b=>a == b
 | .bl a,.int b=>(if a then 1 else 0) == b
 | .int a,.bl b=>a == (if b then 1 else 0)
 | .int a,.int b=>a == b
 | .str a,.str b=>a == b
 | .lst xs,.lst ys=>eqDs xs ys
 | .tup xs,.tup ys=>eqDs xs ys
 | _,_=>false
noncomputable def eqDs:List Dt→List Dt→Bool
 | [],[]=>true
 | x::xs,y::ys=>eqD x y&&eqDs xs ys
 | _,_=>false
end
mutual
noncomputable def depD:Dt→Nat
 | .lst xs=>MI xs + 1
 | .tup xs=>MI xs + 1
 | _=>0
noncomputable def MI:List Dt→Nat
 | []=>0
 | x::xs=>max (depD x) (MI xs)
end
inductive FE:St→Nat→Option V→St→Prop where
 | z {a v:Option V} {l:St}:FE (a::l) 0 v (v::l)
 | s {a v:Option V} {l l':St} {i:Nat}:FE l i v l'→FE (a::l) (i + 1) v (a::l')
theorem FE.eq {l l':St} {i:Nat} {v:Option V} (h:FE l i v l'):l.set i v=l':=by
 induction h with
 | z=>rfl
 | s _ ih=>rw [List.set_cons_succ,ih]
inductive FF:St→Nat→V→Prop where
 | z {v:V} {l:St}:FF (some v::l) 0 v
 | s {a:Option V} {v:V} {l:St} {i:Nat}:FF l i v→FF (a::l) (i + 1) v
theorem FF.eq {l:St} {i:Nat} {v:V} (h:FF l i v):l[i]? =some (some v):=by
 induction h with
 | z=>rfl
 | s _ ih=>rw [List.getElem?_cons_succ];exact ih
section
variable {σ σ':St} {H:Hp} {Q:VK} {D:Ends} {ta tb tc te:TE} {t u:TS} {tt tt':TT} {r r':R2} {x y v:V}
theorem aH {N:List Str} {vs:List V} {t:TS} (e:qV N vs=σ') (h:t D σ' H):t D (qV N vs) H:=by rw [e];exact h
theorem Pl {i:Nat} (e:FF σ i v) (h:Q v H):tVar i σ H Q:=⟨v,e.eq,h⟩
theorem s_c (h:Q v H):tC v σ H Q:=h
theorem s_op (h:ta σ H fun x H1=>tb σ H1 fun y H2=>r x y H2 Q):tOp r ta tb σ H Q:=h
theorem s_un {r:V→Hp→VK→Prop} (h:ta σ H fun x H1=>r x H1 Q):tUn r ta σ H Q:=h
theorem s_rI {C:Int→Int→Prop} {g:Int→Int→V} {i j:Int} (c:C i j) (h:Q (g i j) H):rI C g (.int i) (.int j) H Q:=⟨i,j,rfl,rfl,c,h⟩
theorem Pt {g:Int→Int→V} {i j:Int} (h:Q (g i j) H):rI0 g (.int i) (.int j) H Q:=⟨i,j,rfl,rfl,h⟩
theorem s_rU {g:Int→V} {i:Int} (h:Q (g i) H):rU g (.int i) H Q:=⟨i,rfl,h⟩
theorem Pu (e:scal x y=true) (h:Q (.bl (decide (x=y))) H):rEq x y H Q:=⟨e,h⟩
theorem Pr (e:scal x y=true) (h:Q (.bl (!decide (x=y))) H):rNe x y H Q:=⟨e,h⟩
theorem NG {Q:Bool→Hp→Prop} (h:te σ H fun x H'=>∃ k,x= .bl k∧Q k H'):Ni te σ H Q:=h
theorem s_tB {Q:Bool→Hp→Prop} (h:te σ H fun x H'=>∃ k,x= .bl k∧Q k H'):tB te σ H Q:=h
theorem PQ {Q:Bool→Hp→Prop} (h:tt σ H fun c H1=>if c=true then tt' σ H1 Q else Q false H1):tAnd tt tt' σ H Q:=h
theorem s_or {Q:Bool→Hp→Prop} (h:tt σ H fun c H1=>if c=true then Q true H1 else tt' σ H1 Q):tOr tt tt' σ H Q:=h
theorem Pw {Q:Bool→Hp→Prop} (h:tt σ H fun c H1=>Q (!c) H1):tNot tt σ H Q:=h
theorem N6 (h:ta σ H fun x H1=>∃ c,x= .bl c∧if c=true then tb σ H1 Q else Q (.bl false) H1):Nx ta tb σ H Q:=h
theorem NJ (h:ta σ H fun x H1=>∃ c,x= .bl c∧Q (.bl (!c)) H1):Nk ta σ H Q:=h
theorem NK (h:D.nx σ H):Nl D σ H:=h
theorem Po (h:t {D with nx:=u D} σ H):tSeq t u D σ H:=h
theorem NW (h:te σ H fun _ H1=>D.nx σ H1):Nq te D σ H:=h
theorem Pp (h:te σ H D.rt):tRet te D σ H:=h
theorem s_if (h:tt σ H fun b H1=>if b=true then t D σ H1 else u D σ H1):tIfS tt t u D σ H:=h
theorem PP {g:TG} (h:te σ H fun x H1=>g x σ H1 D.nx):tAsg te g D σ H:=h
theorem LU {i:Nat} {Q:St→Hp→Prop} (e:FE σ i (some v) σ') (h:Q σ' H):BS i v σ H Q:=by show Q (σ.set i (some v)) H;rw [e.eq];exact h
theorem NV {Q:St→Hp→Prop} (h:Q σ H):gNil [] σ H Q:=⟨rfl,h⟩
theorem LV {g:TG} {gs:TGs} {vs:List V} {Q:St→Hp→Prop} (h:g v σ H fun σ' H'=>gs vs σ' H' Q):ME g gs (v::vs) σ H Q:=⟨v,vs,rfl,h⟩
theorem NU {K:PySem.W.Frag} {n:Nat} {gs:TGs} {p:Addr} {xs:List V} {Q:St→Hp→Prop} (e:SqT K H p xs) (l:xs.length=n) (h:gs xs σ H Q):gTup K n gs (.ref p) σ H Q:=⟨p,xs,rfl,e,l,h⟩
theorem Px {Q:List V→Hp→Prop} (h:Q [] H):tNil σ H Q:=h
theorem N3 {tr:TA} {Q:List V→Hp→Prop} (h:ta σ H fun x H1=>tr σ H1 fun xs H2=>Q (x::xs) H2):Nw ta tr σ H Q:=h
noncomputable def NewT (Q:VK) (xs:List V) (H:Hp):Prop:=xs.length≤sizeLine∧∀ p,H p=none→Q (.ref p) (upd H p (.tup xs))
noncomputable def NewL (Q:VK) (xs:List V) (H:Hp):Prop:=xs.length≤sizeLine∧∀ p,H p=none→Q (.ref p) (upd H p (.lst xs))
theorem Pm {tr:TA} (h:tr σ H (NewT Q)):tTup tr σ H Q:=h
theorem Py {tr:TA} (h:tr σ H (NewL Q)):tLst tr σ H Q:=h
theorem fP {H:Hp} {D:Addr} {o:HO} (h:H D=none):Same H (upd H D o):=fun b u e=>by rw [aL (ar e h)];exact e
theorem j1 {o:HO} (h:∀ p H2,H p=none→Same H H2→H2 p=some o→Q (.ref p) H2):∀ p,H p=none→Q (.ref p) (upd H p o):=fun p hp=>h p _ hp (fP hp) bf
theorem Same.get {H H':Hp} (e:Same H H') {b:Addr} {o:HO} (h:H b=some o):H' b=some o:=e b o h
theorem NL {xs:List V} (l:xs.length≤sizeLine) (h:∀ p H2,H p=none→Same H H2→H2 p=some (.tup xs)→Q (.ref p) H2):NewT Q xs H:=⟨l,j1 h⟩
theorem NM {xs:List V} (l:xs.length≤sizeLine) (h:∀ p H2,H p=none→Same H H2→H2 p=some (.lst xs)→Q (.ref p) H2):NewL Q xs H:=⟨l,j1 h⟩
theorem L6 {sp:Sp} {E:XK} {tr:TA} (h:tr σ H fun vs H1=>sp vs H1 Q E):Lu sp [] E tr σ H Q:=by unfold Lu;simp only [List.append_nil];exact h
theorem s_cb {r:List V→Hp→VK→Prop} {tr:TA} (h:tr σ H fun vs H1=>r vs H1 Q):tCB r tr σ H Q:=h
theorem Jx {Q:Option Int→Hp→Prop} (h:Q none H):Gh σ H Q:=h
theorem NI {Q:Option Int→Hp→Prop} (h:te σ H fun x H1=>∃ i,x= .int i∧Q (some i) H1):Nj te σ H Q:=h
theorem s_sl {r:V→Option Int→Option Int→Hp→VK→Prop} {tl th:TO} (h:te σ H fun x H1=>tl σ H1 fun l H2=>th σ H2 fun u H3=>r x l u H3 Q):tSl r te tl th σ H Q:=h
theorem Pn {K:PySem.W.Frag} {p:Addr} {xs:List V} {lo hi:Option Int} (e:SqL K H p xs) (h:∀ q H2,H q=none→Same H H2→H2 q=some (.lst (cutV xs lo hi))→Q (.ref q) H2):rSlL K (.ref p) lo hi H Q:=⟨p,xs,rfl,e,j1 h⟩
theorem PB {K:PySem.W.Frag} {p:Addr} {xs:List V} {i:Int} (e:SqL K H p xs) (a:atI xs i=some v) (h:Q v H):rIxL K (.ref p) (.int i) H Q:=⟨p,xs,i,v,rfl,rfl,e,a,h⟩
theorem Pz {K:PySem.W.Frag} {p:Addr} {xs:List V} {i:Int} (e:SqT K H p xs) (a:atI xs i=some v) (h:Q v H):rIxT K (.ref p) (.int i) H Q:=⟨p,xs,i,v,rfl,rfl,e,a,h⟩
theorem PN {K:PySem.W.Frag} {T:String} {r:V→List V→Hp→VK→Prop} (h:te σ H fun x H1=>tyV K T x H1∧r x [] H1 Q):tBM0 K T r te σ H Q:=h
theorem s_bm {K:PySem.W.Frag} {T:String} {r:V→List V→Hp→VK→Prop} {tr:TA} (h:te σ H fun x H1=>tyV K T x H1∧tr σ H1 fun xs H2=>r x xs H2 Q):tBM K T r te tr σ H Q:=h
theorem Hb {n:Nat} (h:n≤1000):n≤sizeLine:=Nat.le_of_lt (cU h)
theorem s_ty {K:PySem.W.Frag} {T:String} {A:Prop} (e:tyV K T x H) (h:A):tyV K T x H∧A:=⟨e,h⟩
theorem N5 {i:Int} (h:Q (.int (Builtin.Int.intBits i:Nat)) H):Ob (.int i) [] H Q:=⟨i,rfl,rfl,h⟩
theorem NS {K:PySem.W.Frag} {p:Addr} {xs:List V} (e:SqL K H p xs) (h:Q (.int xs.length) H):rLen K [.ref p] H Q:=⟨_,_,rfl,.inl ⟨xs,e,rfl⟩,h⟩
theorem NR {K:PySem.W.Frag} {p:Addr} {xs:List V} (e:SqT K H p xs) (h:Q (.int xs.length) H):rLen K [.ref p] H Q:=⟨_,_,rfl,.inr ⟨xs,e,rfl⟩,h⟩
theorem PD {K:PySem.W.Frag} {T k:String} (e:gZ K H x k) (m:T∈["int","bool","str","list","tuple","dict"]) (h:Q (.bl (subB k T)) H):rIsi K [x,.ty T] H Q:=⟨x,k,T,rfl,e,m,h⟩
theorem NZ (h:∀ p H2,H p=none→Same H H2→H2 p=some (.dK [])→Q (.ref p) H2):KH σ H Q:=j1 h
theorem PF {wi:TI} {g:TG} {tb:TS} (h:wi σ H fun J H1=>∃ W:Nat→Nat→St→Hp→Prop,(∃ m,W 0 m σ H1)∧∀ i m σ H,W i m σ H→(J.stop i H∧D.nx σ H)∨(J.go i H∧∃ N:St→Hp→Prop,(∀ σ' H',N σ' H'→∃ m',m' < m∧W (i + 1) m' σ' H')∧∀ x H',J.yld i H x H'→g x σ H' fun σ2 H2=>tb {D with nx:=N,ct:=N,bk:=D.nx} σ2 H2)):tFor wi g tb D σ H:=h
theorem LQ {K:PySem.W.Frag} {R:It→Hp→Prop} (h:te σ H fun x H1=>∃ a,x= .ref a∧(∃ xs,SqL K H1 a xs)∧R (Itl K a) H1):MA K te σ H R:=h
theorem NH {tr:TA} {R:It→Hp→Prop} (h:tr σ H fun vs H1=>∃ j:Int,vs=[.int j]∧-(2 ^ 62)≤j∧j < 2 ^ 62∧R (Itr 0 j.toNat) H1):OL tr σ H R:=h
theorem Pk {Q:Bool→Hp→Prop} (h:Q true H):tYes σ H Q:=h
theorem NF {A B:Prop} (h:A):if true=true then A else B:=by rw [if_pos rfl];exact h
theorem LW {A B:Prop} (h:B):if false=true then A else B:=by rw [if_neg Bool.false_ne_true];exact h
theorem ti {c:Bool} {A B:Prop} (e:c=true) (h:A):if c=true then A else B:=by rw [if_pos e];exact h
theorem o6 {c:Bool} {A B:Prop} (e:c=false) (h:B):if c=true then A else B:=by rw [e,if_neg Bool.false_ne_true];exact h
theorem N4 {n:Nat} {fx:List Nat} {wi:TI} {g:TG} (h:wi σ H fun J H1=>∀ D,H1 D=none→
 ∃ W:Nat→Nat→List V→Hp→Prop,(∃ m,W 0 m [] (upd H1 D (.lst [])))∧∀ i m ys H2,W i m ys H2→(J.stop i H2∧Q (.ref D) H2)∨
   (J.go i H2∧∃ N:List V→Hp→Prop,(∀ ys' H',N ys' H'→∃ m',m' < m∧W (i + 1) m' ys' H')∧∀ x H3,J.yld i H2 x H3→g x (er n fx σ) H3 fun σ4 H4=>tt σ4 H4 fun b H5=>
    if b=true then te σ4 H5 fun v H6=>H6 D=some (.lst ys)∧ys.length < sizeLine∧N (ys++[v]) (upd H6 D (.lst (ys++[v]))) else N ys H5)):Je n fx wi g tt te σ H Q:=h
theorem N7 {K:PySem.W.Frag} {p:Addr} {bs:List Bool} (e:SqL K H p (bs.map V.bl)) (h:Q (.bl (bs.all id)) H):Oc K [.ref p] H Q:=⟨p,bs,rfl,e,h⟩
theorem JA {j:Int} {A:Prop} (h1: -(2 ^ 62)≤j) (h2:j < 2 ^ 62) (h:A): -(2 ^ 62)≤j∧j < 2 ^ 62∧A:=⟨h1,h2,h⟩
end
noncomputable def tCut (t u:TS):TS:=fun D σ H=>∃ P:St→Hp→Prop,t {D with nx:=P} σ H∧∀ σ' H',P σ' H'→u D σ' H'
theorem jh {X:Cx} {st:Stmt} {rest:List Stmt} {t u:TS} (h1:PS X st t) (h2:PSs X rest u):PSs X (st::rest) (tCut t u):=by
 intro pins s σ H D I ⟨P,a,b⟩
 refine wpAny_execs_cons (thn (h1 pins s σ H {D with nx:=P} I a) fun f s1 q=>?_)
 cases f with
 | next=>obtain ⟨σ1,H1,I1,q1⟩:=q;exact h2 pins s1 σ1 H1 D I1 (b σ1 H1 q1)
 | brk=>exact q
 | cont=>exact q
 | ret v=>exact q
theorem xH {t u:TS} {D:Ends} {σ:St} {H:Hp} (P:St→Hp→Prop) (h:t {D with nx:=P} σ H) (k:∀ σ' H',P σ' H'→u D σ' H'):tCut t u D σ H:=⟨P,h,k⟩
section
variable {K:PySem.W.Frag} {n:Nat} {fx:List Nat} {g:TG} {tc:TT} {te:TE} {σ:St} {H1:Hp} {D:Addr} {Q:Hp→Prop}
structure Cs (Pv:Nat→List V→Prop) (H1:Hp) (D:Addr) (i:Nat) (ys:List V) (H:Hp):Prop where
 pv:Pv i ys
 same:Same H1 H
 at':H D=some (.lst ys)
 len:ys.length≤i
theorem Cs.put {Pv:Nat→List V→Prop} {i:Nat} {ys:List V} {v:V} {H6:Hp} (f:H1 D=none) (s:Same H1 H6) (e:H6 D=some (.lst ys)) (l:ys.length≤i) (hi:i < 16777216) (p:Pv (i + 1) (ys++[v])):
  H6 D=some (.lst ys)∧ys.length < sizeLine∧Cs Pv H1 D (i + 1) (ys++[v]) (upd H6 D (.lst (ys++[v]))):=
 ⟨e,by rw [sizeLine_eq];omega,p,fun b o h=>by rw [aL (ar h f)];exact s b o h,bf,by rw [List.length_append];simpa using l⟩
theorem Cs.skip {Pv:Nat→List V→Prop} {i:Nat} {ys:List V} {H6:Hp} (s:Same H1 H6) (e:H6 D=some (.lst ys)) (l:ys.length≤i) (p:Pv (i + 1) ys):Cs Pv H1 D (i + 1) ys H6:=⟨p,s,e,by omega⟩
theorem Cs.zero {Pv:Nat→List V→Prop} (f:H1 D=none) (p:Pv 0 []):Cs Pv H1 D 0 [] (upd H1 D (.lst [])):=⟨p,fP f,bf,Nat.le_refl _⟩
end
structure Qa (K:PySem.W.Frag) (C:Addr) (m:Str) (f:Addr):Prop where
 ga:PySem.W.specialIn K (.ref C) "__getattribute__"=some (some (.builtin "type.__getattribute__"))
 rd:PySem.W.readsIn K C (.type "type")=true
 fd:PySem.W.findCls K (.ref C) (.type "type") m=some (.val (.ref f))
 hd:PySem.W.handedIn (.ref f)=true
 kp:PySem.W.keepIn K (.ref f)=true
structure O7 (K:PySem.W.Frag) (D:Addr):Prop where
 cls:Cls K D
 ha:PySem.W.findIn K (.ref D) "__class__"=some (some (.builtin "object.__class__"))
 hn:PySem.W.specialIn K (.builtin "object.__class__") "__get__"=some (some (.builtin "getset_descriptor.__get__"))
 tk:PySem.W.takesIn K (.builtin "object.__class__")=some true
 hm:PySem.W.mroIn K D (.type "object")=some true
section
variable {X:Cx} {K:PySem.W.Frag}
theorem dJ {e:Expr} {ta:TE} {f:Str} {pos:Pos} (h:X.K=K) (he:PE X e ta) (hb:attributeBase e f X.env (eval e X.env)=eval e X.env):PE X (.Attribute e f pos) (tFld K ta f):=by subst h;exact On he hb
theorem o7 {o value:Expr} {ta tv:TE} {f:Str} {pos pos':Pos} (h:X.K=K) (ha:PE X o ta) (hv:PE X value tv) (hs:swapsWith value (some (.Attribute o f pos')) pos.line X.env=pure false):PS X (.Assign [.Attribute o f pos'] value pos) (sFld K ta tv f):=by subst h;exact Oe ha hv hs
end
section
variable {σ:St} {H:Hp} {Q:VK} {D:Ends} {te tv ta:TE} {x y v:V}
noncomputable def Pa (K:PySem.W.Frag) (f:Str) (Q:VK) (x:V) (H:Hp):Prop:=∃ a C dx fs v,x= .ref a∧H a=some (.ins C dx fs)∧Cls K C∧dH K C f∧fs.lookup f=some v∧Q v H
theorem PJ {K:PySem.W.Frag} {f:Str} (h:te σ H (Pa K f Q)):tFld K te f σ H Q:=h
theorem dI {K:PySem.W.Frag} {f:Str} {p C dx:Addr} {fs:List (Str×V)} (e:H p=some (.ins C dx fs)) (c:Cls K C) (n:dH K C f) (l:fs.lookup f=some v) (h:Q v H):Pa K f Q (.ref p) H:=⟨p,C,dx,fs,v,rfl,e,c,n,l,h⟩
structure Upd (H H':Hp) (p:Addr) (o:HO):Prop where
 at':H' p=some o
 oth:∀ b u,b≠p→H b=some u→H' b=some u
 non:∀ b,b≠p→H b=none→H' b=none
theorem Upd.of {H:Hp} {p:Addr} {o:HO}:Upd H (upd H p o) p o:=⟨bf,fun b u n h=>by rw [aL n];exact h,fun b n h=>by rw [aL n];exact h⟩
noncomputable def O5 (K:PySem.W.Frag) (f:Str) (y:V) (D:Ends) (σ:St) (x:V) (H:Hp):Prop:=∃ a C dx fs,x= .ref a∧H a=some (.ins C dx fs)∧Cls K C∧dH K C f∧fs.length < 1000∧D.nx σ (upd H a (.ins C dx (putF f y fs)))
theorem Jw {K:PySem.W.Frag} {f:Str} (h:tv σ H fun y H1=>te σ H1 (O5 K f y D σ)):sFld K te tv f D σ H:=h
theorem o5 {K:PySem.W.Frag} {f:Str} {p C dx:Addr} {fs fs':List (Str×V)} (e:H p=some (.ins C dx fs)) (c:Cls K C) (n:dH K C f) (l:fs.length < 1000) (ef:putF f y fs=fs') (h:∀ H2,Upd H H2 p (.ins C dx fs')→D.nx σ H2):
  O5 K f y D σ (.ref p) H:=⟨p,C,dx,fs,rfl,e,c,n,l,by rw [ef];exact h _ Upd.of⟩
noncomputable def Ld (C:Addr) (sp:Sp) (E:XK) (Q:VK) (vs:List V) (H:Hp):Prop:=∀ x dx,H x=none→H dx=none→dx≠x→sp (.ref x::(vs++[])) (upd (upd H dx (.own x)) x (.ins C dx [])) (fun v H2=>v= .non∧Q (.ref x) H2) E
theorem NO {C:Addr} {sp:Sp} {E:XK} {tr:TA} (h:tr σ H (Ld C sp E Q)):Nn C sp [] E tr σ H Q:=h
theorem Jy {C:Addr} {sp:Sp} {E:XK} {vs:List V} (h:∀ x dx H2,H x=none→Same H H2→H2 x=some (.ins C dx [])→sp (.ref x::vs) H2 (fun v H2=>v= .non∧Q (.ref x) H2) E):Ld C sp E Q vs H:=by
 intro x dx f1 f2 n
 rw [List.append_nil]
 exact h x dx _ f1 (fun b o e=>by rw [aL (ar e f1),aL (ar e f2)];exact e) bf
theorem Upd.same {H0 H2:Hp} {p:Addr} {o:HO} (u:Upd H H2 p o) (f:H0 p=none) (s:Same H0 H):Same H0 H2:=fun b q e=>u.oth b q (ar e f) (s b q e)
end
theorem Inv.laidCh {X:Cx} {pins:List (Addr×Obj)} {σ:St} {H:Hp} {s:Shared} {h':Heap} {a:Addr} {o:HO} {t':Nat} {ch:List Addr} (I:Inv X pins σ H s) (k:∀ b u,b∉ch→s.heap.get? b=some u→h'.get? b=some u) (hp:s.heap.objs.size≤a)
  (new:eB X.prog X.w (upd H a o) h' a o) (fp:∀ b∈ch,FpOk X pins H b):Inv X pins σ (upd H a o) {s with heap:=h',toks:=t'}:=by
 have fr:H a=none:=I.hok.fresh hp
 have nit:∀ b u,H b=some u→b∉ch:=fun b u e z=>by rw [(fp b z).1] at e;cases e
 refine I.step (g':=s.gens) (d':=s.drawn) (ch:=ch) (fun b hb=>?_) (fun b ob _ _ hc e _=>k b ob hc e) (fun b ob _ _ hc e _=>⟨ob.slots,k b ob hc e⟩) (fun b ob _ e n=>?_) (fun b ob hc e=>⟨ob,k b ob hc e⟩)
  (fun b xs e=>by rw [aL (ar e fr)];exact e) (fun b ob u e=>by rw [aL (ar e fr)];exact e) (fun b ps e=>⟨#[],by rw [aL (ar e fr),e];simp⟩) (fun m hm=>?_) (fun b u e=>?_) I.bare
 ·obtain ⟨f0,f1,f2,f3,f4,f5⟩:=fp b hb
  exact ⟨f3,f1,f4,f5⟩
 ·rw [aL (Nat.ne_of_lt (Nat.lt_of_lt_of_le (Heap.lt_size e) hp))];exact n
 ·obtain ⟨ob,es,ep,ho,r⟩:=hm
  exact ⟨ob,es,ep,k _ ob (fun z=>(fp _ z).2.1 rfl) ho,r⟩
 ·by_cases hb:b=a
  ·subst hb;rw [bf] at e;cases e;exact new
  ·rw [aL hb] at e
   refine (I.hok b u e).stay (fun c v hc q=>k c v ?_ q) (fun c q=>by rw [aL (ar q fr)];exact q) fun c xs q=>by rw [aL (ar q fr)];exact q
   rcases hc with z | z
   ·rw [z];exact nit b u e
   ·exact nit c _ z
theorem Inv.turnedCh {X:Cx} {pins:List (Addr×Obj)} {σ:St} {H:Hp} {s:Shared} {h':Heap} {t':Nat} {ch:List Addr} (I:Inv X pins σ H s) (k:∀ b u,b∉ch→s.heap.get? b=some u→h'.get? b=some u)
  (fp:∀ b∈ch,FpOk X pins H b):Inv X pins σ H {s with heap:=h',toks:=t'}:=by
 have nit:∀ b u,H b=some u→b∉ch:=fun b u e z=>by rw [(fp b z).1] at e;cases e
 refine I.step (g':=s.gens) (d':=s.drawn) (ch:=ch) (fun b hb=>?_) (fun b ob _ _ hc e _=>k b ob hc e) (fun b ob _ _ hc e _=>⟨ob.slots,k b ob hc e⟩) (fun b ob _ e n=>n) (fun b ob hc e=>⟨ob,k b ob hc e⟩)
  (fun b xs e=>e) (fun b ob u e=>e) (fun b ps e=>⟨#[],by rw [e];simp⟩) (fun m hm=>?_) (fun b u e=>?_) I.bare
 ·obtain ⟨f0,f1,f2,f3,f4,f5⟩:=fp b hb
  exact ⟨f3,f1,f4,f5⟩
 ·obtain ⟨ob,es,ep,ho,r⟩:=hm
  exact ⟨ob,es,ep,k _ ob (fun z=>(fp _ z).2.1 rfl) ho,r⟩
 ·refine (I.hok b u e).stay (fun c v hc q=>k c v ?_ q) (fun c q=>q) fun c xs q=>q
  rcases hc with z | z
  ·rw [z];exact nit b u e
  ·exact nit c _ z
noncomputable def Ite (K:PySem.W.Frag) (a:Addr):It:=
 ⟨fun i H=>∃ xs x,SqL K H a xs∧xs[i]? =some x,fun i H x H'=>∃ p v,H p=none∧x= .ref p∧H'=upd H p (.tup [.int i,v])∧∀ xs,SqL K H a xs→xs[i]? =some v,fun i H=>∃ xs,SqL K H a xs∧xs.length=i⟩
noncomputable def Itz (x:Str):It:=⟨fun i _=>i < x.cps.size,fun i H v H'=>∃ p c,H p=none∧v= .ref p∧H'=upd H p (.tup [.int i,.str ⟨#[c]⟩])∧x.cps[i]? =some c,fun i _=>i=x.cps.size⟩
theorem y9:(2:Nat)≤sizeLine:=by rw [sizeLine_eq];decide
theorem wx {P:Program} {w:World} {K:PySem.W.Frag} {elts:List Expr} {k:Nat} {pos:Pos} (a e it:Addr) (hei:e≠it):
  Turn P w K (.Tuple elts k pos) (Ite K a) [e,it] e (fun i h=>(∃ old,IsEnum h e it i old)∧h.IsListIter it a i) where
 mem:=by simp
 obj:=fun i h st b hb=>by
  obtain ⟨⟨old,he⟩,⟨o,ho,hc,hd⟩⟩:=st
  rcases List.mem_cons.mp hb with z | z
  ·subst z;exact ⟨_,he,fun v z=>by cases z⟩
  ·rw [List.mem_singleton.mp z];exact ⟨o,ho,fun v z=>by rw [hd] at z;cases z⟩
 keep:=fun i h h' st k=>⟨let ⟨old,he⟩:=st.1;⟨old,k e (by simp) _ he⟩,st.2.at fun o z=>k it (by simp) o z⟩
 item:=by
  intro X hP hw hK hc i pins s σ H E I hf st hg
  subst hP hw hK
  obtain ⟨xs,x,hq,hx⟩:=hg
  obtain ⟨its,rv,p,hz⟩:=I.list hq
  obtain ⟨⟨old,he⟩,hl⟩:=st
  have hai:a≠it:=fun z=>by
   obtain ⟨o,ho,hcl,_⟩:=hl
   obtain ⟨o',n,ho',hcl',_⟩:=p
   rw [z,ho] at ho';cases ho';rw [hcl] at hcl';exact absurd hcl' (by decide)
  have hae:a≠e:=fun z=>by
   obtain ⟨o',n,ho',hcl',_⟩:=p
   rw [z,he] at ho';cases ho';exact absurd (show Value.type "enumerate"= .type "list" from hcl') (by decide)
  have W:=WalksT.enumerateD (prog:=X.prog) (w:=X.w) (A:=X.A) (Draws.list (A:=X.A.in1) (I.ok.hd hc) it a hai its.toArray) e hei (by simp [hei,Ne.symm hae]) (by simp)
  have hi:i < its.toArray.size:=by have:=rv.length;have:=(List.getElem?_eq_some_iff.mp hx).1;simp;omega
  refine W.item i s _ _ hi ⟨⟨old,he⟩,hl,p.isList⟩ fun T vals h' tk hPt hT htup hmid hk=>⟨_,rfl,W.go elts k pos i T _ _ _ hmid fun h'' hst hk2=>?_⟩
  obtain ⟨t,x',hx',rfl⟩:=hPt
  have hap:=W.apart i T h' hmid
  have ru:RelV x x':=by
   obtain ⟨u,hu,r⟩:=rv.get hx
   have hx'':its[i]? =some x':=by simpa using hx'
   rw [hu] at hx'';cases hx'';exact r
  have kk:∀ b u,b∉[e,it]→s.heap.get? b=some u→h''.get? b=some u:=fun b u hb q=>hk2 b u hb (hk b u hb q)
  have fr:H T=none:=I.hok.fresh hT
  refine ⟨.ref T,upd H T (.tup [.int i,x]),I.laidCh (t':=tk) kk hT ⟨y9,[.int i t,x'],.cons ⟨t,rfl⟩ (.cons ru .nil),?_⟩ hf,rfl,⟨T,x,fr,rfl,rfl,fun ys hy=>by rw [I.list_inj hy hq];exact hx⟩,⟨hst.1,hst.2.1⟩,fun b hb=>?_⟩
  ·obtain ⟨o,ho,r⟩:=htup
   exact ⟨o,hk2 T o hap ho,r⟩
  ·have fb:=(hf b hb)
   rw [aL (fun z=>?_)]
   ·exact fb.1
   ·have lt:b < s.heap.objs.size:=by
     rcases List.mem_cons.mp hb with z | z
     ·subst z;exact Heap.lt_size he
     ·rw [List.mem_singleton.mp z];obtain ⟨o,ho,_⟩:=hl;exact Heap.lt_size ho
    rw [z] at lt
    exact absurd (Nat.lt_of_lt_of_le lt hT) (Nat.lt_irrefl _)
 done:=by
  intro X hP hw hK hc i pins s σ H E I hf st hg
  subst hP hw hK
  obtain ⟨xs,hq,hx⟩:=hg
  obtain ⟨its,rv,p,hz⟩:=I.list hq
  obtain ⟨⟨old,he⟩,hl⟩:=st
  have hai:a≠it:=fun z=>by
   obtain ⟨o,ho,hcl,_⟩:=hl
   obtain ⟨o',n,ho',hcl',_⟩:=p
   rw [z,ho] at ho';cases ho';rw [hcl] at hcl';exact absurd hcl' (by decide)
  have hae:a≠e:=fun z=>by
   obtain ⟨o',n,ho',hcl',_⟩:=p
   rw [z,he] at ho';cases ho';exact absurd (show Value.type "enumerate"= .type "list" from hcl') (by decide)
  have W:=WalksT.enumerateD (prog:=X.prog) (w:=X.w) (A:=X.A) (Draws.list (A:=X.A.in1) (I.ok.hd hc) it a hai its.toArray) e hei (by simp [hei,Ne.symm hae]) (by simp)
  have hn:its.toArray.size=i:=by have:=rv.length;simp;omega
  subst hn
  exact W.done s _ _ ⟨⟨old,he⟩,hl,p.isList⟩ fun h' tk hk=>⟨rfl,I.turnedCh hk hf⟩
 self:=fun _ _ _ _ _ st h=>let ⟨_,he⟩:=st.1;wpAny_pyIter_enum he h
theorem Dq {P:Program} {w:World} {K:PySem.W.Frag} {elts:List Expr} {k:Nat} {pos:Pos} {x:Str} {t:Tok} {n:String} (e it:Addr) (hei:e≠it)
  (D:∀ A:Around,A.handled=none→Draws P w A it [it] x.cps.size (fun i v=>∃ c u,x.cps[i]? =some c∧v= .str ⟨#[c]⟩ u) (fun i h=>h.IsStrIter it n x t i)):
  Turn P w K (.Tuple elts k pos) (Itz x) [e,it] e (fun i h=>(∃ old,IsEnum h e it i old)∧h.IsStrIter it n x t i) where
 mem:=by simp
 obj:=fun i h st b hb=>by
  obtain ⟨⟨old,he⟩,⟨o,ho,hc,hd⟩⟩:=st
  rcases List.mem_cons.mp hb with z | z
  ·subst z;exact ⟨_,he,fun v z=>by cases z⟩
  ·rw [List.mem_singleton.mp z];exact ⟨o,ho,fun v z=>by rw [hd] at z;cases z⟩
 keep:=fun i h h' st k=>⟨let ⟨old,he⟩:=st.1;⟨old,k e (by simp) _ he⟩,let ⟨o,ho,r⟩:=st.2;⟨o,k it (by simp) o ho,r⟩⟩
 item:=by
  intro X hP hw hK hc i pins s σ H E I hf st hg
  subst hP hw hK
  obtain ⟨⟨old,he⟩,hl⟩:=st
  have W:=WalksT.enumerateD (prog:=X.prog) (w:=X.w) (A:=X.A) (D X.A.in1 (I.ok.hd hc)) e hei (by simp [hei]) (by simp)
  refine W.item i s _ _ hg ⟨⟨old,he⟩,hl⟩ fun T vals h' tk hPt hT htup hmid hk=>⟨_,rfl,W.go elts k pos i T _ _ _ hmid fun h'' hst hk2=>?_⟩
  obtain ⟨t1,x',⟨c,u,hx',rfl⟩,rfl⟩:=hPt
  have hap:=W.apart i T h' hmid
  have kk:∀ b u,b∉[e,it]→s.heap.get? b=some u→h''.get? b=some u:=fun b u hb q=>hk2 b u hb (hk b u hb q)
  have fr:H T=none:=I.hok.fresh hT
  refine ⟨.ref T,upd H T (.tup [.int i,.str ⟨#[c]⟩]),I.laidCh (t':=tk) kk hT ⟨y9,[.int i t1,.str ⟨#[c]⟩ u],.cons ⟨t1,rfl⟩ (.cons ⟨u,rfl⟩ .nil),?_⟩ hf,rfl,⟨T,c,fr,rfl,rfl,hx'⟩,⟨hst.1,hst.2⟩,fun b hb=>?_⟩
  ·obtain ⟨o,ho,r⟩:=htup
   exact ⟨o,hk2 T o hap ho,r⟩
  ·have fb:=(hf b hb)
   rw [aL (fun z=>?_)]
   ·exact fb.1
   ·have lt:b < s.heap.objs.size:=by
     rcases List.mem_cons.mp hb with z | z
     ·subst z;exact Heap.lt_size he
     ·rw [List.mem_singleton.mp z];obtain ⟨o,ho,_⟩:=hl;exact Heap.lt_size ho
    rw [z] at lt
    exact absurd (Nat.lt_of_lt_of_le lt hT) (Nat.lt_irrefl _)
 done:=by
  intro X hP hw hK hc i pins s σ H E I hf st hg
  subst hP hw hK
  obtain ⟨⟨old,he⟩,hl⟩:=st
  have W:=WalksT.enumerateD (prog:=X.prog) (w:=X.w) (A:=X.A) (D X.A.in1 (I.ok.hd hc)) e hei (by simp [hei]) (by simp)
  have hg:i=x.cps.size:=hg
  subst hg
  exact W.done s _ _ ⟨⟨old,he⟩,hl⟩ fun h' tk hk=>⟨rfl,I.turnedCh hk hf⟩
 self:=fun _ _ _ _ _ st h=>let ⟨_,he⟩:=st.1;wpAny_pyIter_enum he h
noncomputable def OM (K:PySem.W.Frag) (tl:TE):TI:=fun σ H R=>tl σ H fun x H1=>(∃ a,x= .ref a∧(∃ xs,SqL K H1 a xs)∧R (Ite K a) H1)∨∃ z,x= .str z∧R (Itz z) H1
section
variable {X:Cx} {K:PySem.W.Frag}
theorem ph {l:Expr} {tl:TE} {elts:List Expr} {k:Nat} {tpos p pos:Pos} (h:X.K=K) (hg:Gl X "enumerate") (hm:X.mg "enumerate"=none) (hl:PE X l tl) (hs:starEach [l] X.env=[(false,eval l X.env)]:=by rfl):
  PI X (.Tuple elts k tpos) (.Call (.Name "enumerate" p) [l] [] pos) (OM K tl):=by
 subst h
 intro pins s σ H R I h
 refine Call_ (ke I hg hm boot_enumerate (PyProof.Rows.callWith_type1 (thn (aa hl ai hs pos pins s σ H (fun vs H1=>match vs with | [x]=>(∃ a,x= .ref a∧(∃ xs,SqL X.K H1 a xs)∧R (Ite X.K a) H1)∨∃ z,x= .str z∧R (Itz z) H1 | _=>False) I h) fun us s1 ⟨vs,H1,I1,r1,q1⟩=>?_) hs rfl))
 match vs,r1,q1 with
 | [x],r1,q1=>
 obtain ⟨u,rfl,ru⟩:=r1.one
 rcases q1 with ⟨a,rfl,⟨xs,hq⟩,q⟩ | ⟨z,rfl,q⟩
 ·cases ru
  obtain ⟨its,rv,pl,hz⟩:=I1.list hq
  refine call_enumerate_list pl.isList fun h' he hit hsz hk=>wpAny_pyIter_enum he ?_
  refine ⟨s1.heap.objs.size + 1,[s1.heap.objs.size + 1,s1.heap.objs.size],_,_,H1,rfl,I1.kept (t':=s1.toks) hk,wx a _ _ (Nat.ne_of_gt (Nat.lt_succ_self _)),⟨⟨_,he⟩,hit⟩,fun b hb=>?_,q⟩
  have hb':s1.heap.objs.size≤b:=(List.mem_cons.mp hb).elim (fun z=>by rw [z];exact Nat.le_succ _) (fun z=>by rw [List.mem_singleton.mp z];exact Nat.le_refl _)
  exact I1.fpOk hb' (I1.hok.fresh hb')
 ·obtain ⟨t,rfl⟩:=ru
  refine call_enumerate_str fun h' he hit hsz hk=>wpAny_pyIter_enum he ?_
  have fin:∀ n,(h'.IsStrIter s1.heap.objs.size n z t 0)→(∀ A:Around,A.handled=none→Draws X.prog X.w A s1.heap.objs.size [s1.heap.objs.size] z.cps.size (fun i v=>∃ c u,z.cps[i]? =some c∧v= .str ⟨#[c]⟩ u) (fun i h=>h.IsStrIter s1.heap.objs.size n z t i))→
    PIE X pins σ (.Tuple elts k tpos) R (.ref (s1.heap.objs.size + 1)) {s1 with heap:=h'}:=fun n hn D=>by
   refine ⟨s1.heap.objs.size + 1,[s1.heap.objs.size + 1,s1.heap.objs.size],_,_,H1,rfl,I1.kept (t':=s1.toks) hk,Dq _ _ (Nat.ne_of_gt (Nat.lt_succ_self _)) D,⟨⟨_,he⟩,hn⟩,fun b hb=>?_,q⟩
   have hb':s1.heap.objs.size≤b:=(List.mem_cons.mp hb).elim (fun z=>by rw [z];exact Nat.le_succ _) (fun z=>by rw [List.mem_singleton.mp z];exact Nat.le_refl _)
   exact I1.fpOk hb' (I1.hok.fresh hb')
  unfold strIterType at hit
  split at hit
  ·exact fin _ hit fun A hA=>Draws.strAscii hA _ z t
  ·exact fin _ hit fun A hA=>Draws.strWide hA _ z t
end
theorem sQ {K:PySem.W.Frag} {a:Addr} {xs:List V} {g:TG} {tb:TS} {D:Ends} {σ:St} {H:Hp} (Pv:Nat→St→Hp→Prop) (h0:Pv 0 σ H) (hl:∀ i σ H,i≤xs.length→Pv i σ H→SqL K H a xs)
  (hs:∀ i x σ H p H',xs[i]? =some x→Pv i σ H→H p=none→Same H H'→H' p=some (.tup [.int i,x])→g (.ref p) σ H' fun σ2 H2=>tb {D with nx:=Pv (i + 1),ct:=Pv (i + 1),bk:=D.nx} σ2 H2) (hd:∀ σ H,Pv xs.length σ H→D.nx σ H):
  ∃ W:Nat→Nat→St→Hp→Prop,(∃ m,W 0 m σ H)∧∀ i m σ H,W i m σ H→
    ((Ite K a).stop i H∧D.nx σ H)∨((Ite K a).go i H∧∃ N:St→Hp→Prop,(∀ σ' H',N σ' H'→∃ m',m' < m∧W (i + 1) m' σ' H')∧∀ x H',(Ite K a).yld i H x H'→g x σ H' fun σ2 H2=>tb {D with nx:=N,ct:=N,bk:=D.nx} σ2 H2):=by
 refine ⟨fun i m σ H=>m=xs.length - i∧i≤xs.length∧Pv i σ H,⟨xs.length,by simp,Nat.zero_le _,h0⟩,?_⟩
 rintro i m σ H ⟨rfl,hi,p⟩
 have q:=hl i σ H hi p
 by_cases hlt:i < xs.length
 ·refine .inr ⟨⟨xs,xs[i],q,by simp [hlt]⟩,Pv (i + 1),fun σ' H' p'=>⟨xs.length - (i + 1),by omega,rfl,hlt,p'⟩,fun x H' y=>?_⟩
  obtain ⟨r,v,f,e1,e2,y⟩:=y
  subst e1 e2
  exact hs i v σ H r _ (y xs q) p f (fP f) bf
 ·have e:i=xs.length:=by omega
  subst e
  exact .inl ⟨⟨xs,q,rfl⟩,hd σ H p⟩
section
variable {σ:St} {H:Hp} {te:TE} {R:It→Hp→Prop}
theorem LR {K:PySem.W.Frag} (h:te σ H fun x H1=>(∃ a,x= .ref a∧(∃ xs,SqL K H1 a xs)∧R (Ite K a) H1)∨∃ z,x= .str z∧R (Itz z) H1):OM K te σ H R:=h
end
section
variable {σ:St} {H:Hp} {Q:VK} {D:Ends} {te ty tv td:TE} {x y v:V}
theorem dU {l:Addr} {xs:List V} (e:H l=some (.lst xs)) (hz:xs.length < sizeLine) (h:∀ H2,Upd H H2 l (.lst (xs++[y]))→Q .non H2):GK (.ref l) [y] H Q:=⟨l,xs,y,rfl,rfl,e,hz,h _ Upd.of⟩
noncomputable def IR (v:V) (x:V) (D:Ends) (σ:St) (y:V) (H:Hp):Prop:=∃ a H4,x= .ref a∧DPut H a y v H4∧D.nx σ H4
theorem NX (h:tv σ H fun v H1=>td σ H1 fun x H2=>ty σ H2 (IR v x D σ)):N8 td ty tv D σ H:=h
theorem Bg {p:Addr} {kvs:List (Key×V)} {z:Int} (e:H p=some (.dK kvs)) (hl:kvs.length < sizeLine) (h:∀ H2,Upd H H2 p (.dK (putK kvs (Sum.inl z) v))→D.nx σ H2):IR v (.ref p) D σ (.int z) H:=⟨p,_,rfl,DPut.k (k:=Sum.inl z) e hl,h _ Upd.of⟩
noncomputable def IT (x:V) (Q:VK) (y:V) (H:Hp):Prop:=∃ a v,x= .ref a∧DGet H a y (some v)∧Q v H
theorem N1 (h:td σ H fun x H1=>ty σ H1 (IT x Q)):Nv td ty σ H Q:=h
theorem xG {p:Addr} {kvs:List (Key×V)} {z:Int} (e:H p=some (.dK kvs)) (l:valV kvs (Sum.inl z)=some v) (h:Q v H):IT (.ref p) Q (.int z) H:=⟨p,v,rfl,by rw [← l];exact DGet.k (k:=Sum.inl z) e,h⟩
noncomputable def K9 (C:Addr) (m:Str) (sp:Sp) (E:XK) (tr:TA) (σ:St) (Q:VK) (x:V) (H:Hp):Prop:=∃ a dx fs,x= .ref a∧H a=some (.ins C dx fs)∧fs.lookup m=none∧tr σ H fun vs H2=>sp (x::(vs++[])) H2 Q E
theorem NN {C:Addr} {m:Str} {sp:Sp} {E:XK} {tr:TA} (h:te σ H (K9 C m sp E tr σ Q)):Ls C m sp [] E te tr σ H Q:=h
theorem jf {C dx p:Addr} {m:Str} {fs:List (Str×V)} {sp:Sp} {E:XK} {tr:TA} (e:H p=some (.ins C dx fs)) (l:fs.lookup m=none) (h:tr σ H fun vs H2=>sp (.ref p::vs) H2 Q E):K9 C m sp E tr σ Q (.ref p) H:=⟨p,dx,fs,rfl,e,l,by simp only [List.append_nil];exact h⟩
theorem LP {K:PySem.W.Frag} {p:Addr} {xs:List V} (e:SqL K H p xs) (h:∀ q H2,H q=none→Same H H2→H2 q=some (.lst xs)→Q (.ref q) H2):GJ K [.ref p] H Q:=⟨p,xs,rfl,.inl e,j1 h⟩
theorem ND {K:PySem.W.Frag} {p:Addr} {xs:List V} (e:SqL K H p xs) (h:∀ q H2,H q=none→Same H H2→H2 q=some (.tup xs)→Q (.ref q) H2):KP K [.ref p] H Q:=⟨p,xs,rfl,.inl ⟨e,j1 h⟩⟩
end
noncomputable def Mv (ch fr:List Addr) (h h':Heap):Prop:=(∀ b o,b∉ch→b∉fr→h.get? b=some o→h'.get? b=some o)∧∀ b o,b∉ch→b∈fr→h.get? b=some o→∃ sl,h'.get? b=some {o with slots:=sl}
noncomputable def IQ (h:Heap) (e:Addr) (C:Value) (dx:Option Addr) (T:Option (Addr×Value)):Prop:=
 ∃ oe vs,h.get? e=some oe∧oe.cls=C∧oe.dict=dx∧oe.data= .fields vs∧1 < vs.size∧
   match T with
   | none=>vs[1]? =some .none
   | some (t,fl)=>vs[1]? =some (.ref t)∧t≠e∧∃ oT ts,h.get? t=some oT∧oT.data= .fields ts∧ts[3]? =some fl
section
variable {M:Model} {A:Around} {E:Value→Shared→Prop} {s:Shared}
theorem Am {h:Heap} {a:Addr} {o:Obj} {vs:Array Value} {i:Nat} {v:Value} (ho:h.get? a=some o) (hd:o.data= .fields vs):
  ∃ o',(h.update a (Obj.mapFields (·.setIfInBounds i v))).get? a=some o'∧o'.cls=o.cls∧o'.dict=o.dict∧o'.data= .fields (vs.setIfInBounds i v):=by
 have hd':=Obj.data_mapFields hd (·.setIfInBounds i v)
 refine ⟨_,Heap.get?_update_self (Obj.mapFields (·.setIfInBounds i v)) ho (Obj.isFreed_of_fields hd'),Obj.cls_mapFields _ _,?_,hd'⟩
 obtain ⟨c,d,dt,sl⟩:=o
 have hd:dt= .fields vs:=hd
 subst hd
 rfl
theorem Ke {base:Heap} {env:Env} {outer:List Env} {L e:Addr} {oe:Obj} {vs:Array Value} {head:Value} {b:Bool} {Q:Unit→Shared→Prop}
  (hfr:A.frames=some (env::outer)) (hl:s.heap.FunFrames base (env::outer)) (hf:env.frame=some L) (he:s.heap.get? e=some oe) (hd:oe.data= .fields vs) (hsz:1 < vs.size)
  (h:∀ h',Mv [e] (frs (env::outer)) s.heap h'→IQ h' e oe.cls oe.dict (some (s.heap.objs.size,rawInt L))→Q () {s with heap:=h'}):
  wpAny M A (do let a ← frameOf env;let pl ← entryPlaceOf L b;let t ← EntryCells.newEntry head a .none (rawInt L) .none pl;setField (.ref e) 1 t) Q E s:=by
 have ne:e∉frs (env::outer):=fun hm=>by
  obtain ⟨_,o,ho,hnf⟩:=hl.mem hm
  rw [he] at ho;cases ho;exact hnf vs hd
 refine wpAny_bind (wpAny_frameOf_fun hfr hl hf fun g1 z1=>?_)
 refine wpAny_bind (wpAny_entryPlaceOf fun pl isp=>?_)
 unfold EntryCells.newEntry newFields
 refine wpAny_bind (wpAny_newObj_type ?_ (isp.sizeOk5 _ _ _ _ _))
 have e1:g1.get? e=some oe:=(z1.2.1 e ne).trans he
 have sz:g1.objs.size=s.heap.objs.size:=z1.1
 generalize hob:({cls:= .type "traceback",dict:=none,data:= .fields ([head,.ref L,.none,rawInt L,.none]++(if pl.isEmpty then List.replicate 6 Value.none else pl)).toArray}:Obj)=ob
 have e2:(g1.push ob).get? e=some oe:=Heap.get?_push_of_some ob e1
 refine wpAny_setField e2 hd hsz ?_
 have lt:e < g1.objs.size:=Heap.lt_size e1
 obtain ⟨o',q1,q2,q3,q4⟩:=Am (i:=1) (v:= .ref g1.objs.size) e2 hd
 have oth:∀ c,c≠e→((g1.push ob).update e (Obj.mapFields (·.setIfInBounds 1 (Value.ref g1.objs.size)))).get? c=(g1.push ob).get? c:=fun c hc=>Heap.get?_update_other _ _ (Ne.symm hc)
 have old:∀ c o,c≠e→g1.get? c=some o→((g1.push ob).update e (Obj.mapFields (·.setIfInBounds 1 (Value.ref g1.objs.size)))).get? c=some o:=fun c o hc q=>(oth c hc).trans (Heap.get?_push_of_some ob q)
 refine h _ ⟨fun c o n m q=>old c o (fun z=>n (by rw [z];exact List.mem_singleton.mpr rfl)) ((z1.2.1 c m).trans q),fun c o n m q=>?_⟩ ⟨o',_,q1,q2,q3,q4,by simpa using hsz,?_⟩
 ·obtain ⟨sl,q'⟩:=z1.2.2 c o q
  exact ⟨sl,old c _ (fun z=>n (by rw [z];exact List.mem_singleton.mpr rfl)) q'⟩
 ·have nt:g1.objs.size≠e:=Nat.ne_of_gt lt
  refine ⟨by rw [← sz];simp [hsz],by rw [← sz];exact nt,ob,_,?_,by rw [← hob],?_⟩
  ·rw [← sz,oth _ nt]
   exact Heap.get?_push_size g1 (by rw [← hob];rfl)
  ·first | (simp;done) | (rcases isp with rfl | ⟨_,_,_,_,_,_,_,rfl⟩<;>simp)
theorem HP {e t:Addr} {C:Value} {dx:Option Addr} {fl:Value} {fr:Option Addr} {Q:Unit→Shared→Prop} (x:IQ s.heap e C dx (some (t,fl)))
  (h:∀ h',(∀ b o,b≠t→s.heap.get? b=some o→h'.get? b=some o)→IQ h' e C dx (some (t,fr.elim .none fun f=>rawInt f))→Q () {s with heap:=h'}):wpAny M A (setFlight (.ref e) fr) Q E s:=by
 obtain ⟨oe,vs,he,hc,hdx,hd,hsz,h1,hte,oT,ts,hT,hdT,h3⟩:=x
 unfold setFlight
 refine wpAny_bind (wpAny_field he hd h1 ?_)
 rw [if_pos (show (Value.ref t != Value.none)=true from by simp)]
 refine wpAny_setField hT hdT (Array.getElem?_eq_some_iff.mp h3).1 ?_
 obtain ⟨o',q1,q2,q3,q4⟩:=Am (i:=3) (v:=fr.elim .none fun f=>rawInt f) hT hdT
 have oth:∀ c,c≠t→(s.heap.update t (Obj.mapFields (·.setIfInBounds 3 (fr.elim Value.none fun f=>rawInt f)))).get? c=s.heap.get? c:=fun c hc=>Heap.get?_update_other _ _ (Ne.symm hc)
 refine h _ (fun b o hb q=>(oth b hb).trans q) ⟨oe,vs,(oth e (Ne.symm hte)).trans he,hc,hdx,hd,hsz,h1,hte,o',_,q1,q4,?_⟩
 have:=(Array.getElem?_eq_some_iff.mp h3).1
 simp [this]
end
section
variable {X:Cx} {pins:List (Addr×Obj)} {σ:St} {H:Hp} {s:Shared}
theorem Inv.mv {h':Heap} {ch:List Addr} (I:Inv X pins σ H s) (m:Mv ch (frs X.stack) s.heap h') (fp:∀ b∈ch,FpOk X pins H b):Inv X pins σ H {s with heap:=h'}:=by
 have nit:∀ b u,H b=some u→b∉ch:=fun b u e z=>by rw [(fp b z).1] at e;cases e
 have nfr:∀ b u,H b=some u→b∉frs X.stack:=fun b u e z=>by rw [I.stkFree b z] at e;cases e
 have any:∀ b o,b∉ch→s.heap.get? b=some o→∃ sl,h'.get? b=some {o with slots:=sl}:=fun b o n e=>by
  by_cases z:b∈frs X.stack
  ·exact m.2 b o n z e
  ·exact ⟨o.slots,m.1 b o n z e⟩
 refine I.step (g':=s.gens) (d':=s.drawn) (t':=s.toks) (ch:=ch) (fun b hb=>?_) (fun b ob hL hb hc e _=>m.1 b ob hc (fun z=>(List.mem_cons.mp (I.stkSub b z)).elim hL hb) e) (fun b ob _ _ hc e _=>any b ob hc e) (fun b ob _ e n=>n) (fun b ob hc e=>let ⟨sl,q⟩:=any b ob hc e;⟨_,q⟩)
  (fun b xs e=>e) (fun b ob u e=>e) (fun b ps e=>⟨#[],by rw [e];simp⟩) (fun m' hm=>?_) (fun b u e=>?_) I.bare
 ·obtain ⟨f0,f1,f2,f3,f4,f5⟩:=fp b hb
  exact ⟨f3,f1,f4,f5⟩
 ·obtain ⟨ob,es,ep,ho,r⟩:=hm
  obtain ⟨sl,q⟩:=any _ ob (fun z=>(fp _ z).2.1 rfl) ho
  exact ⟨_,es,ep,q,r⟩
 ·refine (I.hok b u e).stay (fun c v hc q=>m.1 c v ?_ ?_ q) (fun c q=>q) fun c xs q=>q
  ·rcases hc with z | z
   ·rw [z];exact nit b u e
   ·exact nit c _ z
  ·rcases hc with z | z
   ·rw [z];exact nfr b u e
   ·exact nfr c _ z
theorem eB.there {P:Program} {w:World} {h:Heap} {a:Addr} {o:HO} (x:eB P w H h a o):∃ o',h.get? a=some o':=by
 cases o with
 | lst xs=>obtain ⟨_,_,_,_,e⟩:=x;exact ⟨_,e⟩
 | tup xs=>obtain ⟨_,_,_,_,e,_⟩:=x;exact ⟨_,e⟩
 | dK kvs=>obtain ⟨_,_,_,_,o,_,_,e,_⟩:=x;exact ⟨_,e⟩
 | dT kvs=>obtain ⟨_,_,_,_,o,_,_,e,_⟩:=x;exact ⟨_,e⟩
 | set S n=>obtain ⟨o,_,_,_,e,_⟩:=x;exact ⟨_,e⟩
 | ins C dx fs=>obtain ⟨_,_,_,e,_⟩:=x;exact ⟨_,e⟩
 | own y=>obtain ⟨_,e⟩:=x;exact ⟨_,e⟩
 | xd fs=>obtain ⟨_,⟨_,_,_,e,_⟩,_⟩:=x;exact ⟨_,e⟩
 | rng lo hi=>obtain ⟨_,_,_,e⟩:=x;exact ⟨_,e⟩
 | frz ob u=>obtain ⟨e,_⟩:=x;exact ⟨_,e⟩
 | tbl ps=>exact ⟨_,(show h.get? a=some _ from x)⟩
 | met f y=>exact ⟨_,(show h.get? a=some _ from x)⟩
 | ext φ=>obtain ⟨_,⟨_,e⟩,_⟩:=x;exact ⟨_,e⟩
theorem HOk.none_ {P:Program} {w:World} {h:Heap} {a:Addr} (x:HOk P w H h) (e:h.get? a=none):H a=none:=by
 cases q:H a with
 | none=>rfl
 | some u=>obtain ⟨o,z⟩:=(x a u q).there;rw [e] at z;cases z
noncomputable def FpN (X:Cx) (pins:List (Addr×Obj)) (H:Hp) (b:Addr):Prop:=
 H b=none∧b≠X.env.locals∧b∉X.fs∧(b∈X.ex∨X.s₀.heap.get? b=none)∧(∀ x c,X.env.cells.lookup x=some c→c≠b)∧∀ p∈X.pn++pins,p.1≠b
theorem FpOk.n {b:Addr} (f:FpOk X pins H b):FpN X pins H b:=⟨f.1,f.2.1,f.2.2.1,f.2.2.2.1.imp id Heap.get?_none_of_le,f.2.2.2.2⟩
theorem Inv.fpN {H':Hp} {b:Addr} (I:Inv X pins σ H s) (hb:s.heap.get? b=none) (hn:H' b=none):FpN X pins H' b:=by
 refine ⟨hn,fun z=>?_,fun z=>?_,?_,fun x c e z=>?_,fun p hp z=>?_⟩
 ·obtain ⟨m,⟨o,es,ep,ho,r⟩,_⟩:=I.loc
  rw [← z,hb] at ho;cases ho
 ·obtain ⟨_,o,ho,_⟩:=I.ok.funs.mem z
  obtain ⟨o',e'⟩:=I.base.there b o ho fun y=>I.ok.exfs b y z
  rw [hb] at e';cases e'
 ·by_cases z:b∈X.ex
  ·exact .inl z
  ·cases q:X.s₀.heap.get? b with
   | none=>exact .inr rfl
   | some o=>obtain ⟨o',e'⟩:=I.base.there b o q z;rw [hb] at e';cases e'
 ·obtain ⟨v,o,q,_⟩:=I.cell x c e
  rw [z,hb] at q;cases q
 ·have:=(I.pin p hp).1
  rw [z,hb] at this;cases this
theorem Inv.mvN {h':Heap} {ch:List Addr} (I:Inv X pins σ H s) (m:Mv ch (frs X.stack) s.heap h') (fp:∀ b∈ch,FpN X pins H b):Inv X pins σ H {s with heap:=h'}:=by
 have out:∀ b o,X.s₀.heap.get? b=some o→b∉X.ex→b∉ch++X.ex:=fun b o e n z=>by
  rcases List.mem_append.mp z with z | z
  ·rcases (fp b z).2.2.2.1 with y | y
   ·exact n y
   ·rw [e] at y;cases y
  ·exact n z
 have sub:∀ b,b∉ch++X.ex→b∉X.ex:=fun b n z=>n (List.mem_append_right _ z)
 have ok:Cx.Ok {X with ex:=ch++X.ex}:=⟨I.ok.mod,I.ok.kind,I.ok.glob,I.ok.blt,I.ok.above,I.ok.inj,I.ok.has,I.ok.cab,I.ok.hd,I.ok.frames,I.ok.stk,
  fun b hb=>(List.mem_append.mp hb).elim (fun z=>⟨(fp b z).2.1,(fp b z).2.2.2.2.1⟩) (I.ok.exf b),I.ok.bs,I.ok.bsz,fun b o e=>out b o (I.ok.bs b o e).1 (I.ok.noex b o e),
  fun b hb=>(List.mem_append.mp hb).elim (fun z=>(fp b z).2.2.1) (I.ok.exfs b),I.ok.funs,I.ok.frf⟩
 have U:=I.base
 have J:Inv {X with ex:=ch++X.ex} pins σ H s:=⟨ok,I.os,I.bare,⟨fun b o e n f z=>U.keep b o e n f (sub b z),fun b o e n f z=>U.slot b o e n f (sub b z),fun b o e n z=>U.free b o e n (sub b z),fun b o e z=>U.there b o e (sub b z),U.tups,U.frzs,U.tbls⟩,
  I.loc,I.cell,I.free,I.freeC,I.pin,I.hok,I.len⟩
 have J':=J.mv (h':=h') (ch:=ch) m fun b hb=>⟨(fp b hb).1,(fp b hb).2.1,(fp b hb).2.2.1,.inl (List.mem_append_left _ hb),(fp b hb).2.2.2.2⟩
 have V:=J'.base
 exact ⟨I.ok,J'.os,J'.bare,⟨fun b o e n f z=>V.keep b o e n f (out b o e z),fun b o e n f z=>V.slot b o e n f (out b o e z),fun b o e n z=>V.free b o e n (out b o e z),fun b o e z=>V.there b o e (out b o e z),V.tups,V.frzs,V.tbls⟩,
  J'.loc,J'.cell,J'.free,J'.freeC,J'.pin,J'.hok,J'.len⟩
structure Fly (X:Cx) (pins:List (Addr×Obj)) (H:Hp) (e:Addr) (C:Value) (dx:Option Addr) (T:Option (Addr×Value)) (h:Heap):Prop where
 at_:IQ h e C dx T
 fe:FpN X pins H e
 ft:∀ t fl,T=some (t,fl)→FpN X pins H t
noncomputable def Own (X:Cx):Prop:=X.stack=X.env::X.outer∧X.env.frame=some X.env.locals
theorem G3 {M:Model} {E:Value→Shared→Prop} {e:Addr} {C:Value} {dx:Option Addr} {T:Option (Addr×Value)} {Q:Unit→Shared→Prop} (I:Inv X pins σ H s) (ow:Own X) (f:Fly X pins H e C dx T s.heap)
  (h:∀ h' t,Inv X pins σ H {s with heap:=h'}→Fly X pins H e C dx (some (t,rawInt X.env.locals)) h'→Q () {s with heap:=h'}):wpAny M X.A (noteFrame (.ref e) X.env) Q E s:=by
 obtain ⟨ho,hf⟩:=ow
 have hfr:X.A.frames=some (X.env::X.outer):=by rw [I.ok.frames,ho]
 have hst:s.heap.FunFrames X.base (X.env::X.outer):=by rw [← ho];exact I.stack
 obtain ⟨⟨oe,vs,he,hc,hdx,hd,hsz,hT⟩,fe,ft⟩:=f
 have fin:∀ (s1:Shared) (oe1:Obj) (vs1:Array Value) (hd1:Value) (b1:Bool),Inv X pins σ H s1→s1.heap.objs.size=s.heap.objs.size→s1={s with heap:=s1.heap}→s1.heap.get? e=some oe1→oe1.cls=C→oe1.dict=dx→oe1.data= .fields vs1→1 < vs1.size→
   wpAny M X.A (do let a ← frameOf X.env;let pl ← entryPlaceOf X.env.locals b1;let t ← EntryCells.newEntry hd1 a .none (rawInt X.env.locals) .none pl;setField (.ref e) 1 t) Q E s1:=by
  intro s1 oe1 vs1 hd1 b1 I1 hz hs1 q1 q2 q3 q4 q5
  have hst1:s1.heap.FunFrames X.base (X.env::X.outer):=by rw [← ho];exact I1.stack
  refine Ke hfr hst1 hf q1 q4 q5 fun h' m x=>?_
  have I2:Inv X pins σ H {s1 with heap:=h'}:=I1.mvN (ch:=[e]) (by rw [ho];exact m) fun b hb=>by rw [List.mem_singleton.mp hb];exact fe
  have e2:({s1 with heap:=h'}:Shared)={s with heap:=h'}:=by rw [hs1]
  rw [e2] at I2 ⊢
  rw [q2,q3] at x
  exact h h' _ I2 ⟨x,fe,fun t fl z=>by cases z;exact (I1.fpOk (Nat.le_refl _) (I1.hok.fresh (Nat.le_refl _))).n⟩
 unfold noteFrame
 simp only [hf]
 cases T with
 | none=>
   have h1:vs[1]? =some .none:=hT
   refine wpAny_bind (wpAny_field he hd h1 ?_)
   rw [if_neg (by decide)]
   exact fin s oe vs _ _ I rfl rfl he hc hdx hd hsz
 | some p=>
   obtain ⟨t,fl⟩:=p
   obtain ⟨h1,hte,oT,ts,hTt,hdT,h3⟩:=hT
   refine wpAny_bind (wpAny_field he hd h1 ?_)
   rw [if_pos (show (Value.ref t != Value.none)=true from by simp)]
   refine wpAny_bind (wpAny_field hTt hdT h3 ?_)
   by_cases hz:(fl == rawInt X.env.locals)=true
   ·rw [if_pos hz]
    have hz':=eq_of_beq hz
    subst hz'
    exact wpAny_pure (h s.heap t I ⟨⟨oe,vs,he,hc,hdx,hd,hsz,h1,hte,oT,ts,hTt,hdT,h3⟩,fe,ft⟩)
   ·rw [if_neg hz]
    refine wpAny_bind (wpAny_setField hTt hdT (Array.getElem?_eq_some_iff.mp h3).1 ?_)
    have oth:∀ c,c≠t→(s.heap.update t (Obj.mapFields (·.setIfInBounds 3 Value.none))).get? c=s.heap.get? c:=fun c hc=>Heap.get?_update_other _ _ (Ne.symm hc)
    have m1:Mv [t] (frs X.stack) s.heap (s.heap.update t (Obj.mapFields (·.setIfInBounds 3 Value.none))):=
     ⟨fun b o n _ q=>(oth b (fun z=>n (by rw [z];exact List.mem_singleton.mpr rfl))).trans q,fun b o n _ q=>⟨o.slots,(oth b (fun z=>n (by rw [z];exact List.mem_singleton.mpr rfl))).trans q⟩⟩
    have I1:=I.mvN m1 fun b hb=>by rw [List.mem_singleton.mp hb];exact ft t fl rfl
    exact fin _ oe vs _ _ I1 (Heap.size_after_update ..) rfl ((oth e (Ne.symm hte)).trans he) hc hdx hd hsz
theorem K5 {M:Model} {A:Around} {E:Value→Shared→Prop} {e t:Addr} {C:Value} {dx:Option Addr} {fl:Value} {fr:Option Addr} {Q:Unit→Shared→Prop} (I:Inv X pins σ H s) (f:Fly X pins H e C dx (some (t,fl)) s.heap)
  (h:∀ h',Inv X pins σ H {s with heap:=h'}→Fly X pins H e C dx (some (t,fr.elim .none fun f=>rawInt f)) h'→Q () {s with heap:=h'}):wpAny M A (setFlight (.ref e) fr) Q E s:=by
 refine HP f.at_ fun h' k x=>h h' (I.mvN (ch:=[t]) ⟨fun b o n _ q=>k b o (fun z=>n (by rw [z];exact List.mem_singleton.mpr rfl)) q,fun b o n _ q=>⟨o.slots,k b o (fun z=>n (by rw [z];exact List.mem_singleton.mpr rfl)) q⟩⟩ fun b hb=>by rw [List.mem_singleton.mp hb];exact f.ft t fl rfl) ⟨x,f.fe,fun t' fl' z=>by cases z;exact f.ft t fl rfl⟩
end
noncomputable abbrev XW:=St→XK
noncomputable def XE (X:Cx) (W:XW) (e:Value) (s:Shared):Prop:=∃ pins x C dx T σ H,e= .ref x∧Inv X pins σ H s∧Fly X pins H x C dx T s.heap∧W σ C dx H
noncomputable def Thr (X:Cx) (W:XW):Prop:=∀ e s,XE X W e s→X.xe e s
noncomputable abbrev Cx.thr (X:Cx) (W:XW):Cx:=X.wish (XE X W)
noncomputable abbrev W0:XW:=fun _ _ _ _=>False
section
variable {X:Cx} {W:XW} {pins:List (Addr×Obj)} {σ:St} {H:Hp} {s:Shared}
theorem Fly.wish {E:Value→Shared→Prop} {e:Addr} {C:Value} {dx:Option Addr} {T:Option (Addr×Value)} {h:Heap} (f:Fly (X.wish E) pins H e C dx T h):Fly X pins H e C dx T h:=⟨f.at_,f.fe,f.ft⟩
theorem cP:Thr (X.thr W) W:=fun e s ⟨pins,x,C,dx,T,σ,H,he,I,f,w⟩=>⟨pins,x,C,dx,T,σ,H,he,I.unwish,f.wish,w⟩
theorem thr0:Thr X W0:=fun e s ⟨pins,x,C,dx,T,σ,H,he,I,f,w⟩=>w.elim
theorem Eb (ow:Own X):PassesOwn (model X.prog X.w) X.A X.env (XE X W):=by
 intro e s' ⟨pins,x,C,dx,T,σ,H,he,I,f,w⟩
 subst he
 unfold notedBy
 refine G3 I ow f fun h' t I' f'=>?_
 unfold cameBackBy
 obtain ⟨⟨oe,vs,q1,q2,q3,q4,q5,q6,q7⟩,fe,ft⟩:=id f'
 refine wpAny_bind (wpAny_field q1 q4 q6 ?_)
 rw [if_neg (by simp)]
 refine K5 I' f' fun h2 I2 f2=>?_
 rw [ow.2] at f2
 exact ⟨pins,x,C,dx,_,σ,H,rfl,I2,f2,w⟩
theorem jj (ow:Own X):PassesOwn (model X.prog X.w) X.A X.env (X.thr W).xe:=Eb ow
theorem PSs.thr {st:List Stmt} {t:TS} (h:PSs (X.thr W) st t) (k:Thr X W):PSs X st t:=fun pins s σ H D I hw=>
 wpAny_mono (h pins s σ H D (I.wish _) hw) (fun _ _ q=>q.unwish) k
end
noncomputable def CX1 (P:Program) (w:World):CXT:=fun outer H s E e s'=>∃ x C dx t H',e= .ref x∧s'.os=s.os∧AllBare s'.gens∧Un (frs outer) [] H H' s.heap s'.heap∧HOk P w H' s'.heap∧
 IQ s'.heap x C dx (some (t,.none))∧s.heap.get? x=none∧s.heap.get? t=none∧H' x=none∧H' t=none∧E C dx H'
section
variable {P:Program} {w:World} {K:PySem.W.Frag} {mg:Str→Option Value} {base:Heap}
theorem CT {N:List Str} {qual:Str} {scope:Scope} {f:Addr} {cd:Value} {A:Around} {outer:List Env} {s:Shared} {H:Hp} {E:XK}:
  Thr (cxOf (CX1 P w) P w K mg base N qual scope f cd A outer s H E) fun _=>E:=by
 intro e s' ⟨pins,x,C,dx,T,σ,H',he,I,f',wq⟩
 subst he
 have own:Own (cxOf (CX1 P w) P w K mg base N qual scope f cd A outer s H E):=⟨rfl,rfl⟩
 show wpAny _ _ (leaving _ _) _ _ _
 unfold leaving
 refine wpAny_bind (G3 I own f' fun h1 t I1 f1=>?_)
 refine K5 (fr:=none) I1 f1 fun h2 I2 f2=>?_
 have fx:=f2.fe
 have ft:=f2.ft t _ rfl
 have no:∀ b:Addr,(b∈([]:List Addr)∨s.heap.get? b=none)→s.heap.get? b=none:=fun b z=>z.elim (fun q=>absurd q (by simp)) id
 exact ⟨x,C,dx,t,H',rfl,I2.os,I2.bare,I2.base,I2.hok,f2.at_,no x fx.2.2.2.1,no t ft.2.2.2.1,fx.1,ft.1,wq⟩
theorem Fun.okX {x qual:Str} {st:Stmt} {f:Addr} {fd:FuncData} {N ps:List Str} {k:Nat} {sp:Sp} (F:Fun K x qual st f fd) (S:aD N ps (ag st)) (len:∀ vs H Q E,sp vs H Q E→vs.length=ps.length)
  (hbody:∀ (cdv:Value) (A:Around) (outer:List Env) (s:Shared) (H:Hp) (vs:List V) (Q:VK) (E:XK),Room k (A.deeper (envOfC qual (ag st) s.heap.objs.size f cdv))→sp vs H Q E→
   ∃ t,PSs ((cxOf (CX1 P w) P w K mg base N qual (ag st) f cdv A outer s H E).thr fun _=>E) (az st) t∧t {nx:=fun _ H'=>Q .non H',rt:=Q} (qV N vs) H):FnOk P w K mg base (CX1 P w) (k + 1) f fd ps sp:=by
 obtain ⟨oc,od,kV,doc,pm,an,cdv,ct,osl,rfl,lk,hcd⟩:=F.ex
 refine MH lk hcd S len fun A outer s H vs Q E hr hsp=>?_
 obtain ⟨t,h,q⟩:=hbody cdv A outer s H vs Q E hr hsp
 exact ⟨t,h.thr CT,q⟩
end
section
variable {X:Cx} {W:XW} {pins:List (Addr×Obj)} {σ:St} {H:Hp} {s s':Shared}
theorem Inv.afterX {e:Value} (I:Inv X pins σ H s) (hx:Thr X W) (h:CX1 X.prog X.w X.stack H s (W σ) e s'):X.xe e s':=by
 obtain ⟨x,C,dx,t,H',rfl,os,bare,un,hok,ea,zx,zt,nx,nt,w⟩:=h
 refine hx _ _ ⟨pins,x,C,dx,_,σ,H',rfl,I.call' (ch:=[]) os un hok bare (fun b z=>absurd z (by simp)),⟨ea,I.fpN zx nx,fun t' fl z=>?_⟩,w⟩
 cases z
 exact I.fpN zt nt
variable {k:Nat} {f C:Addr} {fd:FuncData} {ps:List Str} {sp:Sp} {dvs:List V} {ds:List Value} {x m:Str} {p pos apos:Pos} {e o:Expr} {es:List Expr} {ta:TE} {t:TA}
theorem GF {Q:VK} {us:List Value} {vs:List V} (F:FnOk X.prog X.w X.K X.mg X.base (CX1 X.prog X.w) k f fd ps sp) (hr:Room k X.A) (hb:bz X.K fd ps ds) (hd:Vals dvs ds) (hx:Thr X W)
  (I:Inv X pins σ H s) (r:Vals vs us) (h:sp (vs++dvs) H Q (W σ)):wpAny (model X.prog X.w) X.A (call (.ref f) us) (EP X pins σ Q) X.xe s:=by
 have r2:Vals (vs++dvs) (us++ds):=r.append hd
 have hl:(us++ds).length=ps.length:=by rw [← r2.length];exact F.len _ _ _ _ h
 refine wpAny_call (codeAny_mono (F.run X.A X.stack s H ⟨us,[]⟩ (us++ds) (vs++dvs) Q (W σ) hr I.env0 (hb s us I.kIn hl) r2 h) fun r s' hq=>?_)
 cases r with
 | error e=>exact I.afterX hx hq
 | ok fl=>
   cases fl with
   | ret u=>exact I.after hq
   | next=>exact False.elim hq
   | brk=>exact False.elim hq
   | cont=>exact False.elim hq
noncomputable def Gj (sp:Sp) (dvs:List V) (W:XW) (t:TA):TE:=fun σ H Q=>t σ H fun vs H1=>sp (vs++dvs) H1 Q (W σ)
theorem L5 {σ:St} {H:Hp} {Q:VK} {sp:Sp} {W:XW} {t:TA} (h:t σ H fun vs H1=>sp vs H1 Q (W σ)):Gj sp [] W t σ H Q:=by
 unfold Gj
 simpa using h
theorem xW (F:FnOk X.prog X.w X.K X.mg X.base (CX1 X.prog X.w) k f fd ps sp) (hr:Room k X.A) (hg:Gl X x) (hm:X.mg x=some (.ref f)) (hk:PySem.W.keepIn X.K (.ref f)=true) (hb:bz X.K fd ps ds) (hd:Vals dvs ds) (hx:Thr X W)
  (ha:PA X (e::es) t) (hdb:(x == ("__debug__":Str))=false:=by decide) (he:starEach (e::es) X.env=(false,eval e X.env)::starEach es X.env:=by rfl) (hpl:(backTo pos (starEach es X.env)).any (·.1)=false:=by rfl):
  PE X (.Call (.Name x p) (e::es) [] pos) (Gj sp dvs W t):=by
 intro pins s σ H Q I h
 refine wpAny_Call_Name_kw (ui I hg hm ?_ hdb)
 refine PySem.W.callWith_K (h₀:=X.base) I.ok.mod.kin hk (thn (ha pos pins s σ H _ I h) fun us s1 ⟨vs,H1,I1,r,q⟩=>⟨I1.kIn,?_⟩) he hpl
 exact GF F hr hb hd hx I1 r q
noncomputable def KG (C:Addr) (m:Str) (sp:Sp) (dvs:List V) (W:XW) (ta:TE) (t:TA):TE:=fun σ H Q=>ta σ H fun x H1=>∃ a dx fs,x= .ref a∧H1 a=some (.ins C dx fs)∧fs.lookup m=none∧
 t σ H1 fun vs H2=>sp (x::(vs++dvs)) H2 Q (W σ)
theorem cA {pl:Sem Bool} (he:PE X o ta) (c:Cls X.K C) (hm:Meth X.K C m f) (F:FnOk X.prog X.w X.K X.mg X.base (CX1 X.prog X.w) k f fd ps sp) (hr:Room k X.A) (hb:bz X.K fd ps ds) (hd:Vals dvs ds) (hx:Thr X W) (ha:PA X (e::es) t)
  (hst:starEach (e::es) X.env=(false,eval e X.env)::starEach es X.env:=by rfl) (hpl:(backTo pos (starEach es X.env)).any (·.1)=false:=by rfl)
  (ht:eval (.Call (.Attribute o m apos) (e::es) [] pos) X.env=(do
   let ov ← eval o X.env
   standAt apos.atName
   let (f,first) ← holding [ov] (getMethod ov m pl)
   callWith pos f first (backTo pos (starEach (e::es) X.env)) (backToKw pos (keywordEach [] X.env))):=by rfl):
  PE X (.Call (.Attribute o m apos) (e::es) [] pos) (KG C m sp dvs W ta t):=by
 intro pins s σ H Q I h
 refine PySem.W.methodCall_KW (pl:=pl) (thn (he pins s σ H _ I h) fun u s1 ⟨x,H1,I1,rx,a,dx,fs,ex,ea,l,q⟩=>?_) ht
 subst ex
 obtain rfl:u=Value.ref a:=rx
 refine pX I1 ea c hm l ?_
 refine PySem.W.callWith_K (first:=[.ref a]) (h₀:=X.base) I.ok.mod.kin hm.kp (thn (ha pos pins s1 σ H1 _ I1 q) fun us s2 ⟨vs,H2,I2,r,q2⟩=>⟨I2.kIn,?_⟩) hst hpl
 exact GF (us:= .ref a::us) (vs:= .ref a::vs) F hr hb hd hx I2 (.cons rfl r) q2
end
structure XCls (h:Heap) (C:Addr) (bmB:List Value) (newId:String):Prop where
 obj:∃ bm N nm q bs hdct sn sub ab col dd k0 k1 k2 k3 k5 mN,h.get? C=some (excClassObj nm q C N bs bm hdct sn sub ab col dd k0 k1 k2 k3 k5 newId)∧h.Ns N mN∧mN "__init__"=none∧OwnTail h bmB bm
theorem Lp {K:PySem.W.Frag} {h:Heap} {C:Addr} {bmB:List Value} {newId:String} (X:K.In h) (q:PySem.W.excIn K C bmB newId=true):XCls h C bmB newId:=by
 refine ⟨?_⟩
 unfold PySem.W.excIn at q
 split at q
 next dd cd sl ho=>
  split at q
  next C' bm k0 k1 k2 k3 n k5 hm hs=>
   simp only [Bool.and_eq_true,beq_iff_eq,Bool.not_eq_true'] at q
   obtain ⟨⟨⟨⟨⟨e1,e2⟩,hdel⟩,ht⟩,hok⟩,hni⟩:=q
   subst e1 e2
   cases cd with
   | mk nm bs mro ns qn hd sn sub ab col del=>
   have hm:mro=_:=hm
   have hdel:del=false:=hdel
   subst hm hdel
   have hsl:sl=#[k0,k1,k2,k3,some (.builtin n),k5]:=by rw [← hs]
   subst hsl
   exact ⟨bm,ns,nm,qn,bs,hd,sn,sub,ab,col,dd,k0,k1,k2,k3,k5,_,X _ _ ho,.of_isNs (PySem.W.isNs_of_in X hok),PySem.W.nsMap_none_of_in X hok hni,PySem.W.tail_of_in X ht⟩
  next=>cases q
 next=>cases q
section
variable {X:Cx} {W:XW} {C:Addr} {x:Str} {np cpos pos:Pos} {e:Expr} {es:List Expr} {t:TA} {B newId initId:String} {bmB:List Value}
noncomputable def KF (C:Addr) (W:XW) (t:TA):TS:=fun _ σ H=>t σ H fun vs H1=>vs.length≤sizeLine∧W σ (.ref C) none H1
theorem Mq {pins:List (Addr×Obj)} {σ:St} {H:Hp} {s:Shared} {h':Heap} {a:Addr} {vs:List Value} (I:Inv X pins σ H s) (m:Heap.MadeExcOf s.heap h' a (.ref C) vs):
  Inv X pins σ H {s with heap:=h'}∧Fly X pins H a (.ref C) none none h':=by
 obtain ⟨tt,q1,q2,q3⟩:=m.there
 exact ⟨I.mvN (ch:=[]) ⟨fun b o _ _ e=>m.keeps b o e,fun b o _ _ e=>⟨o.slots,m.keeps b o e⟩⟩ fun b z=>absurd z (by simp),⟨⟨_,_,q1,rfl,rfl,rfl,by simp,by simp⟩,I.fpN m.new (I.hok.none_ m.new),fun t fl z=>by cases z⟩⟩
theorem ji (FB:ExcBaseFacts B newId initId bmB) (q:PySem.W.excIn X.K C bmB newId=true) (hx:Thr X W) (hc:X.calm=true) (hg:Gl X x) (hm:X.mg x=some (.ref C)) (ha:PA X (e::es) t)
  (hdb:(x == ("__debug__":Str))=false:=by decide) (he:starEach (e::es) X.env=(false,eval e X.env)::starEach es X.env:=by rfl) (hpl:(backTo cpos (starEach es X.env)).any (·.1)=false:=by rfl):
  PS X (.Raise (some (.Call (.Name x np) (e::es) [] cpos)) none pos) (KF C W t):=by
 intro pins s σ H D I h
 obtain ⟨tl,N,nm,qn,bs,hdct,sn,sub,ab,col,dd,k0,k1,k2,k3,k5,mN,hC,hN,hni,T⟩:=(Lp I.ok.mod.kin q).obj
 refine wpAny_Raise_call_subT (C:=C) (nm:=nm) (q:=qn) (N:=N) (bs:=bs) (bm:=tl) (hdct:=hdct) (sn:=sn) (sub:=sub) (ab:=ab) (col:=col) (dd:=dd) (k0:=k0) (k1:=k1) (k2:=k2) (k3:=k3) (k5:=k5)
  FB (mN:=mN) (T.hasType FB.hasBase) (I.ok.hd hc) (by rw [he];show (false||(backTo cpos (starEach es X.env)).any (·.1))=false;rw [hpl];rfl) hni (ui I hg hm ⟨rfl,?_⟩ hdb)
 have ha':=ha cpos pins s σ H _ I h
 rw [he] at ha' ⊢
 refine Calls.evalArgs_plain (wpAny_mono ha' (fun us s2 ⟨vs,H1,I1,r,z,w⟩=>⟨rfl,?_,I1.bk _ _ hC,hN.keeps I1.bk,T.keeps I1.bk,fun h' a m=>?_⟩) fun _ _ y=>y)
 ·show us.length≤_
  rw [← r.length];exact z
 ·obtain ⟨I2,f2⟩:=Mq I1 m
  exact hx _ _ ⟨pins,a,.ref C,none,none,σ,H1,rfl,I2,f2,w⟩
end
structure M7 (K:PySem.W.Frag) (G:Addr):Prop where
 ty:PySem.W.typeIn K (.ref G)=some (.type "type")
 cls:PySem.W.isClsIn K G=true
 base:PySem.W.mroIn K G (.type "BaseException")=some true
section
variable {X:Cx} {pins:List (Addr×Obj)} {σ:St} {H:Hp} {s:Shared}
theorem Inv.track {x:Addr} {o:HO} (I:Inv X pins σ H s) (f:FpN X pins H x) (new:eB X.prog X.w (upd H x o) s.heap x o):Inv X pins σ (upd H x o) s:=by
 obtain ⟨f0,f1,f2,f3,f4,f5⟩:=f
 have ne:∀ b u,H b=some u→b≠x:=fun b u e z=>by rw [z,f0] at e;cases e
 have old:∀ b u,H b=some u→upd H x o b=some u:=fun b u e=>by rw [aL (ne b u e)];exact e
 have U:=I.base
 refine ⟨I.ok,I.os,I.bare,⟨U.keep,U.slot,fun b ob e n hx=>?_,U.there,fun b xs e=>old b _ (U.tups b xs e),fun b ob u e=>old b _ (U.frzs b ob u e),fun b ps e=>?_⟩,I.loc,I.cell,?_,fun y c e=>?_,fun p hp=>?_,fun b ob e=>?_,I.len⟩
 ·rw [aL (fun z=>?_)]
  ·exact U.free b ob e n hx
  ·subst z
   rcases f3 with y | y
   ·exact hx y
   ·rw [e] at y;cases y
 ·obtain ⟨m,q⟩:=U.tbls b ps e
  exact ⟨m,old b _ q⟩
 ·rw [aL (Ne.symm f1)];exact I.free
 ·rw [aL (f4 y c e)];exact I.freeC y c e
 ·obtain ⟨e,n,r⟩:=I.pin p hp
  exact ⟨e,by rw [aL (f5 p hp)];exact n,r⟩
 ·by_cases z:b=x
  ·subst z
   rw [bf] at e
   cases e
   exact new
  ·rw [aL z] at e
   exact (I.hok b ob e).stay (fun _ _ _ q=>q) (fun c q=>old c _ q) fun c xs q=>old c _ q
end
noncomputable def ExcO (x:Addr) (C:Value) (dx:Option Addr):HO:= .ext fun h=>∃ oe vs,h.get? x=some oe∧oe.cls=C∧oe.dict=dx∧oe.data= .fields vs
noncomputable abbrev Cx.pin (X:Cx) (pins:List (Addr×Obj)):Cx:={X with pn:=X.pn++pins}
noncomputable abbrev Cx.mark (X:Cx) (pins:List (Addr×Obj)) (e:Value):Cx:={X with A:=X.A.mark (some e),calm:=false,pn:=X.pn++pins,xe:=fun _ _=>False}
noncomputable def Ends.less (D:Ends) (i:Nat):Ends:={nx:=fun σ H=>D.nx (σ.set i none) H,rt:=D.rt,bk:=fun σ H=>D.bk (σ.set i none) H,ct:=fun σ H=>D.ct (σ.set i none) H}
noncomputable def WTry (K:PySem.W.Frag) (G:Addr) (i:Nat) (Wo:XW) (ts:TS) (D:Ends):XW:=fun σ C dx H=>∃ c,C= .ref c∧((PySem.W.mroIn K c (.ref G)=some true∧∀ x,H x=none→ts (D.less i) (σ.set i (some (.ref x))) (upd H x (ExcO x C dx)))∨
 (PySem.W.mroIn K c (.ref G)=some false∧Wo σ C dx H))
structure XIsi (K:PySem.W.Frag) (D:Addr):Prop where
 cls:PySem.W.isClsIn K D=true
 ga:PySem.W.findIn K (.ref D) "__getattribute__"=some (some (.builtin "BaseException.__getattribute__"))
 gr:PySem.W.findIn K (.ref D) "__getattr__"=some none
 ha:PySem.W.findIn K (.ref D) "__class__"=some (some (.builtin "object.__class__"))
 hn:PySem.W.specialIn K (.builtin "object.__class__") "__get__"=some (some (.builtin "getset_descriptor.__get__"))
 tk:PySem.W.takesIn K (.builtin "object.__class__")=some true
 hm:PySem.W.mroIn K D (.type "object")=some true
 base:PySem.W.mroIn K D (.type "BaseException")=some true
noncomputable def dV:V→Value
 | .ref a=> .ref a
 | .ty n=> .type n
 | _=> .none
section
variable {σ:St} {H:Hp} {Q:VK} {D:Ends} {W:XW} {t:TA}
theorem LO {C:Addr} (h:t σ H fun vs H1=>vs.length≤sizeLine∧W σ (.ref C) none H1):KF C W t D σ H:=h
end
theorem Bl {X:Cx} {K:PySem.W.Frag} {es:List Expr} {k:Nat} {t:TGs} {n:Nat} {pos:Pos} (h:X.K=K) (hc:X.calm=true) (ht:PGs X es t)
  (hn:(assignEach es X.env).length=n:=by rfl) (hst:(assignEach es X.env).findIdx? (·.1)=none:=by rfl):PG X (.Tuple es k pos) (gTup K n t):=by subst h;exact qz hc ht hn hst
noncomputable def J4 (kvs:List (Key×V)):List V:=kvs.map fun kv=>kV kv.1
theorem GH {k:Key} {v:Value} (h:zX k v=true):RelV (kV k) v:=by
 rcases cv h with ⟨i,t,rfl,rfl⟩ | ⟨x,t,rfl,rfl⟩
 ·exact ⟨t,rfl⟩
 ·exact ⟨t,rfl⟩
theorem zo {α β:Type} {F:α→β→Prop}:∀ {l:List α} {m:List β},l.length=m.length→(∀ (i:Nat) (a:α) (b:β),l[i]? =some a→m[i]? =some b→F a b)→Paired F l m
 | [],[],_,_=> .nil
 | a::l,b::m,hl,h=> .cons (h 0 a b rfl rfl) (zo (by simpa using hl) fun i x y hx hy=>h (i + 1) x y (by simpa using hx) (by simpa using hy))
 | [],_::_,hl,_=>by simp at hl
 | _::_,[],hl,_=>by simp at hl
section
variable {σ:St} {H:Hp} {Q:VK} {D:Ends} {te ty tv td:TE} {x y v:V}
noncomputable def M6 (y:V) (Q:VK) (x:V) (H:Hp):Prop:=∃ a o,x= .ref a∧DGet H a y o∧Q (.bl o.isSome) H
theorem PL (h:ty σ H fun y H1=>td σ H1 (M6 y Q)):tDIn ty td σ H Q:=h
theorem CD {p:Addr} {kvs:List (Key×V)} {z:Int} (e:H p=some (.dK kvs)) (h:Q (.bl (valV kvs (Sum.inl z)).isSome) H):M6 (.int z) Q (.ref p) H:=⟨p,_,rfl,DGet.k (k:=Sum.inl z) e,h⟩
noncomputable def IS (y:V) (Q:VK) (x:V) (H:Hp):Prop:=∃ a o,x= .ref a∧DGet H a y o∧Q (.bl (!o.isSome)) H
theorem NY (h:ty σ H fun y H1=>td σ H1 (IS y Q)):Gi ty td σ H Q:=h
theorem xF {p:Addr} {kvs:List (Key×V)} {z:Int} (e:H p=some (.dK kvs)) (h:Q (.bl (!(valV kvs (Sum.inl z)).isSome)) H):IS (.int z) Q (.ref p) H:=⟨p,_,rfl,DGet.k (k:=Sum.inl z) e,h⟩
theorem Jz {k:Int} {v:V} (h:∀ p H2,H p=none→Same H H2→H2 p=some (.dK [(Sum.inl k,v)])→Q (.ref p) H2):Nr [(tC (.int k),tC v)] σ H Q:=by
 intro p hp
 refine ⟨bf,[(Sum.inl k,v)],rfl,Nat.le_of_ble_eq_true rfl,?_⟩
 rw [Lr]
 exact h p _ hp (fP hp) bf
theorem L4 {l b:Addr} {xs zs:List V} (e:H l=some (.lst xs)) (e':H b=some (.lst zs)) (hz:xs.length + zs.length≤sizeLine) (h:∀ p H2,H p=none→Same H H2→H2 p=some (.lst (xs++zs))→Q (.ref p) H2):rCat (.ref l) (.ref b) H Q:=⟨l,b,xs,zs,rfl,rfl,e,e',hz,j1 h⟩
end
theorem CV:∀ {ns:List Int} {us:List Value},Vals (ns.map V.int) us→IntsAre us ns
 | [],us,r=>by cases r;exact .nil
 | n::ns,us,r=>by
   rw [List.map_cons] at r
   cases r with
   | cons h t=>obtain ⟨t',rfl⟩:=h;exact .cons _ _ (CV t)
theorem Hz:∀ {ns:List Int} {us:List Value},IntsAre us ns→Vals (ns.map V.int) us:=sT
section
variable {prog:Program} {w:World} {A:Around} {E:Value→Shared→Prop} {s:Shared} {d:Addr} {vs:List (Key×Value)} {ep:Nat}
theorem Ea:plainId "list.__iadd__"=true:=by decide +kernel
theorem Ax {Q:List Value→Shared→Prop} (hh:A.handled=none) (lo:(d == sysModules)=false) (hat:s.heap.DictAt (bY prog w) d vs ep) (hn:vs.length≤sizeLine)
  (h:∀ h' tk (acc:Array Value),(∀ b o,s.heap.get? b=some o→h'.get? b=some o)→s.heap.objs.size < h'.objs.size→ItemsOf (fun i v=>∃ k x,vs[i]? =some (k,x)∧(bY prog w).is k v=true) acc vs.length→Q acc.toList {s with heap:=h',toks:=tk}):
  wpAny (model prog w) A (collect (.ref d)) Q E s:=by
 unfold collect
 refine wpAny_bind (wpAny_runValue (codeAny_builtin entry_proto_collect' ?_))
 show wpAny _ _ (do again (.builtin "list.__iadd__" ⟨[← newList [],.ref d],[]⟩)) _ _ s
 refine wpAny_bind (wpAny_newList (wpAny_pure ⟨Code.quiet_builtin _ (by decide +kernel),codeAny_builtin entry_list_iadd' ?_⟩))
 rw [Around.under_plainId Ea _]
 show wpAny _ _ (Builtin.List.listExtendWith (.ref s.heap.objs.size) (.ref d) (.ref s.heap.objs.size)) _ _ {s with heap:=s.heap.push (seqObj "list" #[] 0)}
 have hlt:=hat.lt_size
 refine PySem.W.kdl_extend (R:=fun r s'=>match r with
   | Except.ok (Flow.ret v)=>wpAny (model prog w) A (match v with
     | Value.ref a=>do
       let o ← load a
       match o.data with
       | .seq xs _=>pure xs.toList
       | _=>unsupported "internal:collect"
     | _=>unsupported "internal:collect") Q E s'
   | Except.ok _=>False
   | Except.error e=>E e s') (s:={s with heap:=s.heap.push (seqObj "list" #[] 0)}) (PySem.W.kdl_dict (knd:=bY prog w) (kvs:=vs) (ep:=ep) lo) hh (hat.push _) s.heap.objs.size (Nat.ne_of_gt hlt) (Nat.ne_of_gt hlt) _ 0 (Heap.get?_push_size _ rfl) (fun h' tk acc' c' hk hS hacc=>?_) hn
 show wpAny (model prog w) A (do
   let o ← load s.heap.objs.size
   match o.data with
   | .seq xs _=>pure xs.toList
   | _=>unsupported "internal:collect") Q E {s with heap:=h',toks:=tk}
 refine wpAny_bind (wpAny_load hS ?_)
 exact wpAny_pure (h h' tk acc' (fun b o e=>hk b o (Nat.ne_of_lt (Heap.lt_size e)) (Heap.get?_push_of_some _ e)) (Heap.lt_size hS) hacc)
theorem A9 {Q:Value→Shared→Prop} {ks:List Int} (hh:A.handled=none) (lo:(d == sysModules)=false) (hat:s.heap.DictAt (bY prog w) d vs ep) (hn:vs.length≤sizeLine) (hk:vs.map (·.1)=ks.map Sum.inl) (h64:vs.length < 64)
  (h:∀ h' tk a (out:Array Value) (e:Nat) (ns':List Int),(∀ b o,s.heap.get? b=some o→h'.get? b=some o)→s.heap.objs.size≤a→h'.get? a=some (seqObj "list" out e)→IntsAre out.toList ns'→ns'.Perm ks→ns'.Pairwise (·≤·)→Q (.ref a) {s with heap:=h',toks:=tk}):
  wpAny (model prog w) A (call (.builtin "sorted") [.ref d]) Q E s:=by
 refine Calls.call_function_entry kind_sorted plain_sorted entry_sorted (args_sorted1 _) ?_
 unfold Builtin.«sorted»
 refine wpAny_bind (m:=checkCount "sorted" 1 1 _) (wpAny_pure ?_)
 refine wpAny_bind (Ax (by exact hh) lo hat hn fun h' tk acc hk' hsz hacc=>?_)
 have hlen:(ks.map V.int).length=acc.toList.length:=by
  have e1:=congrArg List.length hk
  rw [List.length_map,List.length_map] at e1
  have e2:acc.toList.length=vs.length:=by rw [Array.length_toList];exact hacc.1
  rw [List.length_map];omega
 have hI:IntsAre acc.toList ks:=by
  refine CV (zo hlen fun i a b ha hb=>?_)
  rw [List.getElem?_map] at ha
  obtain ⟨k,hki,rfl⟩:=Option.map_eq_some_iff.mp ha
  rw [Array.getElem?_toList] at hb
  obtain ⟨k',x,hx,hki'⟩:=hacc.2 i b hb
  have e1:(vs.map (·.1))[i]? =some k':=by rw [List.getElem?_map,hx];rfl
  rw [hk,List.getElem?_map,hki] at e1
  have e1:=Option.some.inj e1
  subst e1
  exact GH (show zX (Sum.inl k) b=true from hki')
 have hal:acc.toList.length < 64:=by rw [Array.length_toList,hacc.1];exact h64
 refine wpAny_bind (wpAny_newList ?_)
 have hoL:(h'.push (seqObj "list" acc.toList.toArray 0)).get? h'.objs.size=some (seqObj "list" acc.toList.toArray 0):=Heap.get?_push_size _ rfl
 show wpAny _ _ _ _ _ {s with heap:=h'.push (seqObj "list" acc.toList.toArray 0),toks:=tk}
 refine wpAny_bind (wpAny_holding (wpAny_call_entry slot_list_sort ⟨_,hoL,rfl⟩ entry_list_sort (list_sort_tree hoL hI hal fun out ns' a1 a2 a3=>⟨_,rfl,?_⟩) (args_list_sort _)))
 obtain ⟨e,he⟩:=sortedHeap_at (out:=out) hoL
 refine wpAny_pure ⟨_,rfl,h _ tk h'.objs.size out e ns' (fun b o hb=>?_) ?_ he a1 a2 a3⟩
 ·have hlt:=Heap.lt_size (hk' b o hb)
  rw [sortedHeap_old (Nat.ne_of_lt hlt) (by rw [size_push'];exact Nat.lt_succ_of_lt hlt)]
  exact Heap.get?_push_of_some _ (hk' b o hb)
 ·exact Nat.le_of_lt hsz
end
noncomputable def KQ:List V→Hp→VK→Prop:=fun xs H Q=>∃ (p:Addr) (ks:List Int) (kvs:List (Key×V)),xs=[.ref p]∧H p=some (.dK kvs)∧kvs.map (·.1)=ks.map Sum.inl∧kvs.length < 64∧
 ∀ (l:Addr) (ns:List Int),H l=none→ns.Perm ks→ns.Pairwise (·≤·)→Q (.ref l) (upd H l (.lst (ns.map V.int)))
theorem Fi {X:Cx} (hc:X.calm=true):sM X (.builtin "sorted") KQ:=by
 intro pins s σ H xs us Q I r h
 obtain ⟨p,ks,kvs,rfl,hp,hk,h64,q⟩:=h
 obtain ⟨u,rfl,rx⟩:=F7 r
 cases rx
 obtain ⟨hz,lo,vs,rel,dd⟩:=Kk I.hok hp
 obtain ⟨ep,hat⟩:=dd.dictAt
 refine A9 (ks:=ks) (I.ok.hd hc) lo hat (by rw [← rel.length];exact hz) (by rw [← rel.keys];exact hk) (by rw [← rel.length];exact h64) fun h' tk a out e ns' kp ha he hi hpm hpw=>?_
 have rv:=Hz hi
 have hl:(ns'.map V.int).length≤sizeLine:=by
  have e1:=congrArg List.length hk
  rw [List.length_map,List.length_map] at e1
  rw [List.length_map,hpm.length_eq,← e1]
  exact hz
 refine ⟨.ref a,_,I.laid (t':=tk) kp ha (show eB X.prog X.w _ h' _ (.lst (ns'.map V.int)) from ⟨hl,out.toList,e,rv,by simpa using he⟩),rfl,q _ ns' (I.hok.fresh ha) hpm hpw⟩
section
variable {H:Hp} {Q:VK}
theorem LM {p:Addr} {kvs:List (Key×V)} {ks:List Int} (e:H p=some (.dK kvs)) (hk:kvs.map (·.1)=ks.map Sum.inl) (h64:kvs.length < 64) (h:∀ (l:Addr) (ns:List Int) (H2:Hp),H l=none→Same H H2→H2 l=some (.lst (ns.map V.int))→ns.Perm ks→ns.Pairwise (·≤·)→Q (.ref l) H2):KQ [.ref p] H Q:=
 ⟨p,ks,kvs,rfl,e,hk,h64,fun l ns hl hp hw=>h l ns _ hl (fP hl) bf hp hw⟩
end
open AutoSeq1 (wpAny_loadPart')
section
variable {prog:Program} {w:World} {A:Around} {E:Value→Shared→Prop} {s:Shared}
theorem pK {it t:Addr} {i:Nat} {items:Array Value} {x:Value} {Q:Value→Shared→Prop} (hit:s.heap.IsTupleIter it t i) (ht:s.heap.IsTuple t items) (hx:items[i]? =some x)
  (hQ:∀ h',h'.IsTupleIter it t (i + 1)→Heap.SameBut it s.heap h'→Q x {s with heap:=h'}):
  wpAny (model prog w) A (Builtin.SmallTypes.nextOf (.ref it)) Q E s:=by
 obtain ⟨o,ho,hc,hd⟩:=id hit
 obtain ⟨ol,hol,_,nl,hdl⟩:=ht
 unfold Builtin.SmallTypes.nextOf
 refine wpAny_bind (wpAny_callSpecial?_slot (name:=Str.ofString "__next__") hit.typeIs F.slot_tuple_iterator_next
  (wpAny_call_entry F.slot_tuple_iterator_next hit.typeIs F.entry_tuple_iterator_next ?_ (F.args_tuple_iterator_next_1 _)))
 show wpAny _ _ (field (.ref it) 0 >>=_) _ _ s
 refine wpAny_bind (wpAny_field ho hd (x:= .ref t) rfl ?_)
 show wpAny _ _ (if (Value.ref t == Value.none)=true then _ else _) _ _ s
 rw [if_neg (show ¬ ((Value.ref t == Value.none)=true) from Bool.false_ne_true)]
 show wpAny _ _ (field (.ref it) 1 >>=_) _ _ s
 refine wpAny_bind (wpAny_field ho hd (x:= .int i 0) rfl ?_)
 show wpAny _ _ (seqItems? (.ref t) >>=_) _ _ s
 refine wpAny_bind (wpAny_seqItems hol hdl ?_)
 simp only [Int.toNat_natCast,hx]
 refine wpAny_bind (wpAny_setField ho hd (by simp) (wpAny_pure ⟨x,rfl,wpAny_pure (hQ _ ?_ (Heap.SameBut.update ..))⟩))
 exact ⟨_,Heap.get?_update_self _ ho (Obj.isFreed_of_fields (Obj.data_mapFields hd _)),(Obj.cls_mapFields ..).trans hc,by
  rw [Obj.data_mapFields hd];simp [rawInt]⟩
theorem rL {it t:Addr} {i:Nat} {items:Array Value} {Q:Value→Shared→Prop} (hh:A.handled=none) (hit:s.heap.IsTupleIter it t i) (ht:s.heap.IsTuple t items) (hx:items[i]? =none)
  (hE:∀ h' e,Heap.ExtBut it s.heap h'→(∃ o,h'.get? e=some o∧o.cls= .type "StopIteration")→E (.ref e) {s with heap:=h'}):
  wpAny (model prog w) A (Builtin.SmallTypes.nextOf (.ref it)) Q E s:=by
 obtain ⟨o,ho,hc,hd⟩:=id hit
 obtain ⟨ol,hol,_,nl,hdl⟩:=ht
 unfold Builtin.SmallTypes.nextOf
 refine wpAny_bind (wpAny_callSpecial?_slot (name:=Str.ofString "__next__") hit.typeIs F.slot_tuple_iterator_next
  (wpAny_call_entry F.slot_tuple_iterator_next hit.typeIs F.entry_tuple_iterator_next ?_ (F.args_tuple_iterator_next_1 _)))
 show wpAny _ _ (field (.ref it) 0 >>=_) _ _ s
 refine wpAny_bind (wpAny_field ho hd (x:= .ref t) rfl ?_)
 show wpAny _ _ (if (Value.ref t == Value.none)=true then _ else _) _ _ s
 rw [if_neg (show ¬ ((Value.ref t == Value.none)=true) from Bool.false_ne_true)]
 show wpAny _ _ (field (.ref it) 1 >>=_) _ _ s
 refine wpAny_bind (wpAny_field ho hd (x:= .int i 0) rfl ?_)
 show wpAny _ _ (seqItems? (.ref t) >>=_) _ _ s
 refine wpAny_bind (wpAny_seqItems hol hdl ?_)
 simp only [Int.toNat_natCast,hx]
 refine wpAny_bind (wpAny_rule (wpAny_bind (wpAny_setField ho hd (by simp) ?_)))
 show wpAny _ _ (newExc (.type "StopIteration") [] >>=_) _ _ _
 refine wpAny_bind ?_
 simp only [newExc,newTuple]
 refine wpAny_bind (wpAny_newObj_type ?_ (by size_fits))
 refine wpAny_bind (m:=firstArgMember _ _) (wpAny_of_eq (a:=Value.none) (by first | rfl | (simp only [firstArgMember];rfl)) ?_)
 refine wpAny_newObj_type ?_ (by size_fits)
 simp only [raiseNew]
 refine wpAny_bind (wpAny_handled ?_)
 first | rw [show A.in1.handled=none from hh] | rw [hh]
 refine wpAny_bind (wpAny_pure (wpAny_throw ?_))
 exact hE _ _ (((Heap.SameBut.update ..).extBut.push _).push _) ⟨_,Heap.get?_push_size _ rfl,rfl⟩
end
theorem Draws.tuple {prog:Program} {w:World} {A:Around} (hh:A.handled=none) (it l:Addr) (hne:l≠it) (items:Array Value):
  Draws prog w A it [it,l] items.size (fun i v=>items[i]? =some v) (fun i h=>h.IsTupleIter it l i∧h.IsTuple l items) where
 live:=fun _ _ st=>let ⟨o,ho,_⟩:=st.1;⟨o,ho⟩
 frame:=fun _ _ _ st hk=>⟨let ⟨o,ho,r⟩:=st.1;⟨o,hk it (by simp) o ho,r⟩,let ⟨o,ho,r⟩:=st.2;⟨o,hk l (by simp) o ho,r⟩⟩
 item:=fun i s Q E hi st hQ=>by
  refine pK st.1 st.2 (x:=items[i]) (by simp [hi]) fun h' hit' hs'=>?_
  exact hQ _ h' s.toks (by simp [hi]) ⟨hit',st.2.extBut hs'.extBut hne⟩ hs'
 done:=fun s Q E st hE=>rL hh st.1 st.2 (by simp) hE
theorem lH (l:Addr) (items:Array Value) (n:Nat) (dct:Option Addr) (sl:Array (Option Value)):
  Meets (Builtin.«enumerate.__new__» ⟨[.type "enumerate",.ref l],[]⟩) (fun _ R s=>s.heap.get? l=some {cls:= .type "tuple",dict:=dct,data:= .seq items n,slots:=sl}∧
   R (.ok (.ret (.ref (s.heap.push {cls:= .type "tuple_iterator",data:= .fields #[.ref l,.int 0 0]}).objs.size)))
     {s with heap:=(s.heap.push {cls:= .type "tuple_iterator",data:= .fields #[.ref l,.int 0 0]}).push {cls:= .type "enumerate",data:= .fields #[.none,.bool false,.ref s.heap.objs.size,rawInt 0,.none,.none]}}):=
 .of_wp fun prog w A R s h=>by
  obtain ⟨hp,g,d,tk,os⟩:=s;obtain ⟨hl,h⟩:=h
  have hsub:=sub_enumerate
  have hL:Heap.IsTuple (Shared.heap ⟨hp,g,d,tk,os⟩) l items:=⟨_,hl,rfl,n,rfl⟩
  wp_walk using wpAny_loadPart' hl
  refine wpAny_stack_any fun st=>wpAny_pure ?_
  split
  ·rename_i c _ _ _ _ _
   cases (c == Value.type "enumerate")
   ·wp_walk using wpAny_loadPart' hl,wpAny_pyIter_tuple hL
    exact ⟨_,rfl,h⟩
   ·wp_walk using wpAny_loadPart' hl,wpAny_pyIter_tuple hL
    exact ⟨_,rfl,h⟩
  ·wp_walk using wpAny_loadPart' hl,wpAny_pyIter_tuple hL
   exact ⟨_,rfl,h⟩
theorem lO {prog:Program} {w:World} {A:Around} {E:Value→Shared→Prop} {s:Shared} {l:Addr} {items:Array Value} {Q:Value→Shared→Prop} (hL:s.heap.IsTuple l items)
  (h:∀ h',IsEnum h' (s.heap.objs.size + 1) s.heap.objs.size 0 .none→h'.IsTupleIter s.heap.objs.size l 0→h'.objs.size=s.heap.objs.size + 2→
   (∀ b o,s.heap.get? b=some o→h'.get? b=some o)→Q (.ref (s.heap.objs.size + 1)) {s with heap:=h'}):
  wpAny (model prog w) A (call (.type "enumerate") [.ref l]) Q E s:=by
 obtain ⟨⟨c,dct,dt,sl⟩,hl,hc,n,hd⟩:=hL
 replace hc:c= .type "tuple":=hc
 replace hd:dt= .seq items n:=hd
 subst hc hd
 refine callType_new F.called_enumerate (by decide) (F.typeCall_enumerate_1 _) (F.newCall_enumerate_1 _) (fun obj=>F.args_object_init_2 obj _) F.entry_enumerate_new
  (lH l items n dct sl) ⟨hl,?_⟩
 have hz:(s.heap.push {cls:= .type "tuple_iterator",data:= .fields #[.ref l,.int 0 0]}).objs.size=s.heap.objs.size + 1:=Heap.size_push ..
 show _∧_
 rw [hz]
 have he:IsEnum ((s.heap.push {cls:= .type "tuple_iterator",data:= .fields #[.ref l,.int 0 0]}).push
   {cls:= .type "enumerate",data:= .fields #[.none,.bool false,.ref s.heap.objs.size,rawInt 0,.none,.none]}) (s.heap.objs.size + 1) s.heap.objs.size 0 .none:=by
  have:=Heap.get?_push_size (s.heap.push {cls:= .type "tuple_iterator",data:= .fields #[.ref l,.int 0 0]})
   (o:={cls:= .type "enumerate",data:= .fields #[.none,.bool false,.ref s.heap.objs.size,rawInt 0,.none,.none]}) rfl
  rw [hz] at this;exact this
 refine ⟨⟨_,he,rfl⟩,h _ he ⟨_,Heap.get?_push_of_some _ (Heap.get?_push_size _ rfl),rfl,rfl⟩ (by rw [Heap.size_push,hz]) fun b o x=>Heap.get?_push_of_some _ (Heap.get?_push_of_some _ x)⟩
noncomputable def Itet (K:PySem.W.Frag) (a:Addr):It:=
 ⟨fun i H=>∃ xs x,SqT K H a xs∧xs[i]? =some x,fun i H x H'=>∃ p v,H p=none∧x= .ref p∧H'=upd H p (.tup [.int i,v])∧∀ xs,SqT K H a xs→xs[i]? =some v,fun i H=>∃ xs,SqT K H a xs∧xs.length=i⟩
theorem Dp {P:Program} {w:World} {K:PySem.W.Frag} {elts:List Expr} {k:Nat} {pos:Pos} (a e it:Addr) (hei:e≠it):
  Turn P w K (.Tuple elts k pos) (Itet K a) [e,it] e (fun i h=>(∃ old,IsEnum h e it i old)∧h.IsTupleIter it a i) where
 mem:=by simp
 obj:=fun i h st b hb=>by
  obtain ⟨⟨old,he⟩,⟨o,ho,hc,hd⟩⟩:=st
  rcases List.mem_cons.mp hb with z | z
  ·subst z;exact ⟨_,he,fun v z=>by cases z⟩
  ·rw [List.mem_singleton.mp z];exact ⟨o,ho,fun v z=>by rw [hd] at z;cases z⟩
 keep:=fun i h h' st k=>⟨let ⟨old,he⟩:=st.1;⟨old,k e (by simp) _ he⟩,(let ⟨o,ho,r⟩:=st.2;⟨o,k it (by simp) o ho,r⟩)⟩
 item:=by
  intro X hP hw hK hc i pins s σ H E I hf st hg
  subst hP hw hK
  obtain ⟨xs,x,hq,hx⟩:=hg
  obtain ⟨its,rv,p,hz⟩:=I.tuple hq
  have pT:s.heap.IsTuple a its.toArray:=p
  obtain ⟨⟨old,he⟩,hl⟩:=st
  have hai:a≠it:=fun z=>by
   obtain ⟨o,ho,hcl,_⟩:=hl
   obtain ⟨o',ho',hcl',_⟩:=pT
   rw [z,ho] at ho';cases ho';rw [hcl] at hcl';exact absurd hcl' (by decide)
  have hae:a≠e:=fun z=>by
   obtain ⟨o',ho',hcl',_⟩:=pT
   rw [z,he] at ho';cases ho';exact absurd (show Value.type "enumerate"= .type "tuple" from hcl') (by decide)
  have W:=WalksT.enumerateD (prog:=X.prog) (w:=X.w) (A:=X.A) (Draws.tuple (A:=X.A.in1) (I.ok.hd hc) it a hai its.toArray) e hei (by simp [hei,Ne.symm hae]) (by simp)
  have hi:i < its.toArray.size:=by have:=rv.length;have:=(List.getElem?_eq_some_iff.mp hx).1;simp;omega
  refine W.item i s _ _ hi ⟨⟨old,he⟩,hl,pT⟩ fun T vals h' tk hPt hT htup hmid hk=>⟨_,rfl,W.go elts k pos i T _ _ _ hmid fun h'' hst hk2=>?_⟩
  obtain ⟨t,x',hx',rfl⟩:=hPt
  have hap:=W.apart i T h' hmid
  have ru:RelV x x':=by
   obtain ⟨u,hu,r⟩:=rv.get hx
   have hx'':its[i]? =some x':=by simpa using hx'
   rw [hu] at hx'';cases hx'';exact r
  have kk:∀ b u,b∉[e,it]→s.heap.get? b=some u→h''.get? b=some u:=fun b u hb q=>hk2 b u hb (hk b u hb q)
  have fr:H T=none:=I.hok.fresh hT
  refine ⟨.ref T,upd H T (.tup [.int i,x]),I.laidCh (t':=tk) kk hT ⟨y9,[.int i t,x'],.cons ⟨t,rfl⟩ (.cons ru .nil),?_⟩ hf,rfl,⟨T,x,fr,rfl,rfl,fun ys hy=>by rw [I.tuple_inj hy hq];exact hx⟩,⟨hst.1,hst.2.1⟩,fun b hb=>?_⟩
  ·obtain ⟨o,ho,r⟩:=htup
   exact ⟨o,hk2 T o hap ho,r⟩
  ·have fb:=(hf b hb)
   rw [aL (fun z=>?_)]
   ·exact fb.1
   ·have lt:b < s.heap.objs.size:=by
     rcases List.mem_cons.mp hb with z | z
     ·subst z;exact Heap.lt_size he
     ·rw [List.mem_singleton.mp z];obtain ⟨o,ho,_⟩:=hl;exact Heap.lt_size ho
    rw [z] at lt
    exact absurd (Nat.lt_of_lt_of_le lt hT) (Nat.lt_irrefl _)
 done:=by
  intro X hP hw hK hc i pins s σ H E I hf st hg
  subst hP hw hK
  obtain ⟨xs,hq,hx⟩:=hg
  obtain ⟨its,rv,p,hz⟩:=I.tuple hq
  have pT:s.heap.IsTuple a its.toArray:=p
  obtain ⟨⟨old,he⟩,hl⟩:=st
  have hai:a≠it:=fun z=>by
   obtain ⟨o,ho,hcl,_⟩:=hl
   obtain ⟨o',ho',hcl',_⟩:=pT
   rw [z,ho] at ho';cases ho';rw [hcl] at hcl';exact absurd hcl' (by decide)
  have hae:a≠e:=fun z=>by
   obtain ⟨o',ho',hcl',_⟩:=pT
   rw [z,he] at ho';cases ho';exact absurd (show Value.type "enumerate"= .type "tuple" from hcl') (by decide)
  have W:=WalksT.enumerateD (prog:=X.prog) (w:=X.w) (A:=X.A) (Draws.tuple (A:=X.A.in1) (I.ok.hd hc) it a hai its.toArray) e hei (by simp [hei,Ne.symm hae]) (by simp)
  have hn:its.toArray.size=i:=by have:=rv.length;simp;omega
  subst hn
  exact W.done s _ _ ⟨⟨old,he⟩,hl,pT⟩ fun h' tk hk=>⟨rfl,I.turnedCh hk hf⟩
 self:=fun _ _ _ _ _ st h=>let ⟨_,he⟩:=st.1;wpAny_pyIter_enum he h
noncomputable def K3 (K:PySem.W.Frag) (tl:TE):TI:=fun σ H R=>tl σ H fun x H1=>∃ a,x= .ref a∧(((∃ xs,SqL K H1 a xs)∧R (Ite K a) H1)∨((∃ xs,SqT K H1 a xs)∧R (Itet K a) H1))
section
variable {X:Cx} {K:PySem.W.Frag}
theorem JK {l:Expr} {tl:TE} {elts:List Expr} {k:Nat} {tpos p pos:Pos} (h:X.K=K) (hg:Gl X "enumerate") (hm:X.mg "enumerate"=none) (hl:PE X l tl) (hs:starEach [l] X.env=[(false,eval l X.env)]:=by rfl):
  PI X (.Tuple elts k tpos) (.Call (.Name "enumerate" p) [l] [] pos) (K3 K tl):=by
 subst h
 intro pins s σ H R I h
 refine Call_ (ke I hg hm boot_enumerate (PyProof.Rows.callWith_type1 (thn (aa hl ai hs pos pins s σ H (fun vs H1=>match vs with | [x]=>∃ a,x= .ref a∧(((∃ xs,SqL X.K H1 a xs)∧R (Ite X.K a) H1)∨((∃ xs,SqT X.K H1 a xs)∧R (Itet X.K a) H1)) | _=>False) I h) fun us s1 ⟨vs,H1,I1,r1,q1⟩=>?_) hs rfl))
 match vs,r1,q1 with
 | [x],r1,q1=>
 obtain ⟨u,rfl,ru⟩:=r1.one
 obtain ⟨a,rfl,q1⟩:=q1
 cases ru
 have fin:∀ b∈[s1.heap.objs.size + 1,s1.heap.objs.size],FpOk X pins H1 b:=fun b hb=>by
  have hb':s1.heap.objs.size≤b:=(List.mem_cons.mp hb).elim (fun z=>by rw [z];exact Nat.le_succ _) (fun z=>by rw [List.mem_singleton.mp z];exact Nat.le_refl _)
  exact I1.fpOk hb' (I1.hok.fresh hb')
 rcases q1 with ⟨⟨xs,hq⟩,q⟩ | ⟨⟨xs,hq⟩,q⟩
 ·obtain ⟨its,rv,pl,hz⟩:=I1.list hq
  refine call_enumerate_list pl.isList fun h' he hit hsz hk=>wpAny_pyIter_enum he ?_
  exact ⟨s1.heap.objs.size + 1,[s1.heap.objs.size + 1,s1.heap.objs.size],_,_,H1,rfl,I1.kept (t':=s1.toks) hk,wx a _ _ (Nat.ne_of_gt (Nat.lt_succ_self _)),⟨⟨_,he⟩,hit⟩,fin,q⟩
 ·obtain ⟨its,rv,pl,hz⟩:=I1.tuple hq
  refine lO (show s1.heap.IsTuple a its.toArray from pl) fun h' he hit hsz hk=>wpAny_pyIter_enum he ?_
  exact ⟨s1.heap.objs.size + 1,[s1.heap.objs.size + 1,s1.heap.objs.size],_,_,H1,rfl,I1.kept (t':=s1.toks) hk,Dp a _ _ (Nat.ne_of_gt (Nat.lt_succ_self _)),⟨⟨_,he⟩,hit⟩,fin,q⟩
end
theorem xa {K:PySem.W.Frag} {n:Nat} {fx:List Nat} {g:TG} {tc:TT} {te:TE} {σ:St} {H1:Hp} {D:Addr} {Q:Hp→Prop} {a:Addr} {xs:List V} (Pv:Nat→List V→Hp→Prop) (h0:Pv 0 [] (upd H1 D (.lst []))) (hl:∀ i ys H,i≤xs.length→Pv i ys H→SqL K H a xs)
  (hs:∀ i x ys H p H',xs[i]? =some x→Pv i ys H→H p=none→Same H H'→H' p=some (.tup [.int i,x])→g (.ref p) (er n fx σ) H' fun σ4 H4=>tc σ4 H4 fun b H5=>if b=true then te σ4 H5 fun v H6=>H6 D=some (.lst ys)∧ys.length < sizeLine∧Pv (i + 1) (ys++[v]) (upd H6 D (.lst (ys++[v]))) else Pv (i + 1) ys H5)
  (hd:∀ ys H,Pv xs.length ys H→Q H):
  ∃ W:Nat→Nat→List V→Hp→Prop,(∃ m,W 0 m [] (upd H1 D (.lst [])))∧∀ i m ys H2,W i m ys H2→((Ite K a).stop i H2∧Q H2)∨
    ((Ite K a).go i H2∧∃ N:List V→Hp→Prop,(∀ ys' H',N ys' H'→∃ m',m' < m∧W (i + 1) m' ys' H')∧∀ x H3,(Ite K a).yld i H2 x H3→g x (er n fx σ) H3 fun σ4 H4=>tc σ4 H4 fun b H5=>
      if b=true then te σ4 H5 fun v H6=>H6 D=some (.lst ys)∧ys.length < sizeLine∧N (ys++[v]) (upd H6 D (.lst (ys++[v]))) else N ys H5):=by
 refine ⟨fun i m ys H=>m=xs.length - i∧i≤xs.length∧Pv i ys H,⟨xs.length,by simp,Nat.zero_le _,h0⟩,?_⟩
 rintro i m ys H ⟨rfl,hi,p⟩
 have q:=hl i ys H hi p
 by_cases hlt:i < xs.length
 ·refine .inr ⟨⟨xs,xs[i],q,by simp [hlt]⟩,Pv (i + 1),fun ys' H' p'=>⟨xs.length - (i + 1),by omega,rfl,hlt,p'⟩,fun x H' y=>?_⟩
  obtain ⟨r,v,f,e1,e2,y⟩:=y
  subst e1 e2
  exact hs i v ys H r _ (y xs q) p f (fP f) bf
 ·have e:i=xs.length:=by omega
  subst e
  exact .inl ⟨⟨xs,q,rfl⟩,hd ys H p⟩
theorem Fg {K:PySem.W.Frag} {n:Nat} {fx:List Nat} {g:TG} {tc:TT} {te:TE} {σ:St} {H1:Hp} {D:Addr} {Q:Hp→Prop} {a:Addr} {xs:List V} (Pv:Nat→List V→Hp→Prop) (h0:Pv 0 [] (upd H1 D (.lst []))) (hl:∀ i ys H,i≤xs.length→Pv i ys H→SqT K H a xs)
  (hs:∀ i x ys H p H',xs[i]? =some x→Pv i ys H→H p=none→Same H H'→H' p=some (.tup [.int i,x])→g (.ref p) (er n fx σ) H' fun σ4 H4=>tc σ4 H4 fun b H5=>if b=true then te σ4 H5 fun v H6=>H6 D=some (.lst ys)∧ys.length < sizeLine∧Pv (i + 1) (ys++[v]) (upd H6 D (.lst (ys++[v]))) else Pv (i + 1) ys H5)
  (hd:∀ ys H,Pv xs.length ys H→Q H):
  ∃ W:Nat→Nat→List V→Hp→Prop,(∃ m,W 0 m [] (upd H1 D (.lst [])))∧∀ i m ys H2,W i m ys H2→((Itet K a).stop i H2∧Q H2)∨
    ((Itet K a).go i H2∧∃ N:List V→Hp→Prop,(∀ ys' H',N ys' H'→∃ m',m' < m∧W (i + 1) m' ys' H')∧∀ x H3,(Itet K a).yld i H2 x H3→g x (er n fx σ) H3 fun σ4 H4=>tc σ4 H4 fun b H5=>
      if b=true then te σ4 H5 fun v H6=>H6 D=some (.lst ys)∧ys.length < sizeLine∧N (ys++[v]) (upd H6 D (.lst (ys++[v]))) else N ys H5):=by
 refine ⟨fun i m ys H=>m=xs.length - i∧i≤xs.length∧Pv i ys H,⟨xs.length,by simp,Nat.zero_le _,h0⟩,?_⟩
 rintro i m ys H ⟨rfl,hi,p⟩
 have q:=hl i ys H hi p
 by_cases hlt:i < xs.length
 ·refine .inr ⟨⟨xs,xs[i],q,by simp [hlt]⟩,Pv (i + 1),fun ys' H' p'=>⟨xs.length - (i + 1),by omega,rfl,hlt,p'⟩,fun x H' y=>?_⟩
  obtain ⟨r,v,f,e1,e2,y⟩:=y
  subst e1 e2
  exact hs i v ys H r _ (y xs q) p f (fP f) bf
 ·have e:i=xs.length:=by omega
  subst e
  exact .inl ⟨⟨xs,q,rfl⟩,hd ys H p⟩
section
variable {σ:St} {H:Hp} {te:TE} {R:It→Hp→Prop}
theorem dS {K:PySem.W.Frag} (h:te σ H fun x H1=>∃ a,x= .ref a∧(((∃ xs,SqL K H1 a xs)∧R (Ite K a) H1)∨((∃ xs,SqT K H1 a xs)∧R (Itet K a) H1))):K3 K te σ H R:=h
end
namespace ZP
noncomputable abbrev Busy (h:Heap) (z TI TO T:Addr) (fl:Bool):Prop:=h.get? z=some {cls:= .type "zip",data:= .fields #[rawInt T,.bool fl,.bool false,.ref TI,.ref TO]}
section
variable {prog:Program} {w:World} {A:Around} {E:Value→Shared→Prop} {s:Shared}
theorem G4 {z TI TO T:Addr} {fl:Bool} {oT:Obj} {Q:Bool→Shared→Prop} (hz:Busy s.heap z TI TO T fl) (hT:s.heap.get? T=some oT) (h:∀ h',Busy h' z TI TO T true→Heap.SameBut z s.heap h'→Q false {s with heap:=h'}):
  wpAny (model prog w) A (Builtin.SmallTypes.ownedTupleIsFree (.ref z)) Q E s:=by
 unfold Builtin.SmallTypes.ownedTupleIsFree
 refine wpAny_bind (wpAny_field hz rfl (x:=rawInt T) rfl ?_)
 show wpAny _ _ (loadIfAlive ((T:Int).toNat) >>=_) _ _ s
 rw [Int.toNat_natCast]
 refine wpAny_bind (PySem.W.kdx_alive hT ?_)
 rw [if_neg (by simp)]
 refine wpAny_bind (wpAny_field hz rfl (x:= .bool fl) rfl ?_)
 cases fl with
 | true=>
   rw [if_neg (by decide)]
   exact wpAny_pure (h s.heap hz ⟨rfl,fun _ _=>rfl⟩)
 | false=>
   rw [if_pos (by decide)]
   refine wpAny_bind (wpAny_setField_rec hz (by show 1 < 5;decide) fun h' e hs=>wpAny_pure (h h' e hs))
theorem G5 {z TI TO T i1 i2 l1 l2:Addr} {fl:Bool} {oT:Obj} {i:Nat} {xs ys:Array Value} {x y:Value} {Q:Option Value→Shared→Prop} (ap:ZipApart z TI TO i1 i2 l1 l2) (hz:Busy s.heap z TI TO T fl) (hT:s.heap.get? T=some oT)
  (hI:IsPair s.heap TI (.ref i1) (.ref i2)) (h1:s.heap.IsListIter i1 l1 i) (h2:s.heap.IsListIter i2 l2 i) (hl1:s.heap.IsList l1 xs) (hl2:s.heap.IsList l2 ys) (hx:xs[i]? =some x) (hy:ys[i]? =some y)
  (h:∀ h',Busy h' z TI TO T true→h'.IsListIter i1 l1 (i + 1)→h'.IsListIter i2 l2 (i + 1)→(∀ b o,b≠z→b≠i1→b≠i2→s.heap.get? b=some o→h'.get? b=some o)→h'.get? s.heap.objs.size=some {cls:= .type "tuple",data:= .seq #[x,y]}→Q (some (.ref s.heap.objs.size)) {s with heap:=h'}):
  wpAny (model prog w) A (pyNext (.ref z)) Q E s:=by
 have ty:s.TypeIs (.ref z) "zip":=⟨_,hz,rfl⟩
 unfold pyNext
 refine wpAny_bind (wpAny_attempt (wpAny_callSpecial?_slot (name:=Str.ofString "__next__") ty F.slot_zip_next (wpAny_call_entry F.slot_zip_next ty F.entry_zip_next ?_ (F.args_zip_next_1 _))))
 unfold Builtin.«zip.__next__»
 refine wpAny_bind (wpAny_of_eq (a:=(Value.ref z,[])) rfl ?_)
 dsimp only
 refine wpAny_bind (wpAny_field hz rfl (x:= .bool false) rfl ?_)
 refine wpAny_bind (wpAny_field hz rfl (x:= .ref TI) rfl ?_)
 refine wpAny_bind (wpAny_seqItems hI rfl ?_)
 dsimp only
 rw [if_neg (show ¬ (#[Value.ref i1,Value.ref i2].isEmpty=true) from Bool.false_ne_true)]
 refine wpAny_bind (G4 hz hT fun h' hz' hs=>?_)
 rw [if_neg (by decide)]
 rw [← Array.forIn_toList]
 simp only [List.forIn_cons,List.forIn_nil]
 have keep:∀ {b:Addr} {o:Obj},b≠z→s.heap.get? b=some o→h'.get? b=some o:=fun nb e=>(hs.2 _ nb).trans e
 have h1':h'.IsListIter i1 l1 i:=h1.at fun o e=>keep ap.i1z e
 have h2':h'.IsListIter i2 l2 i:=h2.at fun o e=>keep ap.i2z e
 have hl1':h'.IsList l1 xs:=let ⟨o,e,c⟩:=hl1;⟨o,keep ap.l1z e,c⟩
 have hl2':h'.IsList l2 ys:=let ⟨o,e,c⟩:=hl2;⟨o,keep ap.l2z e,c⟩
 refine wpAny_bind (wpAny_bind (wpAny_bind (wpAny_holding ?_)))
 show wpAny _ _ (Builtin.SmallTypes.nextOf (.ref i1) >>=fun x=>pure (some x)) _ _ _
 refine wpAny_bind (wpAny_nextOf_list_item h1' hl1' hx fun h3 it3 sm3=>wpAny_pure ?_)
 dsimp only
 refine wpAny_pure ?_
 dsimp only
 have keep3:∀ {b:Addr} {o:Obj},b≠i1→h'.get? b=some o→h3.get? b=some o:=fun nb e=>(sm3.2 _ nb).trans e
 refine wpAny_bind (wpAny_bind (wpAny_holding ?_))
 show wpAny _ _ (Builtin.SmallTypes.nextOf (.ref i2) >>=fun x=>pure (some x)) _ _ _
 refine wpAny_bind (wpAny_nextOf_list_item (h2'.at fun o e=>keep3 (Ne.symm ap.i12) e) (let ⟨o,e,c⟩:=hl2';⟨o,keep3 ap.l2i1 e,c⟩) hy fun h4 it4 sm4=>wpAny_pure ?_)
 have keep4:∀ {b:Addr} {o:Obj},b≠i2→h3.get? b=some o→h4.get? b=some o:=fun nb e=>(sm4.2 _ nb).trans e
 dsimp only
 refine wpAny_pure ?_
 dsimp only
 refine wpAny_pure ?_
 dsimp only
 have es:h4.objs.size=s.heap.objs.size:=sm4.1.trans (sm3.1.trans hs.1)
 refine wpAny_bind (wpAny_newTuple (wpAny_pure ⟨_,rfl,wpAny_pure ?_⟩) (by show 2≤sizeLine;rw [sizeLine_eq];decide))
 show Q (some (.ref h4.objs.size)) {s with heap:=h4.push _}
 rw [es]
 refine h _ ?_ ?_ ?_ (fun b o nz n1 n2 e=>Heap.get?_push_of_some _ (keep4 n2 (keep3 n1 (keep nz e)))) ?_
 ·exact Heap.get?_push_of_some _ (keep4 (Ne.symm ap.i2z) (keep3 (Ne.symm ap.i1z) hz'))
 ·exact it3.at fun o e=>Heap.get?_push_of_some _ (keep4 ap.i12 e)
 ·exact it4.at fun o e=>Heap.get?_push_of_some _ e
 ·rw [← es];exact Heap.get?_push_size _ rfl
theorem JT {z TI TO T i1 i2 l1 l2:Addr} {fl:Bool} {oT:Obj} {i:Nat} {xs:Array Value} {Q:Option Value→Shared→Prop} (hh:A.handled=none) (ap:ZipApart z TI TO i1 i2 l1 l2) (hz:Busy s.heap z TI TO T fl) (hT:s.heap.get? T=some oT)
  (hI:IsPair s.heap TI (.ref i1) (.ref i2)) (h1:s.heap.IsListIter i1 l1 i) (hl1:s.heap.IsList l1 xs) (hx:xs[i]? =none)
  (h:∀ h',(∀ b o,b≠z→b≠i1→s.heap.get? b=some o→h'.get? b=some o)→Q none {s with heap:=h'}):
  wpAny (model prog w) A (pyNext (.ref z)) Q E s:=by
 have ty:s.TypeIs (.ref z) "zip":=⟨_,hz,rfl⟩
 unfold pyNext
 refine wpAny_bind (wpAny_attempt (wpAny_callSpecial?_slot (name:=Str.ofString "__next__") ty F.slot_zip_next (wpAny_call_entry F.slot_zip_next ty F.entry_zip_next ?_ (F.args_zip_next_1 _))))
 unfold Builtin.«zip.__next__»
 refine wpAny_bind (wpAny_of_eq (a:=(Value.ref z,[])) rfl ?_)
 dsimp only
 refine wpAny_bind (wpAny_field hz rfl (x:= .bool false) rfl ?_)
 refine wpAny_bind (wpAny_field hz rfl (x:= .ref TI) rfl ?_)
 refine wpAny_bind (wpAny_seqItems hI rfl ?_)
 dsimp only
 rw [if_neg (show ¬ (#[Value.ref i1,Value.ref i2].isEmpty=true) from Bool.false_ne_true)]
 refine wpAny_bind (G4 hz hT fun h' hz' hs=>?_)
 rw [if_neg (by decide)]
 rw [← Array.forIn_toList]
 simp only [List.forIn_cons,List.forIn_nil]
 have keep:∀ {b:Addr} {o:Obj},b≠z→s.heap.get? b=some o→h'.get? b=some o:=fun nb e=>(hs.2 _ nb).trans e
 have h1':h'.IsListIter i1 l1 i:=h1.at fun o e=>keep ap.i1z e
 have hl1':h'.IsList l1 xs:=let ⟨o,e,c⟩:=hl1;⟨o,keep ap.l1z e,c⟩
 refine wpAny_bind (wpAny_bind (wpAny_bind (wpAny_holding ?_)))
 show wpAny _ _ (Builtin.SmallTypes.nextOf (.ref i1) >>=fun x=>pure (some x)) _ _ _
 refine wpAny_bind (wpAny_nextOf_list_end (by first | exact hh | (rw [show A.in1.handled=none from hh])) h1' hl1' hx fun h3 e ex he=>?_)
 refine wpAny_bind (wpAny_isInstance (T:="StopIteration") (b:=true) (s:={s with heap:=h3}) (let ⟨o,a,b⟩:=he;⟨o,a,b⟩) isSubtype_stop ?_)
 exact wpAny_pure (h h3 fun b o nz n1 eb=>ex b o n1 (keep nz eb))
structure ZGot (h:Heap) (lo:Nat) (xs ys:Array Value) (as:List Addr):Prop where
 rise:as.Pairwise (· < ·)
 above:∀ a∈as,lo≤a∧a < h.objs.size
 pairs:∀ (j:Nat) (a:Addr),as[j]? =some a→∃ x y,xs[j]? =some x∧ys[j]? =some y∧h.IsTuple a #[x,y]
structure ZSt (h:Heap) (z TI TO i1 i2 l1 l2:Addr) (lo:Nat) (xs ys:Array Value) (i:Nat) (as:List Addr):Prop where
 zp:(i=0∧IsZip h z TI TO .none)∨∃ T fl,Busy h z TI TO T fl∧as[0]? =some T
 hI:IsPair h TI (.ref i1) (.ref i2)
 hO:∃ a b,IsPair h TO a b
 h1:h.IsListIter i1 l1 i
 h2:h.IsListIter i2 l2 i
 hl1:h.IsList l1 xs
 hl2:h.IsList l2 ys
 len:as.length=i
 got:ZGot h lo xs ys as
structure Und (z TI TO i1 i2 l1 l2 S:Addr) (lo:Nat):Prop where
 ap:ZipApart z TI TO i1 i2 l1 l2
 Sz:S≠z
 STI:S≠TI
 STO:S≠TO
 Si1:S≠i1
 Si2:S≠i2
 Sl1:S≠l1
 Sl2:S≠l2
 z:z < lo
 TO:TO < lo
 i1:i1 < lo
 i2:i2 < lo
 S:S < lo
theorem iV {h:Heap} {a:Addr} {o:Obj} (e:h.get? a=some o):a < h.objs.size:=Heap.lt_size e
theorem ZGot.keep {h h':Heap} {lo:Nat} {xs ys:Array Value} {as:List Addr} (g:ZGot h lo xs ys as) (k:∀ b o,lo≤b→h.get? b=some o→h'.get? b=some o):ZGot h' lo xs ys as:=by
 have k2:∀ a∈as,h'.IsTuple a #[.none,.none]→True:=fun _ _ _=>trivial
 refine ⟨g.rise,fun a ha=>?_,fun j a hj=>?_⟩
 ·obtain ⟨j,hj⟩:=List.mem_iff_getElem?.mp ha
  obtain ⟨x,y,_,_,o,e,_⟩:=g.pairs j a hj
  exact ⟨(g.above a ha).1,iV (k a o (g.above a ha).1 e)⟩
 ·obtain ⟨x,y,hx,hy,o,e,c⟩:=g.pairs j a hj
  exact ⟨x,y,hx,hy,o,k a o (g.above a (List.mem_of_getElem? hj)).1 e,c⟩
theorem ZGot.more {h:Heap} {lo:Nat} {xs ys:Array Value} {as:List Addr} {a:Addr} {x y:Value} (g:ZGot h lo xs ys as) (ha:∀ b∈as,b < a) (hlo:lo≤a) (hx:xs[as.length]? =some x) (hy:ys[as.length]? =some y) (ht:h.IsTuple a #[x,y]):ZGot h lo xs ys (as++[a]):=by
 refine ⟨List.pairwise_append.mpr ⟨g.rise,List.pairwise_singleton _ _,fun b hb c hc=>by rw [List.mem_singleton.mp hc];exact ha b hb⟩,fun b hb=>?_,fun j b hj=>?_⟩
 ·rcases List.mem_append.mp hb with z | z
  ·exact g.above b z
  ·rw [List.mem_singleton.mp z];obtain ⟨o,e,_⟩:=ht;exact ⟨hlo,iV e⟩
 ·by_cases hl:j < as.length
  ·rw [List.getElem?_append_left hl] at hj;exact g.pairs j b hj
  ·rw [List.getElem?_append_right (by omega)] at hj
   have e0:j=as.length:=by
    have:=(List.getElem?_eq_some_iff.mp hj).1
    simp at this;omega
   subst e0
   rw [Nat.sub_self] at hj
   have:a=b:=by simpa using hj
   subst this
   exact ⟨x,y,hx,hy,ht⟩
theorem loop {R:Result→Shared→Prop} {z TI TO i1 i2 l1 l2 S:Addr} {lo:Nat} {xs ys:Array Value} (hh:A.handled=none) (U:Und z TI TO i1 i2 l1 l2 S lo) (hn:xs.size≤sizeLine) (hxy:ys.size=xs.size) (res:Value) {h₁:Heap}
  (hR:∀ h' tk acc c as,(∀ b o,b≠S→b≠z→b≠TO→b≠i1→b≠i2→h₁.get? b=some o→h'.get? b=some o)→h'.get? S=some {cls:= .type "list",data:= .seq acc c}→acc.toList=as.map .ref→as.length=xs.size→ZGot h' lo xs ys as→R (.ok (.ret res)) {s with heap:=h',toks:=tk}):
  ∀ (k i:Nat) (h:Heap) (tk c:Nat) (acc:Array Value) (as:List Addr),xs.size - i=k→i≤xs.size→lo≤h.objs.size→ZSt h z TI TO i1 i2 l1 l2 lo xs ys i as→
    (∀ b o,b≠S→b≠z→b≠TO→b≠i1→b≠i2→h₁.get? b=some o→h.get? b=some o)→h.get? S=some {cls:= .type "list",data:= .seq acc c}→acc.toList=as.map .ref→
    codeAny (model prog w) A (Code.builtin "list.extend.loop" {pos:=[.ref S,.ref z,res]}) R {s with heap:=h,toks:=tk}:=by
 have ap:=U.ap
 intro k
 induction k with
 | zero=>
   intro i h tk c acc as hk hi hlo st kh hS hacc
   have hin:i=xs.size:=by omega
   subst hin
   refine codeAny_builtin F.entry_extend_loop ?_
   rw [Around.under_plainId F.plain_extend_loop]
   show wpAny _ A.in1 (pyNext (.ref z) >>=_) _ _ _
   refine wpAny_bind ?_
   have fin:∀ h' tk',(∀ b o,b≠z→b≠TO→b≠i1→b≠i2→h.get? b=some o→h'.get? b=some o)→R (.ok (.ret res)) {s with heap:=h',toks:=tk'}:=fun h' tk' kk=>
    hR h' tk' acc c as (fun b o n1 n2 n3 n4 n5 e=>kk b o n2 n3 n4 n5 (kh b o n1 n2 n3 n4 n5 e)) (kk S _ U.Sz U.STO U.Si1 U.Si2 hS) hacc st.len (st.got.keep fun b o hb e=>kk b o (Nat.ne_of_gt (Nat.lt_of_lt_of_le U.z hb)) (Nat.ne_of_gt (Nat.lt_of_lt_of_le U.TO hb)) (Nat.ne_of_gt (Nat.lt_of_lt_of_le U.i1 hb)) (Nat.ne_of_gt (Nat.lt_of_lt_of_le U.i2 hb)) e)
   rcases st.zp with ⟨h0,hz⟩ | ⟨T,fl,hz,hT⟩
   ·have W:=WalksT.zip2 (prog:=prog) (w:=w) (A:=A.in1) hh z TI TO i1 i2 l1 l2 ap xs ys
    have em:min xs.size ys.size=xs.size:=by omega
    rw [em] at W
    refine W.done {s with heap:=h,toks:=tk} _ _ ⟨hz,st.hI,st.hO,st.h1,st.h2,st.hl1,st.hl2⟩ fun h' tk' kk=>?_
    exact wpAny_pure (fin h' tk' fun b o n2 n3 n4 n5 e=>kk b o (by simp [n2,n3,n4,n5]) e)
   ·obtain ⟨x,y,_,_,oT,eT,_⟩:=st.got.pairs 0 T hT
    refine JT (s:={s with heap:=h,toks:=tk}) hh ap hz eT st.hI st.h1 st.hl1 (by simp) fun h' kk=>?_
    exact wpAny_pure (fin h' tk fun b o n2 n3 n4 n5 e=>kk b o n2 n4 e)
 | succ k ih=>
   intro i h tk c acc as hk hi hlo st kh hS hacc
   have hlt:i < xs.size:=by omega
   have hx:xs[i]? =some xs[i]:=Array.getElem?_eq_getElem hlt
   have hy:ys[i]? =some (ys[i]'(by omega)):=Array.getElem?_eq_getElem (by omega)
   generalize xs[i]=x at hx
   generalize ys[i]'_=y at hy
   refine codeAny_builtin F.entry_extend_loop ?_
   rw [Around.under_plainId F.plain_extend_loop]
   show wpAny _ A.in1 (pyNext (.ref z) >>=_) _ _ _
   refine wpAny_bind ?_
   have go:∀ (a:Addr) (h':Heap) (tk':Nat),h.objs.size≤a→h'.IsTuple a #[x,y]→(∀ b o,b≠z→b≠TO→b≠i1→b≠i2→h.get? b=some o→h'.get? b=some o)→lo≤h'.objs.size→
     (∃ T fl,Busy h' z TI TO T fl∧(as++[a])[0]? =some T)→IsPair h' TI (.ref i1) (.ref i2)→(∃ a b,IsPair h' TO a b)→h'.IsListIter i1 l1 (i + 1)→h'.IsListIter i2 l2 (i + 1)→h'.IsList l1 xs→h'.IsList l2 ys→
     wpAny (model prog w) A.in1 (Builtin.List.listUpdate (.ref S) (fun q=>q.push (.ref a)) >>=fun _=>again (Code.builtin "list.extend.loop" {pos:=[.ref S,.ref z,res]}))
      (fun fin s'=>match fin with | .done f=>R (.ok f) s' | .again c'=>c'.quiet=true∧codeAny (model prog w) A c' R s') (fun e s'=>R (.error e) s') {s with heap:=h',toks:=tk'}:=by
    intro a h' tk' ha ht kk hlo' hzp hI hO h1 h2 hl1 hl2
    have hS':=kk S _ U.Sz U.STO U.Si1 U.Si2 hS
    have aS:a≠S:=Nat.ne_of_gt (Nat.lt_of_lt_of_le (iV hS) ha)
    have hsz:acc.size=i:=by have:=congrArg List.length hacc;rw [List.length_map,st.len] at this;simpa using this
    have oth:∀ b o,b≠S→h'.get? b=some o→(h'.update S (Obj.mapSeq fun q=>q.push (.ref a))).get? b=some o:=fun b o hb e=>(Heap.get?_update_other _ _ (Ne.symm hb)).trans e
    have hS2:=Heap.get?_update_self (Obj.mapSeq (fun q=>q.push (Value.ref a))) hS' rfl
    refine wpAny_bind (wpAny_updateSeq (s:={s with heap:=h',toks:=tk'}) hS' rfl (wpAny_pure ⟨plainId_quiet F.plain_extend_loop _,?_⟩) (by rw [hsz];omega) (by rw [Array.size_push,hsz];omega))
    refine ih (i + 1) (h'.update S _) tk' _ (acc.push (.ref a)) (as++[a]) (by omega) hlt ?_ ⟨.inr ?_,?_,?_,?_,?_,?_,?_,?_,?_⟩ ?_ hS2 ?_
    ·have es:(h'.update S (Obj.mapSeq fun q=>q.push (.ref a))).objs.size=h'.objs.size:=(Heap.SameBut.update ..).1
     rw [es];exact hlo'
    ·obtain ⟨T,fl,e,q⟩:=hzp;exact ⟨T,fl,oth _ _ (Ne.symm U.Sz) e,q⟩
    ·exact oth _ _ (Ne.symm U.STI) hI
    ·obtain ⟨p,q,e⟩:=hO;exact ⟨p,q,oth _ _ (Ne.symm U.STO) e⟩
    ·exact h1.at fun o e=>oth _ o (Ne.symm U.Si1) e
    ·exact h2.at fun o e=>oth _ o (Ne.symm U.Si2) e
    ·exact let ⟨o,e,c⟩:=hl1;⟨o,oth _ o (Ne.symm U.Sl1) e,c⟩
    ·exact let ⟨o,e,c⟩:=hl2;⟨o,oth _ o (Ne.symm U.Sl2) e,c⟩
    ·rw [List.length_append,st.len];rfl
    ·have g:=st.got.keep (h':=h'.update S (Obj.mapSeq fun q=>q.push (.ref a))) fun b o hb e=>oth b o (Nat.ne_of_gt (Nat.lt_of_lt_of_le U.S hb)) (kk b o (Nat.ne_of_gt (Nat.lt_of_lt_of_le U.z hb)) (Nat.ne_of_gt (Nat.lt_of_lt_of_le U.TO hb)) (Nat.ne_of_gt (Nat.lt_of_lt_of_le U.i1 hb)) (Nat.ne_of_gt (Nat.lt_of_lt_of_le U.i2 hb)) e)
     refine g.more (fun b hb=>Nat.lt_of_lt_of_le (st.got.above b hb).2 ha) (Nat.le_trans hlo ha) (by rw [st.len];exact hx) (by rw [st.len];exact hy) (let ⟨o,e,c⟩:=ht;⟨o,oth _ o aS e,c⟩)
    ·exact fun b o n1 n2 n3 n4 n5 e=>oth b o n1 (kk b o n2 n3 n4 n5 (kh b o n1 n2 n3 n4 n5 e))
    ·rw [Array.toList_push,hacc,List.map_append];rfl
   rcases st.zp with ⟨h0,hz⟩ | ⟨T,fl,hz,hT⟩
   ·have W:=WalksT.zip2 (prog:=prog) (w:=w) (A:=A.in1) hh z TI TO i1 i2 l1 l2 ap xs ys
    have em:min xs.size ys.size=xs.size:=by omega
    rw [em] at W
    refine W.item i {s with heap:=h,toks:=tk} _ _ hlt ⟨hz,st.hI,st.hO,st.h1,st.h2,st.hl1,st.hl2⟩ fun T vals h' tk' hp hT ht mid kk=>?_
    obtain ⟨x',y',ex,ey,rfl⟩:=hp
    rw [hx] at ex;cases ex
    rw [hy] at ey;cases ey
    obtain ⟨m1,m2,m3,m4,m5,m6,m7,_⟩:=mid
    have as0:as=[]:=List.eq_nil_of_length_eq_zero (st.len.trans h0)
    refine go T h' tk' hT ht (fun b o n2 n3 n4 n5 e=>kk b o (by simp [n2,n3,n4,n5]) e) ?_ ⟨T,false,m1,by rw [as0];rfl⟩ m2 m3 m4 m5 m6 m7
    obtain ⟨o,e,_⟩:=ht
    exact Nat.le_of_lt (Nat.lt_of_le_of_lt (Nat.le_trans hlo hT) (iV e))
   ·obtain ⟨_,_,_,_,oT,eT,_⟩:=st.got.pairs 0 T hT
    refine G5 (s:={s with heap:=h,toks:=tk}) ap hz eT st.hI st.h1 st.h2 st.hl1 st.hl2 hx hy fun h' hz' b1 b2 kk ht=>?_
    refine go h.objs.size h' tk (Nat.le_refl _) ⟨_,ht,rfl,_,rfl⟩ (fun b o n2 n3 n4 n5 e=>kk b o n2 n4 n5 e) ?_ ⟨T,true,hz',?_⟩ (kk TI _ ap.TIz ap.TIi1 ap.TIi2 st.hI) (let ⟨p,q,e⟩:=st.hO;⟨p,q,kk TO _ ap.TOz ap.TOi1 ap.TOi2 e⟩) b1 b2 (let ⟨o,e,c⟩:=st.hl1;⟨o,kk l1 o ap.l1z ap.l1i1 ap.l1i2 e,c⟩) (let ⟨o,e,c⟩:=st.hl2;⟨o,kk l2 o ap.l2z ap.l2i1 ap.l2i2 e,c⟩)
    ·have ht':h'.get? h.objs.size=_:=ht
     exact Nat.le_of_lt (Nat.lt_of_le_of_lt hlo (iV ht'))
    ·have:0 < as.length:=(List.getElem?_eq_some_iff.mp hT).1
     rw [List.getElem?_append_left this];exact hT
theorem PY:typeLookup (.type "zip") "__len__"=pure none:=by rw [typeLookup_type,builtinLookup_eq_fast];kernel_rfl
theorem OA:typeLookup (.type "zip") "__length_hint__"=pure none:=by rw [typeLookup_type,builtinLookup_eq_fast];kernel_rfl
structure New (h:Heap) (z TI TO i1 i2 l1 l2:Addr) (xs ys:Array Value):Prop where
 ap:ZipApart z TI TO i1 i2 l1 l2
 hz:IsZip h z TI TO .none
 hI:IsPair h TI (.ref i1) (.ref i2)
 hO:∃ a b,IsPair h TO a b
 h1:h.IsListIter i1 l1 0
 h2:h.IsListIter i2 l2 0
 hl1:h.IsList l1 xs
 hl2:h.IsList l2 ys
theorem New.keep {h h':Heap} {z TI TO i1 i2 l1 l2:Addr} {xs ys:Array Value} (n:New h z TI TO i1 i2 l1 l2 xs ys) (k:∀ b o,h.get? b=some o→(b=z∨b=TI∨b=TO∨b=i1∨b=i2∨b=l1∨b=l2)→h'.get? b=some o):New h' z TI TO i1 i2 l1 l2 xs ys where
 ap:=n.ap
 hz:=k _ _ n.hz (by simp)
 hI:=k _ _ n.hI (by simp)
 hO:=let ⟨a,b,e⟩:=n.hO;⟨a,b,k _ _ e (by simp)⟩
 h1:=n.h1.at fun o e=>k _ o e (by simp)
 h2:=n.h2.at fun o e=>k _ o e (by simp)
 hl1:=let ⟨o,e,c⟩:=n.hl1;⟨o,k _ o e (by simp),c⟩
 hl2:=let ⟨o,e,c⟩:=n.hl2;⟨o,k _ o e (by simp),c⟩
theorem OP {R:Result→Shared→Prop} {z TI TO i1 i2 l1 l2 S:Addr} {lo:Nat} {xs ys:Array Value} (hh:A.handled=none) (U:Und z TI TO i1 i2 l1 l2 S lo) (N:New s.heap z TI TO i1 i2 l1 l2 xs ys) (hn:xs.size≤sizeLine) (hxy:ys.size=xs.size) (hlo:lo≤s.heap.objs.size) (res:Value) {c₀:Nat} (hS:s.heap.get? S=some {cls:= .type "list",data:= .seq #[] c₀})
  (hR:∀ h' tk acc c as,(∀ b o,b≠S→b≠z→b≠TO→b≠i1→b≠i2→s.heap.get? b=some o→h'.get? b=some o)→h'.get? S=some {cls:= .type "list",data:= .seq acc c}→acc.toList=as.map .ref→as.length=xs.size→ZGot h' lo xs ys as→R (.ok (.ret res)) {s with heap:=h',toks:=tk}):
  wpAny (model prog w) A.in1 (Builtin.List.listExtendWith (.ref S) (.ref z) res)
   (fun fin s'=>match fin with | .done f=>R (.ok f) s' | .again c'=>c'.quiet=true∧codeAny (model prog w) A c' R s') (fun e s'=>R (.error e) s') s:=by
 have ty:s.TypeIs (.ref z) "zip":=⟨_,N.hz,rfl⟩
 have h1:Builtin.List.listSameRef (.ref S) (.ref z)=false:=by simp [Builtin.List.listSameRef,U.Sz]
 unfold Builtin.List.listExtendWith
 refine wpAny_bind (wpAny_typeOf ty ?_)
 rw [if_neg (by rw [h1];decide)]
 refine wpAny_bind (wpAny_pyIter_zip N.hz ?_)
 refine wpAny_bind (wpAny_holding ?_)
 unfold Builtin.List.listLengthHint
 refine wpAny_bind (wpAny_specialOf ty PY ?_)
 show wpAny _ A.in1 (specialOf (Value.ref z) (Str.ofString "__length_hint__") >>=_) _ _ _
 refine wpAny_bind (wpAny_specialOf ty OA ?_)
 refine wpAny_pure ?_
 dsimp only
 rw [if_pos (by decide)]
 refine wpAny_bind (wpAny_rule (wpAny_bind ?_))
 show wpAny _ _ (updateSeq S (fun x=>x.push .none) >>=fun _=>updateSeq S fun x=>x.pop) _ _ s
 have e1:=Heap.get?_update_self (Obj.mapSeq (fun x=>x.push Value.none)) hS rfl
 have oth1:∀ b o,b≠S→s.heap.get? b=some o→(s.heap.update S (Obj.mapSeq (fun x=>x.push Value.none))).get? b=some o:=fun b o hb e=>(Heap.get?_update_other _ _ (Ne.symm hb)).trans e
 have z1:(s.heap.update S (Obj.mapSeq (fun x=>x.push Value.none))).objs.size=s.heap.objs.size:=(Heap.SameBut.update ..).1
 refine wpAny_bind (wpAny_updateSeq hS rfl ?_ (by show 0≤sizeLine;exact Nat.zero_le _) (by show 1≤sizeLine + 1;omega))
 generalize hg1:s.heap.update S (Obj.mapSeq (fun x=>x.push Value.none))=g1 at e1 oth1 z1
 refine wpAny_updateSeq (s:={s with heap:=g1}) e1 rfl ?_ (by show 1≤sizeLine;rw [sizeLine_eq];decide) (by show 0≤sizeLine + 1;omega)
 have e2:=Heap.get?_update_self (Obj.mapSeq (fun x=>x.pop)) e1 rfl
 have oth2:∀ b o,b≠S→g1.get? b=some o→(g1.update S (Obj.mapSeq (fun x=>x.pop))).get? b=some o:=fun b o hb e=>(Heap.get?_update_other _ _ (Ne.symm hb)).trans e
 have z2:(g1.update S (Obj.mapSeq (fun x=>x.pop))).objs.size=g1.objs.size:=(Heap.SameBut.update ..).1
 generalize hg2:g1.update S (Obj.mapSeq (fun x=>x.pop))=g2 at e2 oth2 z2
 refine wpAny_pure ⟨plainId_quiet F.plain_extend_loop _,?_⟩
 have N2:New g2 z TI TO i1 i2 l1 l2 xs ys:=N.keep fun b o e hb=>by
  have nb:b≠S:=by
   rcases hb with rfl | rfl | rfl | rfl | rfl | rfl | rfl
   ·exact Ne.symm U.Sz
   ·exact Ne.symm U.STI
   ·exact Ne.symm U.STO
   ·exact Ne.symm U.Si1
   ·exact Ne.symm U.Si2
   ·exact Ne.symm U.Sl1
   ·exact Ne.symm U.Sl2
  exact oth2 b o nb (oth1 b o nb e)
 exact loop (s:=s) (h₁:=s.heap) hh U hn hxy res hR xs.size 0 g2 s.toks _ #[] [] (Nat.sub_zero _) (Nat.zero_le _) (by rw [z2,z1];exact hlo) ⟨.inl ⟨rfl,N2.hz⟩,N2.hI,N2.hO,N2.h1,N2.h2,N2.hl1,N2.hl2,rfl,⟨List.Pairwise.nil,fun _ h=>absurd h (by simp),fun j a hj=>by simp at hj⟩⟩ (fun b o n1 _ _ _ _ e=>oth2 b o n1 (oth1 b o n1 e)) e2 rfl
theorem init {R:Result→Shared→Prop} {z TI TO i1 i2 l1 l2 S:Addr} {lo:Nat} {xs ys:Array Value} (hh:A.handled=none) (U:Und z TI TO i1 i2 l1 l2 S lo) (N:New s.heap z TI TO i1 i2 l1 l2 xs ys) (hn:xs.size≤sizeLine) (hxy:ys.size=xs.size) (hlo:lo≤s.heap.objs.size) (hS:s.heap.get? S=some {cls:= .type "list",data:= .seq #[]})
  (hR:∀ h' tk acc c as,(∀ b o,b≠S→b≠z→b≠TO→b≠i1→b≠i2→s.heap.get? b=some o→h'.get? b=some o)→h'.get? S=some {cls:= .type "list",data:= .seq acc c}→acc.toList=as.map .ref→as.length=xs.size→ZGot h' lo xs ys as→R (.ok (.ret .none)) {s with heap:=h',toks:=tk}):
  wpAny (model prog w) A.in1 (Builtin.«list.__init__» ⟨[.ref S,.ref z],[]⟩)
   (fun fin s'=>match fin with | .done f=>R (.ok f) s' | .again c'=>c'.quiet=true∧codeAny (model prog w) A c' R s') (fun e s'=>R (.error e) s') s:=by
 show wpAny _ _ (do let old ← Builtin.List.listItems (.ref S);Builtin.List.listUpdate (.ref S) (fun _=>#[]);letGo old.toList.reverse;Builtin.List.listExtendWith (.ref S) (.ref z) .none) _ _ s
 refine wpAny_bind ?_
 unfold Builtin.List.listItems
 refine wpAny_bind (wpAny_seqItems hS rfl (wpAny_pure ?_))
 show wpAny _ _ (updateSeq S (fun _=>#[]) >>=fun _=>letGo (#[]:Array Value).toList.reverse >>=fun _=>Builtin.List.listExtendWith (.ref S) (.ref z) .none) _ _ s
 refine wpAny_bind (wpAny_updateSeq hS rfl ?_)
 have hS2:=Heap.get?_update_self (Obj.mapSeq (fun _=>(#[]:Array Value))) hS rfl
 have oth:∀ b o,b≠S→s.heap.get? b=some o→(s.heap.update S (Obj.mapSeq (fun _=>(#[]:Array Value)))).get? b=some o:=fun b o hb e=>(Heap.get?_update_other _ _ (Ne.symm hb)).trans e
 have es:(s.heap.update S (Obj.mapSeq (fun _=>(#[]:Array Value)))).objs.size=s.heap.objs.size:=(Heap.SameBut.update ..).1
 refine wpAny_bind (wpAny_letGo ?_)
 refine OP (s:={s with heap:=_}) hh U (N.keep fun b o e hb=>oth b o ?_ e) hn hxy (by show lo≤(s.heap.update S _).objs.size;rw [es];exact hlo) .none hS2 fun h' tk acc c as k a1 a2 a3 a4=>hR h' tk acc c as (fun b o n1 n2 n3 n4 n5 e=>k b o n1 n2 n3 n4 n5 (oth b o n1 e)) a1 a2 a3 a4
 rcases hb with rfl | rfl | rfl | rfl | rfl | rfl | rfl
 ·exact Ne.symm U.Sz
 ·exact Ne.symm U.STI
 ·exact Ne.symm U.STO
 ·exact Ne.symm U.Si1
 ·exact Ne.symm U.Si2
 ·exact Ne.symm U.Sl1
 ·exact Ne.symm U.Sl2
theorem call_list {Q:Value→Shared→Prop} {z TI TO i1 i2 l1 l2:Addr} {xs ys:Array Value} (hh:A.handled=none) (N:New s.heap z TI TO i1 i2 l1 l2 xs ys) (hn:xs.size≤sizeLine) (hxy:ys.size=xs.size)
  (hQ:∀ h' tk acc c as,(∀ b o,b≠z→b≠TO→b≠i1→b≠i2→s.heap.get? b=some o→h'.get? b=some o)→h'.get? s.heap.objs.size=some {cls:= .type "list",data:= .seq acc c}→acc.toList=as.map .ref→as.length=xs.size→ZGot h' (s.heap.objs.size + 1) xs ys as→Q (.ref s.heap.objs.size) {s with heap:=h',toks:=tk}):
  wpAny (model prog w) A (call (.type "list") [.ref z]) Q E s:=by
 have lz:=iV N.hz
 have lTI:=iV N.hI
 obtain ⟨pa,pb,eO⟩:=N.hO
 have lTO:=iV eO
 have li1:i1 < s.heap.objs.size:=let ⟨o,e,_⟩:=N.h1;iV e
 have li2:i2 < s.heap.objs.size:=let ⟨o,e,_⟩:=N.h2;iV e
 have ll1:l1 < s.heap.objs.size:=let ⟨o,e,_⟩:=N.hl1;iV e
 have ll2:l2 < s.heap.objs.size:=let ⟨o,e,_⟩:=N.hl2;iV e
 refine callType_codes (Q₁:=fun obj s₁=>obj= .ref s.heap.objs.size∧s₁={s with heap:=s.heap.push {cls:= .type "list",data:= .seq #[]}}) F.called_list (F.typeCall_list_1 _) F.entry_list_init (code_list_new _ ⟨rfl,rfl⟩) fun obj s₁ h₁=>?_
 obtain ⟨rfl,rfl⟩:=h₁
 have hS:(s.heap.push {cls:= .type "list",data:= .seq #[]}).get? s.heap.objs.size=some {cls:= .type "list",data:= .seq #[]}:=Heap.get?_push_size _ rfl
 have up:∀ {b:Addr},b < s.heap.objs.size→b < s.heap.objs.size + 1:=fun h=>Nat.lt_succ_of_lt h
 have ne:∀ {b:Addr},b < s.heap.objs.size→s.heap.objs.size≠b:=fun h=>Nat.ne_of_gt h
 have U:Und z TI TO i1 i2 l1 l2 s.heap.objs.size (s.heap.objs.size + 1):=⟨N.ap,ne lz,ne lTI,ne lTO,ne li1,ne li2,ne ll1,ne ll2,up lz,up lTO,up li1,up li2,Nat.lt_succ_self _⟩
 have sz:(s.heap.push {cls:= .type "list",data:= .seq #[]}).objs.size=s.heap.objs.size + 1:=by simp [Heap.push]
 refine ⟨⟨_,hS,rfl⟩,F.args_list_init_2 _ _,init (A:=A.in1) (s:={s with heap:=_}) hh U (N.keep fun b o e _=>Heap.get?_push_of_some _ e) hn hxy (Nat.le_of_eq sz.symm) hS fun h' tk acc c as k a1 a2 a3 a4=>?_⟩
 exact ⟨rfl,hQ h' tk acc c as (fun b o n2 n3 n4 n5 e=>k b o (Nat.ne_of_lt (iV e)) n2 n3 n4 n5 (Heap.get?_push_of_some _ e)) a1 a2 a3 a4⟩
end
end ZP
open PySem PySem.Spec PyProof.Rows
theorem y8:∀ as:List Addr,Vals (as.map V.ref) (as.map Value.ref)
 | []=> .nil
 | _::as=> .cons rfl (y8 as)
theorem KD {X:Cx} {pins:List (Addr×Obj)} {σ:St} {s0 s:Shared} {H0:Hp} (I0:Inv X pins σ H0 s0):∀ (as:List Addr) (xs ys:List V) (H:Hp),Inv X pins σ H s→as.Pairwise (· < ·)→(∀ a∈as,s0.heap.objs.size≤a∧H a=none)→as.length=xs.length→as.length=ys.length→
  (∀ (j:Nat) (a:Addr) (x y:V),as[j]? =some a→xs[j]? =some x→ys[j]? =some y→∃ u v,RelV x u∧RelV y v∧s.heap.IsTuple a #[u,v])→
  ∃ H2,Inv X pins σ H2 s∧Same H H2∧(∀ b,b∉as→H2 b=H b)∧∀ (j:Nat) (a:Addr) (x y:V),as[j]? =some a→xs[j]? =some x→ys[j]? =some y→H2 a=some (.tup [x,y])
 | [],_,_,H,I,_,_,_,_,_=>⟨H,I,Same.refl _,fun _ _=>rfl,fun j a x y h=>by simp at h⟩
 | a::as,[],_,H,I,_,_,h,_,_=>by simp at h
 | a::as,_,[],H,I,_,_,_,h,_=>by simp at h
 | a::as,x::xs,y::ys,H,I,pw,fr,l1,l2,ht=>by
   obtain ⟨u,v,ru,rv,o,e,c⟩:=ht 0 a x y rfl rfl rfl
   have fa:=fr a (List.mem_cons_self ..)
   have pw':=List.pairwise_cons.mp pw
   have na:a∉as:=fun h=>Nat.lt_irrefl _ (pw'.1 a h)
   have I1:Inv X pins σ (upd H a (.tup [x,y])) s:=I.track (I0.fpN (Heap.get?_none_of_le fa.1) fa.2) ⟨y9,[u,v],.cons ru (.cons rv .nil),o,e,c⟩
   obtain ⟨H2,I2,s2,o2,g2⟩:=KD I0 as xs ys (upd H a (.tup [x,y])) I1 pw'.2 (fun b hb=>⟨(fr b (List.mem_cons_of_mem _ hb)).1,by rw [aL (fun z:b=a=>na (by rw [← z];exact hb))];exact (fr b (List.mem_cons_of_mem _ hb)).2⟩) (by simpa using l1) (by simpa using l2) fun j b x' y' h1 h2 h3=>ht (j + 1) b x' y' (by simpa using h1) (by simpa using h2) (by simpa using h3)
   refine ⟨H2,I2,fun b ob h=>s2 b ob (by rw [aL (ar h fa.2)];exact h),fun b hb=>?_,fun j b x' y' h1 h2 h3=>?_⟩
   ·rw [o2 b fun z=>hb (List.mem_cons_of_mem _ z),aL (fun z:b=a=>hb (by rw [z];exact List.mem_cons_self ..))]
   ·cases j with
    | zero=>
      have e1:a=b:=by simpa using h1
      have e2:x=x':=by simpa using h2
      have e3:y=y':=by simpa using h3
      subst e1 e2 e3
      exact s2 a _ bf
    | succ j=>exact g2 j b x' y' (by simpa using h1) (by simpa using h2) (by simpa using h3)
noncomputable def M3 (K:PySem.W.Frag) (Q:VK) (x y:V) (H:Hp):Prop:=∃ a b xs ys,x= .ref a∧y= .ref b∧SqL K H a xs∧SqL K H b ys∧xs.length=ys.length∧
 ∀ (D:Addr) (ps:List Addr) (H3:Hp),H D=none→Same H H3→H3 D=some (.lst (ps.map V.ref))→ps.length=xs.length→(∀ (j:Nat) (p:Addr) (x y:V),ps[j]? =some p→xs[j]? =some x→ys[j]? =some y→H3 p=some (.tup [x,y]))→Q (.ref D) H3
noncomputable def tZip (K:PySem.W.Frag) (t1 t2:TE):TE:=fun σ H Q=>t1 σ H fun x H1=>t2 σ H1 fun y H2=>M3 K Q x y H2
theorem Pj {K:PySem.W.Frag} {t1 t2:TE} {σ:St} {H:Hp} {Q:VK} (h:t1 σ H fun x H1=>t2 σ H1 fun y H2=>M3 K Q x y H2):tZip K t1 t2 σ H Q:=h
section
variable {X:Cx}
theorem OQ {K:PySem.W.Frag} {e1 e2:Expr} {t1 t2:TE} {p1 p2:Pos} {pins:List (Addr×Obj)} {s:Shared} {σ:St} {H:Hp} {Q:VK} (hK:X.K=K) (g2:Gl X "zip") (n2:X.mg "zip"=none) (he1:PE X e1 t1) (he2:PE X e2 t2) (h2:starEach [e1,e2] X.env=(false,eval e1 X.env)::starEach [e2] X.env) (h3:starEach [e2] X.env=[(false,eval e2 X.env)])
  (I:Inv X pins σ H s) (h:tZip K t1 t2 σ H Q) (Q':Value→Shared→Prop)
  (hQ:∀ (s1:Shared) (h':Heap) (H1:Hp) (a b:Addr) (xs ys:List V) (its jts:List Value),Inv X pins σ H1 s1→Vals xs its→Vals ys jts→its.length≤sizeLine→xs.length=ys.length→h'.objs.size=s1.heap.objs.size + 5→(∀ c o,s1.heap.get? c=some o→h'.get? c=some o)→
   ZP.New h' (s1.heap.objs.size + 4) (s1.heap.objs.size + 2) (s1.heap.objs.size + 3) s1.heap.objs.size (s1.heap.objs.size + 1) a b its.toArray jts.toArray→
   (∀ (D:Addr) (ps:List Addr) (H3:Hp),H1 D=none→Same H1 H3→H3 D=some (.lst (ps.map V.ref))→ps.length=xs.length→(∀ (j:Nat) (p:Addr) (x y:V),ps[j]? =some p→xs[j]? =some x→ys[j]? =some y→H3 p=some (.tup [x,y]))→Q (.ref D) H3)→
   Q' (.ref (s1.heap.objs.size + 4)) {s1 with heap:=h'}):
  wpAny (model X.prog X.w) X.A (eval (.Call (.Name "zip" p1) [e1,e2] [] p2) X.env) Q' X.xe s:=by
 subst hK
 refine Call_ (ke I g2 n2 PyProof.Rows.boot_zip (PyProof.Rows.callWith_type1 (thn (aa he1 (aa he2 ai h3) h2 p2 pins s σ H (fun vs H1=>match vs with | [x,y]=>M3 X.K Q x y H1 | _=>False) I h) fun us s1 ⟨vs,H1,I1,r1,q1⟩=>?_) h2 (by rw [h3];rfl)))
 match vs,r1,q1 with
 | [x,y],r1,q1=>
 obtain ⟨a,b,xs,ys,ex,ey,sa,sb,hl,q⟩:=q1
 subst ex ey
 cases r1 with
 | cons rx r2=>
 cases r2 with
 | cons ry r3=>
 cases r3
 cases rx
 cases ry
 obtain ⟨its,ra,pa,hza⟩:=I1.list sa
 obtain ⟨jts,rb,pb,hzb⟩:=I1.list sb
 have la:a < s1.heap.objs.size:=let ⟨o,e,_⟩:=pa.isList;Heap.lt_size e
 have lb:b < s1.heap.objs.size:=let ⟨o,e,_⟩:=pb.isList;Heap.lt_size e
 refine call_zip_2 pa.isList pb.isList fun h' z1 z2 z3 z4 z5 hsz k=>?_
 exact hQ s1 h' H1 a b xs ys its jts I1 ra rb (by rw [← ra.length];exact hza) hl hsz k ⟨zipApart_new la lb,z1,z2,⟨_,_,z3⟩,z4,z5,let ⟨o,e,c⟩:=pa.isList;⟨o,k _ o e,c⟩,let ⟨o,e,c⟩:=pb.isList;⟨o,k _ o e,c⟩⟩ q
theorem wJ {K:PySem.W.Frag} {e1 e2:Expr} {t1 t2:TE} {p1 p2 q1 q2:Pos} (hK:X.K=K) (hc:X.calm=true) (g1:Gl X "list") (g2:Gl X "zip") (n1:X.mg "list"=none) (n2:X.mg "zip"=none) (he1:PE X e1 t1) (he2:PE X e2 t2)
  (h1:starEach [Expr.Call (.Name "zip" p1) [e1,e2] [] p2] X.env=[(false,eval (.Call (.Name "zip" p1) [e1,e2] [] p2) X.env)]:=by rfl) (h2:starEach [e1,e2] X.env=(false,eval e1 X.env)::starEach [e2] X.env:=by rfl) (h3:starEach [e2] X.env=[(false,eval e2 X.env)]:=by rfl):
  PE X (.Call (.Name "list" q1) [.Call (.Name "zip" p1) [e1,e2] [] p2] [] q2) (tZip K t1 t2):=by
 intro pins s σ H Q I h
 refine Call_ (ke I g1 n1 PyProof.Rows.boot_list (PyProof.Rows.callWith_type1 (Q:=EP X pins σ Q) ?_ h1 rfl))
 rw [h1]
 show wpAny _ _ (spliced ((false,eval (.Call (.Name "zip" p1) [e1,e2] [] p2) X.env)::backTo q2 [])) _ _ s
 refine Calls.spliced_cons (OQ hK g2 n2 he1 he2 h2 h3 I h _ fun s1 h' H1 a b xs ys its jts I1 ra rb hza hl hsz k N q=>Calls.spliced_nil ?_)
 have hlj:jts.toArray.size=its.toArray.size:=by have:=ra.length;have:=rb.length;simp;omega
 refine ZP.call_list (s:={s1 with heap:=h'}) (I1.ok.hd hc) N (by simpa using hza) hlj fun h2 tk acc c as kk hD hacc hlen G=>?_
 have kk2:∀ b o,s1.heap.get? b=some o→h2.get? b=some o:=fun b o e=>by
  have lt:=Heap.lt_size e
  exact kk b o (Nat.ne_of_lt (Nat.lt_of_lt_of_le lt (Nat.le_add_right _ _))) (Nat.ne_of_lt (Nat.lt_of_lt_of_le lt (Nat.le_add_right _ _))) (Nat.ne_of_lt lt) (Nat.ne_of_lt (Nat.lt_of_lt_of_le lt (Nat.le_add_right _ _))) (k b o e)
 have I2:Inv X pins σ H1 {s1 with heap:=h2,toks:=tk}:=I1.kept (t':=tk) kk2
 have lx:as.length=xs.length:=by rw [hlen,ra.length];simp
 have fra:∀ p∈as,s1.heap.objs.size≤p∧H1 p=none:=fun p hp=>by
  have h0:s1.heap.objs.size≤p:=Nat.le_trans (by show s1.heap.objs.size≤h'.objs.size + 1;rw [hsz];exact Nat.le_trans (Nat.le_add_right _ _) (Nat.le_succ _)) (G.above p hp).1
  exact ⟨h0,I1.hok.fresh h0⟩
 obtain ⟨H3,I3,s3,o3,g3⟩:=KD I1 as xs ys H1 I2 G.rise fra lx (lx.trans hl) fun j p x y hp hx hy=>by
  obtain ⟨u,v,hu,hv,ht⟩:=G.pairs j p hp
  rw [List.getElem?_toArray] at hu hv
  obtain ⟨u',eu,ru⟩:=ra.get hx
  obtain ⟨v',ev,rv⟩:=rb.get hy
  rw [eu] at hu;cases hu
  rw [ev] at hv;cases hv
  exact ⟨u,v,ru,rv,ht⟩
 have le5:s1.heap.objs.size≤h'.objs.size:=by rw [hsz];exact Nat.le_add_right _ _
 have fD:H1 h'.objs.size=none:=I1.hok.fresh le5
 have nD:h'.objs.size∉as:=fun z=>Nat.not_succ_le_self _ (G.above _ z).1
 have fD3:H3 h'.objs.size=none:=by rw [o3 _ nD];exact fD
 have hDn:s1.heap.get? h'.objs.size=none:=Heap.get?_none_of_le le5
 have I4:Inv X pins σ (upd H3 h'.objs.size (.lst (as.map V.ref))) {s1 with heap:=h2,toks:=tk}:=I3.track (I1.fpN hDn fD3) ⟨by rw [List.length_map,lx,ra.length];exact hza,as.map .ref,c,y8 as,by rw [← hacc];exact hD⟩
 refine ⟨.ref h'.objs.size,_,I4,rfl,q h'.objs.size as _ fD (fun b ob e=>?_) bf lx fun j p x y hp hx hy=>?_⟩
 ·rw [aL (ar (s3 b ob e) fD3)];exact s3 b ob e
 ·have:=g3 j p x y hp hx hy
  rw [aL (ar this fD3)];exact this
end
structure FunD (K:PySem.W.Frag) (x qual:Str) (st:Stmt) (f:Addr) (fd:FuncData) (dv:Value):Prop where
 ex:∃ (oc:Value) (od:Option Addr) (T:Addr) (kV doc pm:Value) (an:Option Addr) (cdv ct:Value) (osl:Array (Option Value)) (tc:Value) (td:Option Addr) (n:Nat) (tsl:Array (Option Value)),
  fd=PySem.W.fnOf x qual (aC st) (az st) (ag st) (.ref T) kV doc pm an cdv ct∧K.lookup f=some ⟨oc,od,.func fd,osl⟩∧PySem.W.codeIn K cdv qual=true∧K.lookup T=some ⟨tc,td,.seq #[dv] n,tsl⟩
 kp:PySem.W.keepIn K (.ref f)=true
section
variable {P:Program} {w:World} {K:PySem.W.Frag} {mg:Str→Option Value} {base:Heap}
theorem FunD.okX {x qual:Str} {st:Stmt} {f:Addr} {fd:FuncData} {dv:Value} {N ps:List Str} {k:Nat} {sp:Sp} (F:FunD K x qual st f fd dv) (S:aD N ps (ag st)) (len:∀ vs H Q E,sp vs H Q E→vs.length=ps.length)
  (hbody:∀ (cdv:Value) (A:Around) (outer:List Env) (s:Shared) (H:Hp) (vs:List V) (Q:VK) (E:XK),Room k (A.deeper (envOfC qual (ag st) s.heap.objs.size f cdv))→sp vs H Q E→
   ∃ t,PSs ((cxOf (CX1 P w) P w K mg base N qual (ag st) f cdv A outer s H E).thr fun _=>E) (az st) t∧t {nx:=fun _ H'=>Q .non H',rt:=Q} (qV N vs) H):FnOk P w K mg base (CX1 P w) (k + 1) f fd ps sp:=by
 obtain ⟨oc,od,T,kV,doc,pm,an,cdv,ct,osl,tc,td,n,tsl,rfl,lk,hcd,_⟩:=F.ex
 refine MH lk hcd S len fun A outer s H vs Q E hr hsp=>?_
 obtain ⟨t,h,q⟩:=hbody cdv A outer s H vs Q E hr hsp
 exact ⟨t,h.thr CT,q⟩
theorem FunD.binds {x qual:Str} {st:Stmt} {f:Addr} {fd:FuncData} {dv:Value} {ps:List Str} {ds:List Value} (F:FunD K x qual st f fd dv)
  (h:∀ (T:Addr) (kV doc pm:Value) (an:Option Addr) (cdv ct:Value) (us:List Value),(us++ds).length=ps.length→∃ k:Option (Array Value)→Sem (List (Str×Value)),bindArgs (PySem.W.fnOf x qual (aC st) (az st) (ag st) (.ref T) kV doc pm an cdv ct) ⟨us,[]⟩=(seqItems? (.ref T) >>=k)∧k (some #[dv])=pure (ps.zip (us++ds))):bz K fd ps ds:=by
 obtain ⟨oc,od,T,kV,doc,pm,an,cdv,ct,osl,tc,td,n,tsl,rfl,lk,hcd,lT⟩:=F.ex
 intro s us hK hl
 obtain ⟨k,e1,e2⟩:=h T kV doc pm an cdv ct us hl
 exact BindsTo.of_defaults (T:=T) rfl (hK T _ lT) rfl e1 e2
theorem MF {x qual:Str} {st:Stmt} {f T:Addr} {oc tc dv:Value} {od an td:Option Addr} {osl tsl:Array (Option Value)} {n:Nat} {kV doc pm cdv ct:Value} (l:K.lookup f=some ⟨oc,od,.func (PySem.W.fnOf x qual (aC st) (az st) (ag st) (.ref T) kV doc pm an cdv ct),osl⟩)
  (lT:K.lookup T=some ⟨tc,td,.seq #[dv] n,tsl⟩) (c:PySem.W.codeIn K cdv qual=true) (k:PySem.W.keepIn K (.ref f)=true):FunD K x qual st f (PySem.W.fnOf x qual (aC st) (az st) (ag st) (.ref T) kV doc pm an cdv ct) dv:=⟨⟨oc,od,T,kV,doc,pm,an,cdv,ct,osl,tc,td,n,tsl,rfl,l,c,lT⟩,k⟩
end
section
variable {σ:St} {H:Hp} {Q:VK} {te:TE}
noncomputable def IH (C:Addr) (m:Str) (sp:Sp) (dvs:List V) (W:XW) (tr:TA) (σ:St) (Q:VK) (x:V) (H:Hp):Prop:=∃ a dx fs,x= .ref a∧H a=some (.ins C dx fs)∧fs.lookup m=none∧tr σ H fun vs H2=>sp (x::(vs++dvs)) H2 Q (W σ)
theorem gc {C:Addr} {m:Str} {sp:Sp} {dvs:List V} {W:XW} {tr:TA} (h:te σ H (IH C m sp dvs W tr σ Q)):KG C m sp dvs W te tr σ H Q:=h
theorem bL {C dx p:Addr} {m:Str} {fs:List (Str×V)} {sp:Sp} {dvs:List V} {W:XW} {tr:TA} (e:H p=some (.ins C dx fs)) (l:fs.lookup m=none) (h:tr σ H fun vs H2=>sp (.ref p::(vs++dvs)) H2 Q (W σ)):IH C m sp dvs W tr σ Q (.ref p) H:=⟨p,dx,fs,rfl,e,l,h⟩
end
noncomputable def Itzp (K:PySem.W.Frag) (a b:Addr):It:=
 ⟨fun i H=>∃ xs ys x y,SqL K H a xs∧SqL K H b ys∧xs[i]? =some x∧ys[i]? =some y,
  fun i H x H'=>∃ p u v,H p=none∧x= .ref p∧H'=upd H p (.tup [u,v])∧(∀ xs,SqL K H a xs→xs[i]? =some u)∧∀ ys,SqL K H b ys→ys[i]? =some v,
  fun i H=>∃ xs ys,SqL K H a xs∧SqL K H b ys∧xs.length=ys.length∧xs.length=i⟩
theorem Jc {P:Program} {w:World} {K:PySem.W.Frag} {elts:List Expr} {k:Nat} {pos:Pos} (a b z TI TO i1 i2:Addr) (D:ZipApart z TI TO i1 i2 a b):
  Turn P w K (.Tuple elts k pos) (Itzp K a b) [z,TI,TO,i1,i2] z (fun i h=>IsZip h z TI TO .none∧IsPair h TI (.ref i1) (.ref i2)∧(∃ u v,IsPair h TO u v)∧h.IsListIter i1 a i∧h.IsListIter i2 b i) where
 mem:=by simp
 obj:=fun i h st c hb=>by
  obtain ⟨hz,hTI,⟨u,v,hTO⟩,⟨o1,ho1,_,hd1⟩,⟨o2,ho2,_,hd2⟩⟩:=st
  simp only [List.mem_cons,List.not_mem_nil,or_false] at hb
  rcases hb with e | e | e | e | e
  ·rw [e];exact ⟨_,hz,fun v z=>by cases z⟩
  ·rw [e];exact ⟨_,hTI,fun v z=>by cases z⟩
  ·rw [e];exact ⟨_,hTO,fun v z=>by cases z⟩
  ·rw [e];exact ⟨o1,ho1,fun v z=>by rw [hd1] at z;cases z⟩
  ·rw [e];exact ⟨o2,ho2,fun v z=>by rw [hd2] at z;cases z⟩
 keep:=fun i h h' st k=>by
  obtain ⟨hz,hTI,⟨u,v,hTO⟩,h1,h2⟩:=st
  exact ⟨k z (by simp) _ hz,k TI (by simp) _ hTI,⟨u,v,k TO (by simp) _ hTO⟩,h1.at fun o e=>k i1 (by simp) o e,h2.at fun o e=>k i2 (by simp) o e⟩
 item:=by
  intro X hP hw hK hc i pins s σ H E I hf st hg
  subst hP hw hK
  obtain ⟨xs,ys,x,y,qa,qb,hx,hy⟩:=hg
  obtain ⟨its,ra,pa,hza⟩:=I.list qa
  obtain ⟨jts,rb,pb,hzb⟩:=I.list qb
  obtain ⟨hz,hTI,hTO,h1,h2⟩:=st
  have W:=WalksT.zip2 (prog:=X.prog) (w:=X.w) (A:=X.A) (I.ok.hd hc) z TI TO i1 i2 a b D its.toArray jts.toArray
  have hi1:i < its.length:=by have:=ra.length;have:=(List.getElem?_eq_some_iff.mp hx).1;omega
  have hi2:i < jts.length:=by have:=rb.length;have:=(List.getElem?_eq_some_iff.mp hy).1;omega
  have lts:∀ c∈[z,TI,TO,i1,i2],c < s.heap.objs.size:=fun c hb=>by
   obtain ⟨u,v,hTO⟩:=hTO
   obtain ⟨o1,ho1,_⟩:=h1
   obtain ⟨o2,ho2,_⟩:=h2
   simp only [List.mem_cons,List.not_mem_nil,or_false] at hb
   rcases hb with e | e | e | e | e
   ·rw [e];exact Heap.lt_size hz
   ·rw [e];exact Heap.lt_size hTI
   ·rw [e];exact Heap.lt_size hTO
   ·rw [e];exact Heap.lt_size ho1
   ·rw [e];exact Heap.lt_size ho2
  refine W.item i s _ _ (by simp;omega) ⟨hz,hTI,hTO,h1,h2,pa.isList,pb.isList⟩ fun T vals h' tk hPt hT htup hmid hk=>⟨_,rfl,W.go elts k pos i T _ _ _ hmid fun h'' hst hk2=>?_⟩
  obtain ⟨x',y',hx',hy',rfl⟩:=hPt
  have hap:=W.apart i T h' hmid
  have ru:RelV x x':=by
   obtain ⟨u,hu,r⟩:=ra.get hx
   have hx'':its[i]? =some x':=by simpa using hx'
   rw [hu] at hx'';cases hx'';exact r
  have rv:RelV y y':=by
   obtain ⟨u,hu,r⟩:=rb.get hy
   have hy'':jts[i]? =some y':=by simpa using hy'
   rw [hu] at hy'';cases hy'';exact r
  have sub:∀ c,c∉[z,TI,TO,i1,i2]→c∉[z,TO,i1,i2]:=fun c h z'=>h (by
   simp only [List.mem_cons,List.not_mem_nil,or_false] at z' ⊢
   rcases z' with e | e | e | e<;>simp [e])
  have kk:∀ c u,c∉[z,TI,TO,i1,i2]→s.heap.get? c=some u→h''.get? c=some u:=fun c u hb q=>hk2 c u (sub c hb) (hk c u (sub c hb) q)
  have fr:H T=none:=I.hok.fresh hT
  refine ⟨.ref T,upd H T (.tup [x,y]),I.laidCh (t':=tk) kk hT ⟨y9,[x',y'],.cons ru (.cons rv .nil),?_⟩ hf,rfl,⟨T,x,y,fr,rfl,rfl,fun zs hz'=>by rw [I.list_inj hz' qa];exact hx,fun zs hz'=>by rw [I.list_inj hz' qb];exact hy⟩,⟨hst.1,hst.2.1,hst.2.2.1,hst.2.2.2.1,hst.2.2.2.2.1⟩,fun c hb=>?_⟩
  ·obtain ⟨o,ho,r⟩:=htup
   exact ⟨o,hk2 T o hap ho,r⟩
  ·rw [aL (fun e=>?_)]
   ·exact (hf c hb).1
   ·have:=lts c hb
    rw [e] at this
    exact absurd (Nat.lt_of_lt_of_le this hT) (Nat.lt_irrefl _)
 done:=by
  intro X hP hw hK hc i pins s σ H E I hf st hg
  subst hP hw hK
  obtain ⟨xs,ys,qa,qb,hl,hn⟩:=hg
  obtain ⟨its,ra,pa,hza⟩:=I.list qa
  obtain ⟨jts,rb,pb,hzb⟩:=I.list qb
  obtain ⟨hz,hTI,hTO,h1,h2⟩:=st
  have W:=WalksT.zip2 (prog:=X.prog) (w:=X.w) (A:=X.A) (I.ok.hd hc) z TI TO i1 i2 a b D its.toArray jts.toArray
  have e:min its.toArray.size jts.toArray.size=i:=by have:=ra.length;have:=rb.length;simp;omega
  rw [e] at W
  have sub:∀ c,c∉[z,TI,TO,i1,i2]→c∉[z,TO,i1,i2]:=fun c h z'=>h (by
   simp only [List.mem_cons,List.not_mem_nil,or_false] at z' ⊢
   rcases z' with e | e | e | e<;>simp [e])
  exact W.done s _ _ ⟨hz,hTI,hTO,h1,h2,pa.isList,pb.isList⟩ fun h' tk hk=>⟨rfl,I.turnedCh (fun c u hb q=>hk c u (sub c hb) q) hf⟩
 self:=fun _ _ _ _ _ st h=>wpAny_pyIter_zip st.1 h
noncomputable def M0 (K:PySem.W.Frag) (R:It→Hp→Prop) (x y:V) (H:Hp):Prop:=∃ a b xs ys,x= .ref a∧y= .ref b∧SqL K H a xs∧SqL K H b ys∧xs.length=ys.length∧R (Itzp K a b) H
noncomputable def iZip (K:PySem.W.Frag) (t1 t2:TE):TI:=fun σ H R=>t1 σ H fun x H1=>t2 σ H1 fun y H2=>M0 K R x y H2
theorem NT {K:PySem.W.Frag} {t1 t2:TE} {σ:St} {H:Hp} {R:It→Hp→Prop} (h:t1 σ H fun x H1=>t2 σ H1 fun y H2=>M0 K R x y H2):iZip K t1 t2 σ H R:=h
section
variable {X:Cx} {K:PySem.W.Frag}
theorem Oj {e1 e2:Expr} {t1 t2:TE} {elts:List Expr} {k:Nat} {tpos p pos:Pos} (hK:X.K=K) (g2:Gl X "zip") (n2:X.mg "zip"=none) (he1:PE X e1 t1) (he2:PE X e2 t2)
  (h2:starEach [e1,e2] X.env=(false,eval e1 X.env)::starEach [e2] X.env:=by rfl) (h3:starEach [e2] X.env=[(false,eval e2 X.env)]:=by rfl):
  PI X (.Tuple elts k tpos) (.Call (.Name "zip" p) [e1,e2] [] pos) (iZip K t1 t2):=by
 subst hK
 intro pins s σ H R I h
 refine Call_ (ke I g2 n2 PyProof.Rows.boot_zip (PyProof.Rows.callWith_type1 (thn (aa he1 (aa he2 ai h3) h2 pos pins s σ H (fun vs H1=>match vs with | [x,y]=>M0 X.K R x y H1 | _=>False) I h) fun us s1 ⟨vs,H1,I1,r1,q1⟩=>?_) h2 (by rw [h3];rfl)))
 match vs,r1,q1 with
 | [x,y],r1,q1=>
 obtain ⟨a,b,xs,ys,ex,ey,sa,sb,hl,q⟩:=q1
 subst ex ey
 cases r1 with
 | cons rx r2=>
 cases r2 with
 | cons ry r3=>
 cases r3
 cases rx
 cases ry
 obtain ⟨its,ra,pa,hza⟩:=I1.list sa
 obtain ⟨jts,rb,pb,hzb⟩:=I1.list sb
 have la:a < s1.heap.objs.size:=let ⟨o,e,_⟩:=pa.isList;Heap.lt_size e
 have lb:b < s1.heap.objs.size:=let ⟨o,e,_⟩:=pb.isList;Heap.lt_size e
 have fin:∀ c∈[s1.heap.objs.size + 4,s1.heap.objs.size + 2,s1.heap.objs.size + 3,s1.heap.objs.size,s1.heap.objs.size + 1],FpOk X pins H1 c:=fun c hb=>by
  have hb':s1.heap.objs.size≤c:=by
   simp only [List.mem_cons,List.not_mem_nil,or_false] at hb
   rcases hb with e | e | e | e | e<;>rw [e]<;>omega
  exact I1.fpOk hb' (I1.hok.fresh hb')
 refine call_zip_2 pa.isList pb.isList fun h' z1 z2 z3 z4 z5 hsz k=>wpAny_pyIter_zip z1 ?_
 exact ⟨s1.heap.objs.size + 4,_,_,_,H1,rfl,I1.kept (t':=s1.toks) k,Jc a b _ _ _ _ _ (zipApart_new la lb),⟨z1,z2,⟨_,_,z3⟩,z4,z5⟩,fin,q⟩
end
theorem MG {K:PySem.W.Frag} {a b:Addr} {xs ys:List V} {g:TG} {tb:TS} {D:Ends} {σ:St} {H:Hp} (hl:xs.length=ys.length) (Pv:Nat→St→Hp→Prop) (h0:Pv 0 σ H) (hq:∀ i σ H,i≤xs.length→Pv i σ H→SqL K H a xs∧SqL K H b ys)
  (hs:∀ i x y σ H p H',xs[i]? =some x→ys[i]? =some y→Pv i σ H→H p=none→Same H H'→H' p=some (.tup [x,y])→g (.ref p) σ H' fun σ2 H2=>tb {D with nx:=Pv (i + 1),ct:=Pv (i + 1),bk:=D.nx} σ2 H2) (hd:∀ σ H,Pv xs.length σ H→D.nx σ H):
  ∃ W:Nat→Nat→St→Hp→Prop,(∃ m,W 0 m σ H)∧∀ i m σ H,W i m σ H→
    ((Itzp K a b).stop i H∧D.nx σ H)∨((Itzp K a b).go i H∧∃ N:St→Hp→Prop,(∀ σ' H',N σ' H'→∃ m',m' < m∧W (i + 1) m' σ' H')∧∀ x H',(Itzp K a b).yld i H x H'→g x σ H' fun σ2 H2=>tb {D with nx:=N,ct:=N,bk:=D.nx} σ2 H2):=by
 refine ⟨fun i m σ H=>m=xs.length - i∧i≤xs.length∧Pv i σ H,⟨xs.length,by simp,Nat.zero_le _,h0⟩,?_⟩
 rintro i m σ H ⟨rfl,hi,p⟩
 obtain ⟨qa,qb⟩:=hq i σ H hi p
 by_cases hlt:i < xs.length
 ·refine .inr ⟨⟨xs,ys,xs[i],ys[i]'(by omega),qa,qb,by simp [hlt],by simp [show i < ys.length by omega]⟩,Pv (i + 1),fun σ' H' p'=>⟨xs.length - (i + 1),by omega,rfl,hlt,p'⟩,fun x H' y=>?_⟩
  obtain ⟨r,u,v,f,e1,e2,y1,y2⟩:=y
  subst e1 e2
  exact hs i u v σ H r _ (y1 xs qa) (y2 ys qb) p f (fP f) bf
 ·have e:i=xs.length:=by omega
  subst e
  exact .inl ⟨⟨xs,ys,qa,qb,hl,rfl⟩,hd σ H p⟩
noncomputable abbrev xBM:List Value:=[.type "ValueError",.type "Exception",.type "BaseException",.type "object"]
structure XOwn (K:PySem.W.Frag) (C W f:Addr):Prop where
 lk:∃ nm q N bs sn sub ab col dd k0 k1 k2 k3 k5,K.lookup C=some (excClassObj nm q C N bs (.ref W::xBM) true sn sub ab col dd k0 k1 k2 k3 k5 "ValueError.__new__")
 up:PySem.W.excIn K W xBM "ValueError.__new__"=true
 init:PySem.W.findIn K (.ref C) "__init__"=some (some (.ref f))
 fn:PySem.W.isFn K (.ref f)=true
 kp:PySem.W.keepIn K (.ref C)=true
 sa:PySem.W.findIn K (.ref C) "__setattr__"=some (some (.builtin "object.__setattr__"))
 mo:PySem.W.mroIn K C (.type "object")=some true
 mv:PySem.W.mroIn K C (.type "ValueError")=some true
section
variable {X:Cx} {pins:List (Addr×Obj)} {σ:St} {H:Hp} {s:Shared} {p C W f:Addr} {fs:List (Str×V)}
structure Qd (K:PySem.W.Frag) (W:Addr):Prop where
 ga:PySem.W.specialIn K (.ref W) "__getattribute__"=some (some (.builtin "type.__getattribute__"))
 rd:PySem.W.readsIn K W (.type "type")=true
 fd:PySem.W.findCls K (.ref W) (.type "type") "__init__"=some (.val (.builtin "ValueError.__init__"))
end
end L2
namespace PySem
end PySem
namespace L2
open PySem PySem.Spec PyProof.Rows
noncomputable def Itd (a:Addr) (o:Obj) (kvs:List (Key×V)):It:=
 ⟨fun i H=>H a=some (.frz o (.dK kvs))∧i < kvs.length,fun i H x H'=>H'=H∧(J4 kvs)[i]? =some x,fun i H=>H a=some (.frz o (.dK kvs))∧i=kvs.length⟩
theorem HM {P:Program} {w:World} {H:Hp} {h:Heap} {a:Addr} {o:Obj} {kvs:List (Key×V)} {es:Array DictEntry} {ep:Nat} (ok:HOk P w H h) (e:H a=some (.frz o (.dK kvs))) (hd:o.data= .dict es ep):
  (a == sysModules)=false∧∃ vs,KV kvs vs∧h.DictAt (bY P w) a vs ep:=by
 obtain ⟨q,z,lo,vs,rel,o',es',ep',h1,h2,h3,r⟩:=(show eB P w H h a (.frz o (.dK kvs)) from ok a _ e)
 rw [q] at h1;cases h1
 rw [hd] at h3;cases h3
 exact ⟨lo,vs,rel,o,es,q,h2,hd,r⟩
theorem Gd {P:Program} {w:World} {K:PySem.W.Frag} {tg:Expr} (a it:Addr) (o:Obj) (kvs:List (Key×V)) (es:Array DictEntry) (ep:Nat) (hd:o.data= .dict es ep):Turn P w K tg (Itd a o kvs) [it] it (fun i h=>h.IsKeyIter it a i kvs.length ep) where
 mem:=by simp
 obj:=fun i h st b hb=>by
  have e:b=it:=by simpa using hb
  subst e
  obtain ⟨o,e,c,d⟩:=st
  exact ⟨o,e,fun v z=>by rw [d] at z;cases z⟩
 keep:=fun i h h' st k=>let ⟨o,e,r⟩:=st;⟨o,k it (by simp) o e,r⟩
 item:=by
  intro X hP hw hK hc i pins s σ H E I hf st hg
  subst hP hw hK
  obtain ⟨hq,hi⟩:=hg
  obtain ⟨lo,vs,rel,dd⟩:=HM I.hok hq hd
  have hlen:=rel.length
  obtain ⟨f0,f1,f2,f3,f4,f5⟩:=hf it (by simp)
  rw [hlen] at st
  have hx:vs[i]? =some ((vs[i]'(by omega)).1,(vs[i]'(by omega)).2):=List.getElem?_eq_getElem (by omega)
  refine wpAny_pyNext_dict_item st dd hx fun key h' hk st' sb=>?_
  have I1:Inv X pins σ H {s with heap:=h'}:=I.turned (t':=s.toks) (fun b o hb e=>(sb.2 b hb).trans e) f0 f1 f3 f4 f5
  rw [← hlen] at st'
  obtain ⟨o,e,c,d⟩:=id st'
  have ek:(J4 kvs)[i]? =some (kV (vs[i]'(by omega)).1):=by
   unfold J4
   rw [List.getElem?_map]
   have e1:(kvs.map (·.1))[i]? =(vs.map (·.1))[i]? :=by rw [rel.keys]
   rw [List.getElem?_map,List.getElem?_map,hx] at e1
   obtain ⟨kv,e2,e3⟩:=Option.map_eq_some_iff.mp e1
   rw [e2];exact congrArg some (congrArg kV e3)
  exact ⟨key,rfl,MC (s:={s with heap:=h'}) e c d (by decide) ⟨_,H,I1,GH hk,⟨rfl,ek⟩,st',fun b hb=>(hf b hb).1⟩⟩
 done:=by
  intro X hP hw hK hc i pins s σ H E I hf st hg
  subst hP hw hK
  obtain ⟨hq,hi⟩:=hg
  obtain ⟨lo,vs,rel,dd⟩:=HM I.hok hq hd
  have hlen:=rel.length
  obtain ⟨f0,f1,f2,f3,f4,f5⟩:=hf it (by simp)
  rw [hlen] at st
  exact wpAny_pyNext_dict_end (I.ok.hd hc) st dd (List.getElem?_eq_none (by omega)) fun h' eb=>⟨rfl,I.turned (t':=s.toks) (fun b o hb e=>eb b o hb e) f0 f1 f3 f4 f5⟩
 self:=fun A i s Q E st h=>wpAny_pyIter_keyiter st h
noncomputable def OO (tl:TE):TI:=fun σ H R=>tl σ H fun x H1=>∃ a kvs,x= .ref a∧Rd H1 a (.dK kvs)∧∀ o H2,H2 a=some (.frz o (.dK kvs))→(∀ b,b≠a→H2 b=H1 b)→R (Itd a o kvs) H2
theorem LS {tl:TE} {σ:St} {H:Hp} {R:It→Hp→Prop} (h:tl σ H fun x H1=>∃ a kvs,x= .ref a∧Rd H1 a (.dK kvs)∧∀ o H2,H2 a=some (.frz o (.dK kvs))→(∀ b,b≠a→H2 b=H1 b)→R (Itd a o kvs) H2):OO tl σ H R:=h
theorem Md {X:Cx} {tg l:Expr} {tl:TE} (hl:PE X l tl):PI X tg l (OO tl):=by
 intro pins s σ H R I h
 refine thn (hl pins s σ H _ I h) fun v s1 ⟨x,H1,I1,r1,q1⟩=>?_
 obtain ⟨a,kvs,rfl,hr,q⟩:=q1
 cases r1
 have fz:∃ o H2,Inv X pins σ H2 s1∧H2 a=some (.frz o (.dK kvs))∧(∀ b,b≠a→H2 b=H1 b)∧∃ es ep,o.data= .dict es ep:=by
  rcases hr with hr | ⟨o,hr⟩
  ·obtain ⟨z,lo,vs,rel,dd⟩:=Kk I1.hok hr
   obtain ⟨o,es,ep,h1,h2,h3,r⟩:=id dd
   have I2:=I1.write (t':=s1.toks) (h':=s1.heap) (x:=a) (e:=a) (o:= .frz o (.dK kvs)) (by rw [hr];exact True.intro) (.inl rfl) (fun b u _ e=>e) ⟨o,h1⟩ ⟨h1,z,lo,vs,rel,dd⟩
   exact ⟨o,_,I2,bf,fun b hb=>aL hb,es,ep,h3⟩
  ·obtain ⟨q,z,lo,vs,rel,o',es,ep,h1,h2,h3,r⟩:=(show eB X.prog X.w H1 s1.heap a (.frz o (.dK kvs)) from I1.hok a _ hr)
   rw [q] at h1;cases h1
   exact ⟨o,H1,I1,hr,fun _ _=>rfl,es,ep,h3⟩
 obtain ⟨o,H2,I2,e2,k2,es,ep,hd⟩:=fz
 obtain ⟨lo,vs,rel,dd⟩:=HM I2.hok e2 hd
 refine wpAny_pyIter_dict lo dd ?_
 refine ⟨s1.heap.objs.size,[s1.heap.objs.size],_,_,H2,rfl,I2.kept (t':=s1.toks) fun b o e=>Heap.get?_push_of_some _ e,Gd a _ o kvs es ep hd,⟨_,Heap.get?_push_size _ rfl,rfl,by rw [rel.length];rfl⟩,fun b hb=>?_,q o H2 e2 k2⟩
 have e:b=s1.heap.objs.size:=by simpa using hb
 subst e
 exact I2.fpOk (Nat.le_refl _) (I2.hok.fresh (Nat.le_refl _))
theorem Kc {a:Addr} {o:Obj} {kvs:List (Key×V)} {g:TG} {tb:TS} {D:Ends} {σ:St} {H:Hp} (Pv:Nat→St→Hp→Prop) (h0:Pv 0 σ H) (hl:∀ i σ H,i≤kvs.length→Pv i σ H→H a=some (.frz o (.dK kvs)))
  (hs:∀ i k v σ H,kvs[i]? =some (k,v)→Pv i σ H→g (kV k) σ H fun σ2 H2=>tb {D with nx:=Pv (i + 1),ct:=Pv (i + 1),bk:=D.nx} σ2 H2) (hd:∀ σ H,Pv kvs.length σ H→D.nx σ H):
  ∃ W:Nat→Nat→St→Hp→Prop,(∃ m,W 0 m σ H)∧∀ i m σ H,W i m σ H→
    ((Itd a o kvs).stop i H∧D.nx σ H)∨((Itd a o kvs).go i H∧∃ N:St→Hp→Prop,(∀ σ' H',N σ' H'→∃ m',m' < m∧W (i + 1) m' σ' H')∧∀ x H',(Itd a o kvs).yld i H x H'→g x σ H' fun σ2 H2=>tb {D with nx:=N,ct:=N,bk:=D.nx} σ2 H2):=by
 refine ⟨fun i m σ H=>m=kvs.length - i∧i≤kvs.length∧Pv i σ H,⟨kvs.length,by simp,Nat.zero_le _,h0⟩,?_⟩
 rintro i m σ H ⟨rfl,hi,p⟩
 have q:=hl i σ H hi p
 by_cases hlt:i < kvs.length
 ·refine .inr ⟨⟨q,hlt⟩,Pv (i + 1),fun σ' H' p'=>⟨kvs.length - (i + 1),by omega,rfl,hlt,p'⟩,fun x H' y=>?_⟩
  obtain ⟨e1,y⟩:=y
  subst e1
  unfold J4 at y
  rw [List.getElem?_map] at y
  obtain ⟨kv,e2,e3⟩:=Option.map_eq_some_iff.mp y
  subst e3
  exact hs i kv.1 kv.2 σ _ e2 p
 ·have e:i=kvs.length:=by omega
  subst e
  exact .inl ⟨⟨q,rfl⟩,hd σ H p⟩
end L2
namespace PySem
end PySem
namespace L2
open PySem PySem.Spec PyProof.Rows
noncomputable def del (H:Hp) (p:Addr):Hp:=fun b=>if b=p then none else H b
inductive PH (X:Cx) (Wo:XW):List ExceptHandler→(Ends→XW)→Prop where
 | nil:PH X Wo [] (fun _=>Wo)
 | cons {G:Addr} {g n:Str} {i:Nat} {gp hp:Pos} {b₀:Stmt} {suite:List Stmt} {ts:TS} {hs:List ExceptHandler} {WR:Ends→XW} (cg:M7 X.K G) (hg:Gl X g) (hm:X.mg g=some (.ref G)) (hi:X.N[i]? =some n) (hk:X.env.scope.names.lookup n=some .local)
   (hs':∀ pins e,PSs (X.mark pins e) (b₀::suite) ts) (hdb:(g == ("__debug__":Str))=false) (r:PH X Wo hs WR):PH X Wo (.ExceptHandler (some (.Name g gp)) (some n) (b₀::suite) hp::hs) (fun D=>WTry X.K G i (WR D) ts D)
structure M9 (osc:Scope) (ON N:List Str) (n:Nat) (fx:List Nat) (x0:Str) (sc:Scope):Prop where
 kind:sc.kind= .function
 one:∃ pre post,sc.names=pre++(x0,.cell)::post∧(∀ y∈pre,y.2≠.cell)∧∀ y∈post,y.2≠.cell
 its:sc.names.lookup x0=some .cell
 own:∀ y∈sc.names,y.2= .local→sc.names.lookup y.1=some .local
 fre:∀ y∈sc.names,y.2= .free→osc.names.lookup y.1=some .cell∨osc.names.lookup y.1=some .free
 len:N.length=n + fx.length
 frn:∀ k,k < fx.length→∃ x j,N[n + k]? =some x∧fx[k]? =some j∧ON[j]? =some x∧sc.names.lookup x=some .free
section
variable {X:Cx}
noncomputable def IJ (Q:VK) (x:V) (H1:Hp):Prop:=∃ n:Nat,x= .int (n:Int)∧n≤1000∧∀ (D:Addr) (H3:Hp),H1 D=none→Same H1 H3→H3 D=some (.lst ((List.range n).map fun k:Nat=>V.int (k:Int)))→Q (.ref D) H3
noncomputable def Np (t:TE):TE:=fun σ H Q=>t σ H (IJ Q)
theorem NQ {t:TE} {σ:St} {H:Hp} {Q:VK} (h:t σ H (IJ Q)):Np t σ H Q:=h
theorem F5:∀ {xs:List V} {us:List Value},xs.length=us.length→(∀ (i:Nat) x u,xs[i]? =some x→us[i]? =some u→RelV x u)→Vals xs us
 | [],[],_,_=> .nil
 | x::xs,u::us,hl,h=> .cons (h 0 x u rfl rfl) (F5 (by simpa using hl) fun i y v hy hv=>h (i + 1) y v (by simpa using hy) (by simpa using hv))
 | [],_::_,hl,_=>by simp at hl
 | _::_,[],hl,_=>by simp at hl
theorem zk {e:Expr} {t:TE} {p1 p2 q1 q2:Pos} (hc:X.calm=true) (g1:Gl X "list") (g2:Gl X "range") (n1:X.mg "list"=none) (n2:X.mg "range"=none) (he:PE X e t)
  (h1:starEach [Expr.Call (.Name "range" p1) [e] [] p2] X.env=[(false,eval (.Call (.Name "range" p1) [e] [] p2) X.env)]:=by rfl) (h2:starEach [e] X.env=[(false,eval e X.env)]:=by rfl):
  PE X (.Call (.Name "list" q1) [.Call (.Name "range" p1) [e] [] p2] [] q2) (Np t):=by
 intro pins s σ H Q I h
 refine Call_ (ke I g1 n1 PyProof.Rows.boot_list (PyProof.Rows.callWith_type1 (Q:=EP X pins σ Q) ?_ h1 rfl))
 rw [h1]
 show wpAny _ _ (spliced ((false,eval (.Call (.Name "range" p1) [e] [] p2) X.env)::backTo q2 [])) _ _ s
 refine Calls.spliced_cons ?_
 refine Call_ (ke I g2 n2 boot_range (PyProof.Rows.callWith_type1 (thn (aa he ai h2 p2 pins s σ H (fun vs H1=>match vs with | [x]=>IJ Q x H1 | _=>False) I h) fun us s1 ⟨vs,H1,I1,r1,q1⟩=>?_) h2 rfl))
 match vs,r1,q1 with
 | [x],r1,q1=>
 obtain ⟨n,rfl,hn,q⟩:=q1
 cases r1 with
 | cons r rr=>
 cases rr
 obtain ⟨t',rfl⟩:=r
 refine call_range_1 ?_
 refine Calls.spliced_nil ?_
 refine call_list_range (n:=n) (I1.ok.hd hc) (IsRange.new ..) (small_one (by omega) (by omega) (by omega) (by omega)) (by rw [rangeSize_one];split<;>omega) (by omega) fun h' tk acc c hk hS hacc=>?_
 have hk2:∀ b o,s1.heap.get? b=some o→h'.get? b=some o:=fun b o e=>hk b o (Heap.get?_push_of_some _ e)
 have I2:Inv X pins σ H1 {s1 with heap:=h',toks:=tk}:=I1.kept (t':=tk) hk2
 obtain ⟨D,hD⟩:∃ D,D=(s1.heap.push {cls:= .type "range",data:= .fields #[.int 0 s1.toks,.int (n:Int) t',.int 1 (s1.toks + 1)]}).objs.size:=⟨_,rfl⟩
 have le5:s1.heap.objs.size≤D:=by rw [hD,Heap.size_push];exact Nat.le_succ _
 have fD:H1 D=none:=I1.hok.fresh le5
 have hDn:s1.heap.get? D=none:=Heap.get?_none_of_le le5
 have hv:Vals ((List.range n).map fun k:Nat=>V.int (k:Int)) acc.toList:=by
  obtain ⟨h1',h2'⟩:=hacc
  refine F5 (by rw [List.length_map,List.length_range];simpa using h1'.symm) fun i x u hx hu=>?_
  rw [List.getElem?_map,List.getElem?_range] at hx
  ·cases hx
   obtain ⟨t2,e2⟩:=h2' i u (by simpa using hu)
   refine ⟨t2,?_⟩
   rw [e2]
   congr 1
   omega
  ·have:=(List.getElem?_eq_some_iff.mp hu).1
   simp at this;omega
 have I4:Inv X pins σ (upd H1 D (.lst ((List.range n).map fun k:Nat=>V.int (k:Int)))) {s1 with heap:=h',toks:=tk}:=I2.track (I1.fpN hDn fD) ⟨by rw [List.length_map,List.length_range,sizeLine_eq];omega,acc.toList,c,hv,by rw [hD];exact hS⟩
 refine ⟨.ref D,_,I4,by rw [hD];rfl,q D _ fD (fun b ob e=>?_) bf⟩
 rw [aL (ar e fD)];exact e
end
end L2
set_option autoImplicit false
namespace M
theorem MB (a b:Nat):(a||| b) / 2=a / 2||| b / 2:=by
 apply Nat.eq_of_testBit_eq;intro i
 simp [Nat.testBit_div_two,Nat.testBit_or]
theorem J7 (a b:Nat):(a&&&b) / 2=a / 2&&&b / 2:=by
 apply Nat.eq_of_testBit_eq;intro i
 simp [Nat.testBit_div_two,Nat.testBit_and]
theorem CY (a b:Nat):(a^^^b) / 2=a / 2^^^b / 2:=by
 apply Nat.eq_of_testBit_eq;intro i
 simp [Nat.testBit_div_two,Nat.testBit_xor]
theorem or_sum (a:Nat):∀ b:Nat,a||| b=(a^^^b) + (a&&&b):=by
 induction a using Nat.strongRecOn with
 | ind a ih=>
   intro b
   by_cases ha:a=0
   ·subst ha;simp
   ·have h:=ih (a / 2) (by omega) (b / 2)
    have e1:=Nat.div_add_mod (a||| b) 2
    have e2:=Nat.div_add_mod (a^^^b) 2
    have e3:=Nat.div_add_mod (a&&&b) 2
    rw [MB] at e1
    rw [CY] at e2
    rw [J7] at e3
    have m1:(a||| b) % 2=(a % 2||| b % 2):=by have:=@Nat.or_mod_two_pow a b 1;simpa using this
    have m2:(a^^^b) % 2=(a % 2^^^b % 2):=by have:=@Nat.xor_mod_two_pow a b 1;simpa using this
    have m3:(a&&&b) % 2=(a % 2&&&b % 2):=by have:=@Nat.and_mod_two_pow a b 1;simpa using this
    have c:(a % 2||| b % 2)=(a % 2^^^b % 2) + (a % 2&&&b % 2):=by
     rcases Nat.mod_two_eq_zero_or_one a with h1 | h1<;>rcases Nat.mod_two_eq_zero_or_one b with h2 | h2<;>rw [h1,h2]<;>decide
    omega
noncomputable def pb:Nat→Nat→Bool
 | 0,_=>false
 | w + 1,m=>(m.testBit w)^^(pb w m)
theorem KS (w a b:Nat):pb w (a^^^b)=(pb w a^^pb w b):=by
 induction w with
 | zero=>rfl
 | succ w ih=>
   simp only [pb,Nat.testBit_xor,ih]
   cases a.testBit w<;>cases b.testBit w<;>cases pb w a<;>cases pb w b<;>rfl
theorem xZ (h j m:Nat):pb (h + j) m=(pb h m^^pb j (m>>>h)):=by
 induction j with
 | zero=>simp [pb]
 | succ j ih=>
   rw [Nat.add_succ]
   simp only [pb,ih,Nat.testBit_shiftRight]
   cases m.testBit (h + j)<;>cases pb h m<;>cases pb j (m>>>h)<;>rfl
theorem KU (h m:Nat):pb h (m % 2 ^ h)=pb h m:=by
 suffices ∀ j,j≤h→pb j (m % 2 ^ h)=pb j m from this h (Nat.le_refl h)
 intro j
 induction j with
 | zero=>intro _;rfl
 | succ j ih=>
   intro hj
   simp only [pb]
   rw [ih (by omega),Nat.testBit_mod_two_pow]
   simp [show j < h by omega]
theorem Mf (w j m:Nat) (hm:m < 2 ^ w):pb (w + j) m=pb w m:=by
 rw [xZ,Nat.shiftRight_eq_div_pow,Nat.div_eq_of_lt hm]
 have:∀ j,pb j 0=false:=by intro j;induction j with
  | zero=>rfl
  | succ j ih=>simp [pb,ih]
 rw [this];simp
theorem pb_up {w w' m:Nat} (hm:m < 2 ^ w) (h:w≤w'):pb w' m=pb w m:=by
 obtain ⟨j,rfl⟩:=Nat.exists_eq_add_of_le h
 exact Mf w j m hm
theorem pb_fold (w h m:Nat) (hw:h≤w) (hm:m < 2 ^ w) (h2:w≤2 * h):pb h ((m>>>h)^^^(m&&&(2 ^ h - 1)))=pb w m:=by
 rw [Nat.and_two_pow_sub_one_eq_mod,KS,KU]
 obtain ⟨j,rfl⟩:=Nat.exists_eq_add_of_le hw
 rw [xZ]
 have hlt:m>>>h < 2 ^ j:=by
  rw [Nat.shiftRight_eq_div_pow]
  exact Nat.div_lt_of_lt_mul (by rw [← Nat.pow_add];exact hm)
 rw [pb_up hlt (show j≤h by omega)]
 cases pb j (m>>>h)<;>cases pb h m<;>rfl
theorem fold_lt (w h m:Nat) (hm:m < 2 ^ w) (h2:w≤2 * h):(m>>>h)^^^(m&&&(2 ^ h - 1)) < 2 ^ h:=by
 apply Nat.xor_lt_two_pow
 ·rw [Nat.shiftRight_eq_div_pow]
  refine Nat.div_lt_of_lt_mul ?_
  rw [← Nat.pow_add]
  exact Nat.lt_of_lt_of_le hm (Nat.pow_le_pow_right (by decide) (by omega))
 ·rw [Nat.and_two_pow_sub_one_eq_mod]
  exact Nat.mod_lt _ (Nat.two_pow_pos h)
noncomputable def pl (w m:Nat):List Nat:=(List.range w).filter m.testBit
theorem pl_up {w w' m:Nat} (hm:m < 2 ^ w) (h:w≤w'):pl w' m=pl w m:=by
 obtain ⟨j,rfl⟩:=Nat.exists_eq_add_of_le h
 unfold pl
 rw [List.range_add,List.filter_append]
 have:List.filter m.testBit (List.map (fun x=>w + x) (List.range j))=[]:=by
  rw [List.filter_eq_nil_iff]
  intro a ha
  obtain ⟨k,_,rfl⟩:=List.mem_map.mp ha
  rw [Nat.testBit_lt_two_pow (Nat.lt_of_lt_of_le hm (Nat.pow_le_pow_right (by decide) (Nat.le_add_right w k)))]
  simp
 rw [this,List.append_nil]
noncomputable def xm (ps:List Nat):Nat:=ps.foldl (fun a p=>a^^^2 ^ p) 0
theorem Lm (ps:List Nat):∀ (a k:Nat),(ps.foldl (fun a p=>a^^^2 ^ p) a).testBit k=(a.testBit k^^(ps.count k % 2 == 1)):=by
 induction ps with
 | nil=>intro a k;simp
 | cons p ps ih=>
   intro a k
   rw [List.foldl_cons,ih,Nat.testBit_xor,Nat.testBit_two_pow,List.count_cons]
   by_cases h:p=k
   ·subst h
    simp only [decide_true,beq_self_eq_true,if_true]
    rcases Nat.mod_two_eq_zero_or_one (List.count p ps) with z | z
    ·have e:(List.count p ps + 1) % 2=1:=by omega
     rw [z,e];cases a.testBit p<;>rfl
    ·have e:(List.count p ps + 1) % 2=0:=by omega
     rw [z,e];cases a.testBit p<;>rfl
   ·have hb:(p == k)=false:=beq_eq_false_iff_ne.mpr h
    simp [hb,h]
theorem Nc (ps:List Nat) (k:Nat):(xm ps).testBit k=(ps.count k % 2 == 1):=by
 unfold xm;rw [Lm];simp
theorem oi (w k:Nat) (p:Nat→Bool):((List.range w).filter p).count k=if k < w∧p k=true then 1 else 0:=by
 have nd:((List.range w).filter p).Nodup:=List.Pairwise.filter p List.nodup_range
 by_cases h:k < w∧p k=true
 ·rw [if_pos h]
  have hm:k∈(List.range w).filter p:=List.mem_filter.mpr ⟨List.mem_range.mpr h.1,h.2⟩
  exact List.Nodup.count nd |>.trans (by rw [if_pos hm])
 ·rw [if_neg h]
  refine List.count_eq_zero.mpr fun hm=>h ?_
  obtain ⟨a,b⟩:=List.mem_filter.mp hm
  exact ⟨List.mem_range.mp a,b⟩
theorem JJ (w m k:Nat):(pl w m).count k=if k < w∧m.testBit k=true then 1 else 0:=oi w k m.testBit
theorem xm_ext {w m:Nat} {ps:List Nat} (hm:m < 2 ^ w) (h:∀ k,ps.count k % 2=(pl w m).count k % 2):xm ps=m:=by
 apply Nat.eq_of_testBit_eq;intro k
 rw [Nc,h,JJ]
 by_cases hk:k < w
 ·cases e:m.testBit k<;>simp [hk,e]
 ·rw [Nat.testBit_lt_two_pow (Nat.lt_of_lt_of_le hm (Nat.pow_le_pow_right (by decide) (Nat.not_lt.mp hk)))]
  simp [hk]
noncomputable def Span:List Nat→Nat→Prop
 | [],x=>x=0
 | r::rs,x=>Span rs x∨Span rs (x^^^r)
theorem span_zero:∀ rs:List Nat,Span rs 0
 | []=>rfl
 | _::rs=> .inl (span_zero rs)
theorem bP (x r:Nat):x^^^r^^^r=x:=by rw [Nat.xor_assoc,Nat.xor_self,Nat.xor_zero]
theorem eC (a b c:Nat):a^^^b^^^c=a^^^c^^^b:=by rw [Nat.xor_assoc,Nat.xor_comm b c,← Nat.xor_assoc]
theorem span_snoc:∀ (rs:List Nat) (r x:Nat),Span (rs++[r]) x↔Span rs x∨Span rs (x^^^r)
 | [],r,x=>Iff.rfl
 | q::rs,r,x=>by
   show Span (rs++[r]) x∨Span (rs++[r]) (x^^^q)↔(Span rs x∨Span rs (x^^^q))∨(Span rs (x^^^r)∨Span rs (x^^^r^^^q))
   rw [span_snoc rs r x,span_snoc rs r (x^^^q),eC x q r]
   constructor
   ·rintro ((h | h) | (h | h))
    ·exact .inl (.inl h)
    ·exact .inr (.inl h)
    ·exact .inl (.inr h)
    ·exact .inr (.inr h)
   ·rintro ((h | h) | (h | h))
    ·exact .inl (.inl h)
    ·exact .inr (.inl h)
    ·exact .inl (.inr h)
    ·exact .inr (.inr h)
theorem span_xor:∀ {rs:List Nat} {x y:Nat},Span rs x→Span rs y→Span rs (x^^^y)
 | [],x,y,h,k=>by
   have h:x=0:=h
   have k:y=0:=k
   subst h;subst k;exact rfl
 | r::rs,x,y,h,k=>by
   rcases h with h | h<;>rcases k with k | k
   ·exact .inl (span_xor h k)
   ·refine .inr ?_
    have:=span_xor h k
    rwa [← Nat.xor_assoc] at this
   ·refine .inr ?_
    have:=span_xor h k
    rwa [eC] at this
   ·refine .inl ?_
    have:=span_xor h k
    rwa [← Nat.xor_assoc,eC x r y,bP] at this
noncomputable def sm:List Nat→Nat→Nat
 | [],_=>0
 | r::rs,p=>(if p.testBit 0 then r else 0)^^^sm rs (p / 2)
theorem sm_zero:∀ rs:List Nat,sm rs 0=0
 | []=>rfl
 | r::rs=>by show (if (0:Nat).testBit 0 then r else 0)^^^sm rs (0 / 2)=0;rw [show (0:Nat) / 2=0 from rfl,sm_zero rs];simp
theorem xor4 (a b c d:Nat):a^^^b^^^(c^^^d)=a^^^c^^^(b^^^d):=by
 rw [Nat.xor_assoc,← Nat.xor_assoc b c d,Nat.xor_comm b c,Nat.xor_assoc c b d,← Nat.xor_assoc a c]
theorem sm_xor:∀ (rs:List Nat) (p q:Nat),sm rs (p^^^q)=sm rs p^^^sm rs q
 | [],p,q=>by show (0:Nat)=0^^^0;simp
 | r::rs,p,q=>by
   show (if (p^^^q).testBit 0 then r else 0)^^^sm rs ((p^^^q) / 2)=((if p.testBit 0 then r else 0)^^^sm rs (p / 2))^^^((if q.testBit 0 then r else 0)^^^sm rs (q / 2))
   rw [CY,sm_xor rs,Nat.testBit_xor,xor4]
   congr 1
   cases p.testBit 0<;>cases q.testBit 0<;>simp
theorem jX:∀ (rs:List Nat) (r p:Nat),sm (rs++[r]) p=sm rs p^^^(if p.testBit rs.length then r else 0)
 | [],r,p=>by show (if p.testBit 0 then r else 0)^^^0=0^^^_;rw [Nat.xor_zero,Nat.zero_xor];rfl
 | q::rs,r,p=>by
   show (if p.testBit 0 then q else 0)^^^sm (rs++[r]) (p / 2)=((if p.testBit 0 then q else 0)^^^sm rs (p / 2))^^^_
   rw [jX rs r (p / 2),Nat.testBit_div_two,Nat.xor_assoc]
   rfl
theorem iK {rs:List Nat} {r p:Nat} (h:p < 2 ^ rs.length):sm (rs++[r]) p=sm rs p:=by
 rw [jX,Nat.testBit_lt_two_pow h];simp
theorem KM (rs:List Nat) (r:Nat):sm (rs++[r]) (2 ^ rs.length)=r:=by
 rw [jX]
 have e:sm rs (2 ^ rs.length)=0:=by
  have:∀ (rs:List Nat) (k:Nat),rs.length≤k→sm rs (2 ^ k)=0:=by
   intro rs
   induction rs with
   | nil=>intro k _;rfl
   | cons q rs ih=>
     intro k hk
     have hk:rs.length + 1≤k:=hk
     obtain ⟨j,rfl⟩:∃ j,k=j + 1:=⟨k - 1,by omega⟩
     show (if (2 ^ (j + 1)).testBit 0 then q else 0)^^^sm rs (2 ^ (j + 1) / 2)=0
     have e1:(2 ^ (j + 1)) / 2=2 ^ j:=by rw [Nat.pow_succ];omega
     have e2:(2 ^ (j + 1)).testBit 0=false:=by rw [Nat.testBit_two_pow];simp
     rw [e1,e2,ih j (by omega)]
     simp
  exact this rs _ (Nat.le_refl _)
 rw [e,Nat.testBit_two_pow_self];simp
theorem sm_span:∀ (rs:List Nat) (p:Nat),Span rs (sm rs p)
 | [],p=>rfl
 | r::rs,p=>by
   show Span rs _∨Span rs _
   have ih:=sm_span rs (p / 2)
   cases h:p.testBit 0 with
   | true=>refine .inr ?_;rw [show sm (r::rs) p=r^^^sm rs (p / 2) from by show (if p.testBit 0 then r else 0)^^^_=_;rw [h];rfl,Nat.xor_comm r,bP];exact ih
   | false=>refine .inl ?_;rw [show sm (r::rs) p=sm rs (p / 2) from by show (if p.testBit 0 then r else 0)^^^_=_;rw [h];simp];exact ih
theorem l8:∀ {rs:List Nat} {x:Nat},Span rs x→∃ p,p < 2 ^ rs.length∧sm rs p=x
 | [],x,h=>⟨0,Nat.one_pos,(show x=0 from h).symm⟩
 | r::rs,x,h=>by
   rcases h with h | h
   ·obtain ⟨p,hp,e⟩:=l8 h
    refine ⟨2 * p,by rw [List.length_cons,Nat.pow_succ];omega,?_⟩
    show (if (2 * p).testBit 0 then r else 0)^^^sm rs (2 * p / 2)=x
    rw [show 2 * p / 2=p by omega,show (2 * p).testBit 0=false by simp [Nat.testBit_zero],e];simp
   ·obtain ⟨p,hp,e⟩:=l8 h
    refine ⟨2 * p + 1,by rw [List.length_cons,Nat.pow_succ];omega,?_⟩
    show (if (2 * p + 1).testBit 0 then r else 0)^^^sm rs ((2 * p + 1) / 2)=x
    rw [show (2 * p + 1) / 2=p by omega,show (2 * p + 1).testBit 0=true by simp [Nat.testBit_zero],e]
    show r^^^(x^^^r)=x
    rw [Nat.xor_comm,bP]
theorem G9 {x t:Nat} (h1:2 ^ t≤x) (h2:x < 2 ^ (t + 1)):x.log2=t:=by
 have hx:x≠0:=by have:=Nat.two_pow_pos t;omega
 have a:=(Nat.log2_lt hx).mpr h2
 have b:t≤x.log2:=(Nat.le_log2 hx).mpr h1
 omega
theorem oA {x:Nat} (h:x≠0):x.testBit x.log2=true:=by
 have:=Nat.testBit_log2 h
 exact this
theorem xor_lt_pow {x y t:Nat} (h1:x < 2 ^ t) (h2:y < 2 ^ t):x^^^y < 2 ^ t:=Nat.xor_lt_two_pow h1 h2
theorem Ja {x y:Nat} (hx:x≠0) (hy:y≠0) (h:x.log2=y.log2):x^^^y < 2 ^ x.log2:=by
 have h1:x^^^y < 2 ^ (x.log2 + 1):=xor_lt_pow Nat.lt_log2_self (by rw [h];exact Nat.lt_log2_self)
 have hb:(x^^^y).testBit x.log2=false:=by
  rw [Nat.testBit_xor,oA hx,show y.testBit x.log2=true by rw [h];exact oA hy];rfl
 apply Nat.lt_pow_two_of_testBit
 intro i hi
 rcases Nat.lt_or_eq_of_le hi with hi | hi
 ·exact Nat.testBit_lt_two_pow (Nat.lt_of_lt_of_le h1 (Nat.pow_le_pow_right (by decide) hi))
 ·rw [← hi];exact hb
theorem xor_less {x y:Nat} (hx:x≠0) (hy:y≠0) (h:x.log2=y.log2):x^^^y < x:=
 Nat.lt_of_lt_of_le (Ja hx hy h) (Nat.log2_self_le hx)
theorem mH {x y:Nat} (hy:y≠0) (h:x < 2 ^ y.log2):(x^^^y).log2=y.log2:=by
 have h1:x^^^y < 2 ^ (y.log2 + 1):=xor_lt_pow (Nat.lt_of_lt_of_le h (Nat.pow_le_pow_right (by decide) (by omega))) Nat.lt_log2_self
 have hb:(x^^^y).testBit y.log2=true:=by rw [Nat.testBit_xor,Nat.testBit_lt_two_pow h,oA hy];rfl
 exact G9 (Nat.ge_two_pow_of_testBit hb) h1
theorem BE {x y:Nat} (hx:x≠0) (hy:y≠0) (h:x.log2≠y.log2):(x^^^y).log2=x.log2∨(x^^^y).log2=y.log2:=by
 rcases Nat.lt_or_gt_of_ne h with h | h
 ·exact .inr (mH hy (Nat.lt_of_lt_of_le Nat.lt_log2_self (Nat.pow_le_pow_right (by decide) h)))
 ·refine .inl ?_
  rw [Nat.xor_comm]
  exact mH hx (Nat.lt_of_lt_of_le Nat.lt_log2_self (Nat.pow_le_pow_right (by decide) h))
noncomputable def Fre (rows:List Nat) (i:Nat):Prop:=i < rows.length∧¬ Span (rows.take i) (rows.getD i 0)
theorem Fre.snoc {rows:List Nat} {i:Nat} (r:Nat) (h:Fre rows i):Fre (rows++[r]) i:=by
 obtain ⟨hi,hn⟩:=h
 refine ⟨by rw [List.length_append];omega,?_⟩
 rw [List.take_append_of_le_length (Nat.le_of_lt hi),List.getD_eq_getElem?_getD,List.getElem?_append_left hi,← List.getD_eq_getElem?_getD]
 exact hn
theorem Fre.last {rows:List Nat} {r:Nat} (h:¬ Span rows r):Fre (rows++[r]) rows.length:=by
 refine ⟨by rw [List.length_append];simp,?_⟩
 rw [List.take_left,List.getD_eq_getElem?_getD,List.getElem?_append_right (Nat.le_refl _),Nat.sub_self]
 exact h
noncomputable def Frs (rows:List Nat) (q:Nat):Prop:=∀ i,q.testBit i=true→Fre rows i
theorem Frs.zero (rows:List Nat):Frs rows 0:=fun i h=>by rw [Nat.zero_testBit] at h;cases h
theorem Frs.xor {rows:List Nat} {p q:Nat} (hp:Frs rows p) (hq:Frs rows q):Frs rows (p^^^q):=fun i h=>by
 rw [Nat.testBit_xor] at h
 cases h1:p.testBit i with
 | true=>exact hp i h1
 | false=>rw [h1] at h;exact hq i (by simpa using h)
theorem Frs.snoc {rows:List Nat} {q:Nat} (r:Nat) (h:Frs rows q):Frs (rows++[r]) q:=fun i hi=>(h i hi).snoc r
theorem Frs.more {rows:List Nat} {q r:Nat} (h:Frs rows q) (hr:¬ Span rows r):Frs (rows++[r]) (q^^^2 ^ rows.length):=(h.snoc r).xor fun i hi=>by
 rw [Nat.testBit_two_pow] at hi
 have e:rows.length=i:=by simpa using hi
 rw [← e];exact Fre.last hr
structure Ech (es:List (Nat×Nat)) (rows:List Nat):Prop where
 nz:∀ e∈es,e.1≠0
 lt:∀ e∈es,e.2 < 2 ^ rows.length
 sm:∀ e∈es,sm rows e.2=e.1
 nd:(es.map fun e=>e.1.log2).Nodup
 all:∀ y,Span rows y→y≠0→∃ e∈es,e.1.log2=y.log2
 sub:∀ e∈es,Frs rows e.2
theorem Ech.nil:Ech [] []:=⟨fun _ h=>absurd h (by simp),fun _ h=>absurd h (by simp),fun _ h=>absurd h (by simp),.nil,fun y h n=>absurd h n,fun _ h=>absurd h (by simp)⟩
theorem Ech.span {es:List (Nat×Nat)} {rows:List Nat} (I:Ech es rows) {e:Nat×Nat} (h:e∈es):Span rows e.1:=by
 rw [← I.sm e h];exact sm_span _ _
theorem GA {rows:List Nat} {r p:Nat} (h:p < 2 ^ rows.length):sm (rows++[r]) (p^^^2 ^ rows.length)=sm rows p^^^r:=by
 rw [sm_xor,iK h,KM]
theorem G6 {n p:Nat} (h:p < 2 ^ n):p^^^2 ^ n < 2 ^ (n + 1):=
 xor_lt_pow (Nat.lt_of_lt_of_le h (Nat.pow_le_pow_right (by decide) (by omega))) (Nat.pow_lt_pow_right (by decide) (by omega))
theorem Ech.null {es:List (Nat×Nat)} {rows:List Nat} (I:Ech es rows) {r q:Nat} (hq:q < 2 ^ rows.length) (e:r^^^M.sm rows q=0):Span rows r∧Ech es (rows++[r]):=by
 have hr:r=M.sm rows q:=by
  have:=congrArg (·^^^M.sm rows q) e
  simpa [bP] using this
 have hs:Span rows r:=by rw [hr];exact sm_span _ _
 refine ⟨hs,I.nz,fun e h=>?_,fun e h=>?_,I.nd,fun y hy n=>?_,fun e h=>(I.sub e h).snoc r⟩
 ·rw [List.length_append];exact Nat.lt_of_lt_of_le (I.lt e h) (Nat.pow_le_pow_right (by decide) (by simp))
 ·rw [iK (I.lt e h)];exact I.sm e h
 ·rcases (span_snoc rows r y).mp hy with hy | hy
  ·exact I.all y hy n
  ·have:=span_xor hy hs
   rw [bP] at this
   exact I.all y this n
theorem Ech.more {es:List (Nat×Nat)} {rows:List Nat} (I:Ech es rows) {r q:Nat} (hq:q < 2 ^ rows.length) (e:r^^^M.sm rows q≠0) (hn:∀ e∈es,e.1.log2≠(r^^^M.sm rows q).log2) (hf:Frs rows q):
  ¬ Span rows r∧Ech (es++[(r^^^M.sm rows q,q^^^2 ^ rows.length)]) (rows++[r]):=by
 have hns:¬ Span rows r:=fun hs=>by
  obtain ⟨x,hx,ex⟩:=I.all _ (span_xor hs (sm_span rows q)) e
  exact hn x hx ex
 refine ⟨hns,fun x h=>?_,fun x h=>?_,fun x h=>?_,?_,fun y hy n=>?_,fun x h=>(List.mem_append.mp h).elim (fun h=>(I.sub x h).snoc r) fun h=>by rw [List.mem_singleton] at h;subst h;exact hf.more hns⟩
 ·rcases List.mem_append.mp h with h | h
  ·exact I.nz x h
  ·rw [List.mem_singleton] at h;subst h;exact e
 ·rw [List.length_append]
  rcases List.mem_append.mp h with h | h
  ·exact Nat.lt_of_lt_of_le (I.lt x h) (Nat.pow_le_pow_right (by decide) (by simp))
  ·rw [List.mem_singleton] at h;subst h;exact G6 hq
 ·rcases List.mem_append.mp h with h | h
  ·rw [iK (I.lt x h)];exact I.sm x h
  ·rw [List.mem_singleton] at h;subst h
   show M.sm _ (q^^^_)=r^^^M.sm rows q
   rw [GA hq,Nat.xor_comm]
 ·rw [List.map_append,List.nodup_append]
  refine ⟨I.nd,by simp,fun a ha b hb=>?_⟩
  obtain ⟨x,hx,rfl⟩:=List.mem_map.mp ha
  rw [List.map_singleton,List.mem_singleton] at hb
  subst hb
  exact hn x hx
 ·rcases (span_snoc rows r y).mp hy with hy | hy
  ·obtain ⟨x,hx,ex⟩:=I.all y hy n
   exact ⟨x,List.mem_append_left _ hx,ex⟩
  ·
   have hz:=span_xor hy (sm_span rows q)
   have ey:y=(y^^^r^^^M.sm rows q)^^^(r^^^M.sm rows q):=by
    rw [xor4,Nat.xor_self,Nat.xor_zero,bP]
   generalize hz':y^^^r^^^M.sm rows q=z at hz ey
   by_cases z0:z=0
   ·refine ⟨_,List.mem_append_right _ (List.mem_singleton.mpr rfl),?_⟩
    show (r^^^M.sm rows q).log2=y.log2
    rw [ey,z0,Nat.zero_xor]
   ·obtain ⟨x,hx,ex⟩:=I.all z hz z0
    have ne:z.log2≠(r^^^M.sm rows q).log2:=by rw [← ex];exact hn x hx
    rcases BE z0 e ne with h | h
    ·exact ⟨x,List.mem_append_left _ hx,by rw [ex,ey,h]⟩
    ·refine ⟨_,List.mem_append_right _ (List.mem_singleton.mpr rfl),?_⟩
     show (r^^^M.sm rows q).log2=y.log2
     rw [ey,h]
noncomputable def tt (p:Prop):Bool:=@decide p (Classical.propDecidable p)
theorem Nd {p:Prop} (h:p):tt p=true:=@decide_eq_true _ (Classical.propDecidable _) h
theorem Nf {p:Prop} (h:¬ p):tt p=false:=@decide_eq_false _ (Classical.propDecidable _) h
noncomputable def fr (rows:List Nat):List Nat:=(List.range rows.length).filter fun i=> !tt (Span (rows.take i) (rows.getD i 0))
theorem HN (rows:List Nat) (r:Nat):fr (rows++[r])=fr rows++(if tt (Span rows r)=true then [] else [rows.length]):=by
 unfold fr
 rw [List.length_append,List.length_singleton,List.range_succ,List.filter_append]
 have e1:(List.range rows.length).filter (fun i=> !tt (Span ((rows++[r]).take i) ((rows++[r]).getD i 0)))=(List.range rows.length).filter (fun i=> !tt (Span (rows.take i) (rows.getD i 0))):=by
  apply List.filter_congr
  intro i hi
  have hi:=List.mem_range.mp hi
  have a:(rows++[r]).take i=rows.take i:=List.take_append_of_le_length (Nat.le_of_lt hi)
  have b:(rows++[r]).getD i 0=rows.getD i 0:=by
   rw [List.getD_eq_getElem?_getD,List.getD_eq_getElem?_getD,List.getElem?_append_left hi]
  rw [a,b]
 rw [e1]
 congr 1
 have a:(rows++[r]).take rows.length=rows:=List.take_left
 have b:(rows++[r]).getD rows.length 0=r:=by
  rw [List.getD_eq_getElem?_getD,List.getElem?_append_right (Nat.le_refl _),Nat.sub_self];rfl
 rw [List.filter_cons,a,b]
 cases tt (Span rows r)<;>rfl
theorem fr_len (rows:List Nat):(fr rows).length≤rows.length:=by
 have:=List.length_filter_le (fun i=> !tt (Span (rows.take i) (rows.getD i 0))) (List.range rows.length)
 rw [List.length_range] at this
 exact this
theorem fr_in {rows:List Nat} {r:Nat} (h:Span rows r):fr (rows++[r])=fr rows:=by rw [HN,Nd h];simp
theorem fr_out {rows:List Nat} {r:Nat} (h:¬ Span rows r):fr (rows++[r])=fr rows++[rows.length]:=by rw [HN,Nf h];rfl
structure Nul (nms rows:List Nat):Prop where
 lt:∀ x∈nms,x < 2 ^ rows.length
 nz:∀ x∈nms,x≠0
 sm:∀ x∈nms,sm rows x=0
 pw:nms.Pairwise fun a b=>a.log2 < b.log2
 len:nms.length + (fr rows).length=rows.length
theorem Nul.nil:Nul [] []:=⟨fun _ h=>absurd h (by simp),fun _ h=>absurd h (by simp),fun _ h=>absurd h (by simp),.nil,rfl⟩
theorem Nul.keep {nms rows:List Nat} (I:Nul nms rows) {r:Nat} (h:¬ Span rows r):Nul nms (rows++[r]) where
 lt:=fun x hx=>by rw [List.length_append];exact Nat.lt_of_lt_of_le (I.lt x hx) (Nat.pow_le_pow_right (by decide) (by simp))
 nz:=I.nz
 sm:=fun x hx=>by rw [iK (I.lt x hx)];exact I.sm x hx
 pw:=I.pw
 len:=by rw [fr_out h,List.length_append,List.length_append,← I.len];simp;omega
theorem zP {n q:Nat} (h:q < 2 ^ n):q^^^2 ^ n≠0∧(q^^^2 ^ n).log2=n:=by
 have e:(2 ^ n:Nat).log2=n:=G9 (Nat.le_refl _) (Nat.pow_lt_pow_right (by decide) (by omega))
 have h0:(2 ^ n:Nat)≠0:=by have:=Nat.two_pow_pos n;omega
 have hl:=mH (x:=q) h0 (by rw [e];exact h)
 refine ⟨fun z=>?_,by rw [hl,e]⟩
 have hb:(q^^^2 ^ n).testBit n=true:=by rw [Nat.testBit_xor,Nat.testBit_lt_two_pow h,Nat.testBit_two_pow_self];rfl
 rw [z] at hb
 simp at hb
theorem log2_under {n q:Nat} (h0:q≠0) (h:q < 2 ^ n):q.log2 < n:=(Nat.log2_lt h0).mpr h
theorem Nul.snoc {nms rows:List Nat} (I:Nul nms rows) {r q:Nat} (hq:q < 2 ^ rows.length) (e:r^^^M.sm rows q=0) (hs:Span rows r):Nul (nms++[q^^^2 ^ rows.length]) (rows++[r]) where
 lt:=fun x hx=>by
  rw [List.length_append]
  rcases List.mem_append.mp hx with hx | hx
  ·exact Nat.lt_of_lt_of_le (I.lt x hx) (Nat.pow_le_pow_right (by decide) (by simp))
  ·rw [List.mem_singleton] at hx;subst hx;exact G6 hq
 nz:=fun x hx=>by
  rcases List.mem_append.mp hx with hx | hx
  ·exact I.nz x hx
  ·rw [List.mem_singleton] at hx;subst hx;exact (zP hq).1
 sm:=fun x hx=>by
  rcases List.mem_append.mp hx with hx | hx
  ·rw [iK (I.lt x hx)];exact I.sm x hx
  ·rw [List.mem_singleton] at hx;subst hx;rw [GA hq,Nat.xor_comm];exact e
 pw:=by
  rw [List.pairwise_append]
  refine ⟨I.pw,List.pairwise_singleton _ _,fun a ha b hb=>?_⟩
  rw [List.mem_singleton] at hb
  subst hb
  rw [(zP hq).2]
  exact log2_under (I.nz a ha) (I.lt a ha)
 len:=by rw [fr_in hs,List.length_append,List.length_append,← I.len];simp;omega
noncomputable def Inj (ws:List Nat):Prop:=∀ p,p < 2 ^ ws.length→sm ws p=0→p=0
theorem LG {t:Nat}:∀ {ws:List Nat} (p:Nat),(∀ x∈ws,x < 2 ^ t)→sm ws p < 2 ^ t
 | [],p,_=>Nat.two_pow_pos t
 | w::ws,p,h=>by
   refine xor_lt_pow ?_ (LG _ fun x hx=>h x (List.mem_cons_of_mem _ hx))
   split
   ·exact h w (List.mem_cons_self ..)
   ·exact Nat.two_pow_pos t
theorem nodup_le:∀ (n:Nat) (l:List Nat),l.Nodup→(∀ x∈l,x < n)→l.length≤n
 | 0,l,_,h=>by
   cases l with
   | nil=>exact Nat.le_refl _
   | cons x r=>exact absurd (h x (List.mem_cons_self ..)) (Nat.not_lt_zero _)
 | n + 1,l,nd,h=>by
   have ih:=nodup_le n (l.erase n) (nd.erase n) fun x hx=>by
    have hm:=(nd.mem_erase_iff).mp hx
    have:=h x hm.2
    have:=hm.1
    omega
   by_cases hm:n∈l
   ·rw [List.length_erase_of_mem hm] at ih;omega
   ·rw [List.erase_of_not_mem hm] at ih;omega
theorem span_lt {t:Nat}:∀ {rs:List Nat} {x:Nat},(∀ r∈rs,r < 2 ^ t)→Span rs x→x < 2 ^ t
 | [],x,_,h=>by have h:x=0:=h;rw [h];exact Nat.two_pow_pos t
 | r::rs,x,b,h=>by
   have ih:=fun x=>span_lt (rs:=rs) (x:=x) fun y hy=>b y (List.mem_cons_of_mem _ hy)
   rcases h with h | h
   ·exact ih x h
   ·have:=xor_lt_pow (ih _ h) (b r (List.mem_cons_self ..))
    rwa [bP] at this
structure Sums (ks rows:List Nat):Prop where
 nd:ks.Nodup
 all:∀ x,x∈ks↔Span rows x
theorem Sums.zero:Sums [0] []:=⟨by simp,fun x=>by rw [List.mem_singleton];exact Iff.rfl⟩
theorem Lj {a b r:Nat} (h:a^^^r=b^^^r):a=b:=by
 have:=congrArg (·^^^r) h
 simpa [bP] using this
theorem Sums.step {ks rows:List Nat} (S:Sums ks rows) {r:Nat} (h:¬ Span rows r):Sums (ks++ks.map (·^^^r)) (rows++[r]):=by
 refine ⟨?_,fun x=>?_⟩
 ·rw [List.nodup_append]
  refine ⟨S.nd,?_,fun a ha b hb e=>?_⟩
  ·exact List.Pairwise.map _ (fun a b hab e=>hab (Lj e)) S.nd
  ·obtain ⟨c,hc,rfl⟩:=List.mem_map.mp hb
   subst e
   have:=span_xor ((S.all _).mp ha) ((S.all _).mp hc)
   rw [eC,Nat.xor_self,Nat.zero_xor] at this
   exact h this
 ·rw [List.mem_append,span_snoc,S.all,List.mem_map]
  constructor
  ·rintro (h | ⟨y,hy,rfl⟩)
   ·exact .inl h
   ·refine .inr ?_;rw [bP];exact (S.all _).mp hy
  ·rintro (h | h)
   ·exact .inl h
   ·exact .inr ⟨x^^^r,(S.all _).mpr h,bP x r⟩
theorem Sums.keep {ks rows:List Nat} (S:Sums ks rows) {r:Nat} (h:Span rows r):Sums ks (rows++[r]):=
 ⟨S.nd,fun x=>by
  rw [S.all,span_snoc]
  refine ⟨.inl,fun q=>q.elim id fun q=>?_⟩
  have:=span_xor q h
  rwa [bP] at this⟩
theorem Sums.few {ks rows:List Nat} (S:Sums ks rows) {t:Nat} (h:∀ r∈rows,r < 2 ^ t):ks.length≤2 ^ t:=nodup_le _ _ S.nd fun x hx=>span_lt h ((S.all x).mp hx)
end M
namespace Sx
open PySem L2
noncomputable abbrev nat (k:Nat):V:= .int (k:Int)
theorem j2 {k:Nat} {A:Around} (r:Room k A):A.units + 100 < cLine:=by have:=r.un;omega
theorem iteB {c:Bool} {A B:Prop} (h1:c=true→A) (h2:c=false→B):if c=true then A else B:=by
 cases c
 ·rw [if_neg Bool.false_ne_true];exact h2 rfl
 ·rw [if_pos rfl];exact h1 rfl
theorem xM (h:Nat):(2:Int) ^ h=((2 ^ h:Nat):Int):=by norm_cast
theorem shl1 (k:Nat):(1:Int) * 2 ^ ((k:Int).toNat)=((2 ^ k:Nat):Int):=by rw [Int.toNat_natCast,Int.one_mul];norm_cast
theorem Ir (a b:Nat):Builtin.bitOr (a:Int) (b:Int)=((a||| b:Nat):Int):=by
 have e1:Builtin.bitNot (a:Int)= -(a:Int) - 1:=by first | rfl | (unfold Builtin.bitNot;omega)
 have e2:Builtin.bitNot (b:Int)= -(b:Int) - 1:=by first | rfl | (unfold Builtin.bitNot;omega)
 unfold Builtin.bitOr Builtin.bitAnd
 rw [decide_eq_false (show ¬ (0:Int)≤Builtin.bitNot (a:Int) by rw [e1];omega),decide_eq_false (show ¬ (0:Int)≤Builtin.bitNot (b:Int) by rw [e2];omega)]
 have n:∀ x:Int,Builtin.bitNot (Builtin.bitNot x)=x:=fun x=>by unfold Builtin.bitNot;omega
 simp only [n,Int.toNat_natCast]
theorem c6 (a b:Nat):Builtin.bitXor (a:Int) (b:Int)=((a^^^b:Nat):Int):=by
 unfold Builtin.bitXor
 rw [Ir,bS]
 have:=M.or_sum a b
 omega
theorem AE:Builtin.Int.intBits ((0:Nat):Int)=0:=by decide
theorem jt {m:Nat} (h:m≠0):Builtin.Int.intBits (m:Int)=m.log2 + 1:=by
 unfold Builtin.Int.intBits
 have e:((m:Int) == 0)=false:=by rw [beq_eq_false_iff_ne];omega
 rw [e,if_neg Bool.false_ne_true,Int.natAbs_natCast]
theorem Kt (m i:Nat):Builtin.bitAnd ((m:Int) / 2 ^ ((0 + (i:Int)).toNat)) 1=if m.testBit i then 1 else 0:=by
 have e0:(0 + (i:Int)).toNat=i:=by omega
 rw [e0,xM]
 have e1:(m:Int) / ((2 ^ i:Nat):Int)=((m>>>i:Nat):Int):=by rw [Nat.shiftRight_eq_div_pow];norm_cast
 rw [e1,show (1:Int)=((1:Nat):Int) from rfl,bS,Nat.and_one_is_mod]
 have:m.testBit i=(m>>>i % 2 == 1):=by
  rw [Nat.testBit_eq_decide_div_mod_eq,Nat.shiftRight_eq_div_pow]
  rcases Nat.mod_two_eq_zero_or_one (m / 2 ^ i) with h | h<;>rw [h]<;>rfl
 rw [this]
 rcases Nat.mod_two_eq_zero_or_one (m>>>i) with h | h<;>rw [h]<;>rfl
structure En where
 a:Addr
 m:Nat
 p:Nat
noncomputable def nT (es:List En):List (Key×V):=es.map fun e=>(Sum.inl ((e.m.log2:Nat):Int),V.ref e.a)
theorem sU:∀ (es:List En) (z:Int),(∃ e∈es,((e.m.log2:Nat):Int)=z∧valV (nT es) (Sum.inl z)=some (.ref e.a))∨((∀ e∈es,((e.m.log2:Nat):Int)≠z)∧valV (nT es) (Sum.inl z)=none)
 | [],z=> .inr ⟨fun _ h=>absurd h (by simp),rfl⟩
 | e::es,z=>by
   by_cases h:((e.m.log2:Nat):Int)=z
   ·exact .inl ⟨e,List.mem_cons_self ..,h,kM (by show (Sum.inl _:Key)=_;rw [h])⟩
   ·have hv:valV (nT (e::es)) (Sum.inl z)=valV (nT es) (Sum.inl z):=jb (by show ¬ (Sum.inl _:Key)=_;intro q;exact h (Sum.inl.inj q))
    rcases sU es z with ⟨x,hx,e1,e2⟩ | ⟨h1,h2⟩
    ·exact .inl ⟨x,List.mem_cons_of_mem _ hx,e1,by rw [hv];exact e2⟩
    ·refine .inr ⟨fun x hx=>?_,by rw [hv];exact h2⟩
     rcases List.mem_cons.mp hx with rfl | hx
     ·exact h
     ·exact h1 x hx
theorem putK_new {kvs:List (Key×V)} {k:Key} {v:V} (h:valV kvs k=none):putK kvs k v=kvs++[(k,v)]:=by
 unfold putK
 rw [sO,h]
 rfl
structure StA (H:Hp) (C p d f n:Addr) (rows:List Nat):Prop where
 ho:∃ dx,H p=some (.ins C dx [("by_top",.ref d),("free_places",.ref f),("null_masks",.ref n)])
 he:∃ es:List En,H d=some (.dK (nT es))∧(∀ e∈es,H e.a=some (.tup [nat e.m,nat e.p]))∧M.Ech (es.map fun e=>(e.m,e.p)) rows∧es.length=(M.fr rows).length
 hf:H f=some (.lst ((M.fr rows).map nat))
 hn:∃ nms,H n=some (.lst (nms.map nat))∧M.Nul nms rows
 ne:f≠n
theorem StA.same {H H2:Hp} {C p d f n:Addr} {rows:List Nat} (x:StA H C p d f n rows) (s:Same H H2):StA H2 C p d f n rows where
 ho:=let ⟨dx,h⟩:=x.ho;⟨dx,s _ _ h⟩
 he:=let ⟨es,h,t,g,l⟩:=x.he;⟨es,s _ _ h,fun e he=>s _ _ (t e he),g,l⟩
 hf:=s _ _ x.hf
 hn:=let ⟨nms,h,g⟩:=x.hn;⟨nms,s _ _ h,g⟩
 ne:=x.ne
theorem StA.null {H H2:Hp} {C p d f n:Addr} {rows:List Nat} (x:StA H C p d f n rows) {r q:Nat} (hq:q < 2 ^ rows.length) (e:r^^^M.sm rows q=0) {nms:List Nat} (hn:M.Nul nms rows) (hl:H n=some (.lst (nms.map nat)))
  (u:Upd H H2 n (.lst (nms.map nat++[nat (q^^^2 ^ rows.length)]))):StA H2 C p d f n (rows++[r]):=by
 obtain ⟨dx,ho⟩:=x.ho
 obtain ⟨es,hd,ht,g,l⟩:=x.he
 obtain ⟨hs,g2⟩:=g.null hq e
 refine ⟨⟨dx,u.oth _ _ (iU ho hl (by simp)) ho⟩,⟨es,u.oth _ _ (iU hd hl (by simp)) hd,fun e he=>u.oth _ _ (iU (ht e he) hl (by simp)) (ht e he),g2,by rw [M.fr_in hs];exact l⟩,?_,⟨nms++[q^^^2 ^ rows.length],?_,hn.snoc hq e hs⟩,x.ne⟩
 ·rw [M.fr_in hs];exact u.oth _ _ x.ne x.hf
 ·rw [List.map_append];exact u.at'
theorem StA.more {H H2 H3 H4:Hp} {C p d f n t:Addr} {rows:List Nat} (x:StA H C p d f n rows) {r q:Nat} (hq:q < 2 ^ rows.length) (e:r^^^M.sm rows q≠0) (hn:∀ y,M.Span rows y→y≠0→y.log2≠(r^^^M.sm rows q).log2) (hf:M.Frs rows q)
  (u:Upd H H2 f (.lst ((M.fr rows).map nat++[nat rows.length]))) (s:Same H2 H3) (ht:H3 t=some (.tup [nat (r^^^M.sm rows q),nat (q^^^2 ^ rows.length)])) {es:List En} (hd:H d=some (.dK (nT es))) (ht':∀ e∈es,H e.a=some (.tup [nat e.m,nat e.p])) (g:M.Ech (es.map fun e=>(e.m,e.p)) rows) (l:es.length=(M.fr rows).length)
  (u':Upd H3 H4 d (.dK (putK (nT es) (Sum.inl (((r^^^M.sm rows q).log2:Nat):Int)) (.ref t)))):StA H4 C p d f n (rows++[r]):=by
 obtain ⟨dx,ho⟩:=x.ho
 obtain ⟨nms,hnn,gn⟩:=x.hn
 have hn':∀ e∈es.map (fun e=>(e.m,e.p)),e.1.log2≠(r^^^M.sm rows q).log2:=fun e he=>hn e.1 (g.span he) (g.nz e he)
 obtain ⟨hs,g2⟩:=g.more hq e hn' hf
 have hd2:=s _ _ (u.oth _ _ (iU hd x.hf (by simp)) hd)
 have hv:valV (nT es) (Sum.inl (((r^^^M.sm rows q).log2:Nat):Int))=none:=by
  rcases sU es (((r^^^M.sm rows q).log2:Nat):Int) with ⟨z,hz,e1,_⟩ | ⟨_,h⟩
  ·exact absurd (Int.ofNat_inj.mp e1) (hn' (z.m,z.p) (List.mem_map.mpr ⟨z,hz,rfl⟩))
  ·exact h
 have go:∀ (b:Addr) (ob:HO),H b=some ob→b≠f→b≠d→H4 b=some ob:=fun b ob h h1 h2=>u'.oth _ _ h2 (s _ _ (u.oth _ _ h1 h))
 refine ⟨⟨dx,go _ _ ho (iU ho x.hf (by simp)) (iU ho hd (by simp))⟩,⟨es++[⟨t,r^^^M.sm rows q,q^^^2 ^ rows.length⟩],?_,fun e he=>?_,?_,?_⟩,?_,⟨nms,go _ _ hnn (Ne.symm x.ne) (iU hnn hd (by simp)),gn.keep hs⟩,x.ne⟩
 ·rw [u'.at',putK_new hv]
  unfold nT
  rw [List.map_append]
  rfl
 ·rcases List.mem_append.mp he with he | he
  ·exact go _ _ (ht' e he) (iU (ht' e he) x.hf (by simp)) (iU (ht' e he) hd (by simp))
  ·rw [List.mem_singleton] at he;subst he
   exact u'.oth _ _ (iU ht hd2 (by simp)) ht
 ·rw [List.map_append];exact g2
 ·rw [M.fr_out hs,List.length_append,List.length_append,l];rfl
 ·rw [M.fr_out hs,List.map_append]
  exact u'.oth _ _ (fun z=>by rw [z] at x;have:=x.hf;rw [hd] at this;cases this) (s _ _ u.at')
noncomputable def Ny (C:Addr):Sp:=fun vs H Q _=>∃ p d f n rows x,vs=[.ref p,nat x]∧StA H C p d f n rows∧
 ∀ t H2 q,H t=none→Same H H2→H2 t=some (.tup [nat (x^^^M.sm rows q),nat q])→q < 2 ^ rows.length→(x^^^M.sm rows q≠0→∀ y,M.Span rows y→y≠0→y.log2≠(x^^^M.sm rows q).log2)→M.Frs rows q→Q (.ref t) H2
noncomputable def Nz (C:Addr):Sp:=fun vs H Q _=>∃ p d f n rows r,vs=[.ref p,nat rows.length,nat r]∧StA H C p d f n rows∧rows.length≤1000∧
 ∀ H2,(∀ b o,b≠d→b≠f→b≠n→H b=some o→H2 b=some o)→StA H2 C p d f n (rows++[r])→Q .non H2
noncomputable def Lw (C:Addr):Sp:=fun vs H Q _=>∃ x dx r rows,vs=[.ref x,.ref r]∧H r=some (.lst (rows.map nat))∧rows.length≤1000∧H x=some (.ins C dx [])∧
 ∀ H2 d f n,(∀ b o,b≠x→H b=some o→H2 b=some o)→StA H2 C x d f n rows→Q .non H2
theorem bZ {α:Type} {f:α→V} {ws:List α} {i:Nat} {x:V} (h:(ws.map f)[i]? =some x):∃ k,ws[i]? =some k∧x=f k:=by
 rw [List.getElem?_map] at h
 cases e:ws[i]? with
 | none=>rw [e] at h;cases h
 | some k=>rw [e] at h;exact ⟨k,rfl,(Option.some.inj h).symm⟩
theorem take_succ {α:Type} {ws:List α} {i:Nat} {w:α} (h:ws[i]? =some w):ws.take (i + 1)=ws.take i++[w]:=by rw [List.take_succ,h];rfl
theorem Cw {α:Type} {ws:List α} {i:Nat} {w:α} (h:ws[i]? =some w):(ws.take i).length=i:=by
 rw [List.length_take]
 have:=(List.getElem?_eq_some_iff.mp h).1
 omega
theorem HQ (ns:List Nat):(ns.map nat).all vV=true:=by simp [vV]
theorem wX {A:Around} {k:Nat} (hr:Room k A):A.units < cLine:=by have:=hr.un;omega
noncomputable def KL:Sp:=fun vs H Q _=>∃ c k,vs=[.int c,.int k]∧0≤k∧k < 100000∧∀ r:Nat,r < 2147483587→Q (nat r) H
noncomputable def CB (K:PySem.W.Frag):Sp:=fun vs H Q _=>∃ (a:Addr) (ns:List Int),vs=[.ref a]∧SqL K H a (ns.map V.int)∧ns.length≤63∧∀ H',Q (.bl true) H'
theorem OW {H:Hp} {Q:VK} {E:XK} {c k:Int} (h0:0≤k) (h1:k < 100000) (q:∀ r:Nat,r < 2147483587→Q (nat r) H):KL [.int c,.int k] H Q E:=⟨c,k,rfl,h0,h1,q⟩
structure Prs (H:Hp) (ws:List Nat) (D:Addr) (ps:List (Addr×Nat)):Prop where
 l:H D=some (.lst (ps.map fun q=>V.ref q.1))
 t:∀ q∈ps,H q.1=some (.tup [nat q.2,nat (M.sm ws q.2)])
 b:∀ q∈ps,q.2 < 2 ^ ws.length
noncomputable def cy (ks:List Nat):List (Key×V):=ks.map fun (k:Nat)=>((Sum.inl (k:Int):Key),V.bl true)
theorem sN (z:Nat):∀ ks:List Nat,(valV (cy ks) (Sum.inl (z:Int))).isSome=decide (z∈ks)
 | []=>by simp [cy,valV]
 | k::ks=>by
   by_cases h:k=z
   ·subst h
    rw [show valV (cy (k::ks)) (Sum.inl (k:Int))=some (V.bl true) from kM rfl]
    simp
   ·rw [show valV (cy (k::ks)) (Sum.inl (z:Int))=valV (cy ks) (Sum.inl (z:Int)) from jb (by show ¬ (Sum.inl _:Key)=_;intro q;exact h (by have:=Sum.inl.inj q;omega)),sN z ks]
    have:z≠k:=fun e=>h e.symm
    simp [this]
theorem JG {ks:List Nat} {z:Nat} (h:¬ z∈ks):putK (cy ks) (Sum.inl (z:Int)) (V.bl true)=cy (ks++[z]):=by
 have e:valV (cy ks) (Sum.inl (z:Int))=none:=by
  have:=sN z ks
  rw [decide_eq_false h] at this
  cases hv:valV (cy ks) (Sum.inl (z:Int)) with
  | none=>rfl
  | some v=>rw [hv] at this;cases this
 rw [putK_new e]
 unfold cy
 rw [List.map_append]
 rfl
end Sx
namespace M
theorem wA:∀ (l:List Nat) (j:Nat),sm l (2 ^ j)=l.getD j 0
 | [],j=>by simp [sm]
 | r::l,0=>by
   show (if (2 ^ 0).testBit 0 then r else 0)^^^sm l (2 ^ 0 / 2)=r
   rw [show (2 ^ 0:Nat) / 2=0 from rfl,sm_zero]
   simp
 | r::l,j + 1=>by
   show (if (2 ^ (j + 1)).testBit 0 then r else 0)^^^sm l (2 ^ (j + 1) / 2)=l.getD j 0
   have e1:(2 ^ (j + 1)) / 2=2 ^ j:=by rw [Nat.pow_succ];omega
   have e2:(2 ^ (j + 1)).testBit 0=false:=by rw [Nat.testBit_two_pow];simp
   rw [e1,e2,wA l j]
   simp
theorem Jt {P:List Nat→Prop} (h0:P []) (hs:∀ l w,P l→P (l++[w])):∀ l,P l:=by
 intro l
 rw [← List.reverse_reverse l]
 generalize l.reverse=k
 induction k with
 | nil=>exact h0
 | cons a k ih=>rw [List.reverse_cons];exact hs _ _ ih
theorem pl_next (i m:Nat):pl (i + 1) m=pl i m++(if m.testBit i then [i] else []):=by
 unfold pl
 rw [List.range_succ,List.filter_append]
 congr 1
 by_cases h:m.testBit i=true
 ·rw [if_pos h];simp [h]
 ·rw [if_neg h];simp [h]
theorem pl_lt {w m n:Nat} (h:m < 2 ^ n):∀ x∈pl w m,x < n:=by
 intro x hx
 have hb:=(List.mem_filter.mp hx).2
 refine Nat.lt_of_not_le fun hn=>?_
 rw [Nat.testBit_lt_two_pow (Nat.lt_of_lt_of_le h (Nat.pow_le_pow_right (by decide) hn))] at hb
 cases hb
noncomputable def xs (rows ps:List Nat):Nat:=ps.foldl (fun a k=>a^^^rows.getD k 0) 0
end M
namespace Sx
open PySem L2
theorem Mo (l:List Nat):l.map nat=(l.map fun (k:Nat)=>(k:Int)).map V.int:=by rw [List.map_map];rfl
section
variable {H:Hp} {Q:VK}
theorem Kd (l:List Nat):eqVs (l.map nat) []=l.isEmpty:=by
 unfold eqVs
 cases l with
 | nil=>rfl
 | cons x l=>simp
theorem LX {K:PySem.W.Frag} {neg:Bool} {p q:Addr} {l:List Nat} (e:SqL K H p (l.map nat)) (e':SqL K H q []) (h:Q (.bl (if neg then !l.isEmpty else l.isEmpty)) H):rEqL K neg (.ref p) (.ref q) H Q:=by
 refine ⟨p,q,_,_,rfl,rfl,e,e',HQ l,rfl,?_⟩
 rw [Kd]
 exact h
end
theorem Cb (m:Nat):m < 2 ^ Builtin.Int.intBits (m:Int):=by
 by_cases h:m=0
 ·subst h;decide
 ·rw [jt h];exact Nat.lt_log2_self
theorem Cc {m w:Nat} (hm:m < 2 ^ w):Builtin.Int.intBits (m:Int)≤w:=by
 by_cases h:m=0
 ·subst h;rw [AE];exact Nat.zero_le _
 ·rw [jt h];exact (Nat.log2_lt h).mpr hm
noncomputable def LC:Sp:=fun vs H Q _=>∃ m:Nat,vs=[nat m]∧m < 2 ^ 1000∧∀ D H2,H D=none→Same H H2→H2 D=some (.lst ((M.pl 1000 m).map nat))→Q (.ref D) H2
theorem MU {rows:List Nat} {k:Nat} (h:k < rows.length):atI (rows.map nat) (k:Int)=some (nat (rows.getD k 0)):=nc (by rw [List.getElem?_map,List.getElem?_eq_getElem h,List.getD_eq_getElem?_getD,List.getElem?_eq_getElem h];rfl)
end Sx
namespace M
noncomputable abbrev od (m:Nat):Bool:=pb 1000 m
theorem tO (a b:Nat):od (a^^^b)=(od a^^od b):=KS 1000 a b
theorem qk (m a b:Nat):m&&&(a^^^b)=(m&&&a)^^^(m&&&b):=by
 apply Nat.eq_of_testBit_eq;intro i
 simp only [Nat.testBit_and,Nat.testBit_xor]
 cases m.testBit i<;>simp
theorem Lk (m a b:Nat):(a^^^b)&&&m=(a&&&m)^^^(b&&&m):=by
 apply Nat.eq_of_testBit_eq;intro i
 simp only [Nat.testBit_and,Nat.testBit_xor]
 cases m.testBit i<;>simp
theorem xX:∀ w:Nat,pb w 0=false
 | 0=>rfl
 | w + 1=>by show ((0:Nat).testBit w^^pb w 0)=false;rw [xX w];simp
theorem pb_pow {w t:Nat} (h:t < w):pb w (2 ^ t)=true:=by
 rw [pb_up (w:=t + 1) (Nat.pow_lt_pow_right (by decide) (by omega)) h]
 show ((2 ^ t).testBit t^^pb t (2 ^ t))=true
 have e:pb t (2 ^ t)=false:=by
  rw [← KU,Nat.mod_self,xX]
 rw [e,Nat.testBit_two_pow_self];rfl
theorem Ma (t y:Nat):2 ^ t&&&y=if y.testBit t then 2 ^ t else 0:=by
 apply Nat.eq_of_testBit_eq;intro i
 rw [Nat.testBit_and,Nat.testBit_two_pow]
 by_cases h:t=i
 ·subst h
  cases y.testBit t<;>simp
 ·cases y.testBit t<;>simp [h,Nat.testBit_two_pow]
theorem G0 {t:Nat} (h:t < 1000) (y:Nat):od (2 ^ t&&&y)=y.testBit t:=by
 rw [Ma]
 cases y.testBit t with
 | true=>rw [if_pos rfl];exact pb_pow h
 | false=>rw [if_neg Bool.false_ne_true];exact xX 1000
theorem od_zero:od 0=false:=xX 1000
theorem KY {y k:Nat} (h:y < 2 ^ k):y.testBit k=false:=Nat.testBit_lt_two_pow h
theorem Gf {y t k:Nat} (h:y≠0) (e:y.log2=t) (l:t < k):y < 2 ^ k:=Nat.lt_of_lt_of_le (by rw [← e];exact Nat.lt_log2_self) (Nat.pow_le_pow_right (by decide) l)
structure Bar (rows:List Nat) (b m:Nat):Prop where
 ev:∀ y,Span rows y→od (m&&&y)=false
 bit:m.testBit b=true
 low:∀ k,k < b→m.testBit k=false
 oth:∀ k,k≠b→(∀ y,Span rows y→y≠0→y.log2≠k)→m.testBit k=false
 lt:∀ W,(∀ r∈rows,r < 2 ^ W)→b < W→m < 2 ^ W
structure BarI (es:List (Nat×Nat)) (ts:List Nat) (b m:Nat):Prop where
 ev:∀ e∈es,e.1.log2∈ts→od (m&&&e.1)=false
 bit:m.testBit b=true
 low:∀ k,k < b→m.testBit k=false
 oth:∀ k,k≠b→(∀ e∈es,e.1.log2≠k)→m.testBit k=false
 lt:∀ W,(∀ e∈es,e.1 < 2 ^ W)→b < W→m < 2 ^ W
theorem BarI.zero (es:List (Nat×Nat)) (b:Nat):BarI es [] b (2 ^ b) where
 ev:=fun _ _ h=>absurd h (by simp)
 bit:=Nat.testBit_two_pow_self
 low:=fun k h=>by rw [Nat.testBit_two_pow];simp;omega
 oth:=fun k h _=>by rw [Nat.testBit_two_pow];simp;omega
 lt:=fun W _ h=>Nat.pow_lt_pow_right (by decide) h
theorem JX {m y b:Nat} (h:∀ k,k < b→m.testBit k=false) (hy:y < 2 ^ b):m&&&y=0:=by
 apply Nat.eq_of_testBit_eq;intro i
 rw [Nat.testBit_and,Nat.zero_testBit]
 by_cases hi:i < b
 ·rw [h i hi];rfl
 ·rw [Nat.testBit_lt_two_pow (Nat.lt_of_lt_of_le hy (Nat.pow_le_pow_right (by decide) (by omega)))];simp
theorem Ct {es:List (Nat×Nat)} (nd:(es.map fun e=>e.1.log2).Nodup) {e f:Nat×Nat} (he:e∈es) (hf:f∈es) (h:e.1.log2=f.1.log2):e=f:=by
 obtain ⟨i,hi,rfl⟩:=List.mem_iff_getElem.mp he
 obtain ⟨j,hj,rfl⟩:=List.mem_iff_getElem.mp hf
 have key:∀ i j (hi:i < es.length) (hj:j < es.length),i < j→es[i].1.log2≠es[j].1.log2:=fun i j hi hj hij=>by
  have:=List.pairwise_iff_getElem.mp nd i j (by rw [List.length_map];exact hi) (by rw [List.length_map];exact hj) hij
  rw [List.getElem_map,List.getElem_map] at this
  exact this
 rcases Nat.lt_trichotomy i j with h1 | h1 | h1
 ·exact absurd h (key i j hi hj h1)
 ·subst h1;rfl
 ·exact absurd h.symm (key j i hj hi h1)
theorem BarI.keep {es:List (Nat×Nat)} {ts:List Nat} {b m:Nat} (I:BarI es ts b m) {e:Nat×Nat} (nd:(es.map fun e=>e.1.log2).Nodup) (he:e∈es) (h:od (m&&&e.1)=false):BarI es (ts++[e.1.log2]) b m where
 ev:=fun f hf hm=>by
  rcases List.mem_append.mp hm with hm | hm
  ·exact I.ev f hf hm
  ·rw [List.mem_singleton] at hm
   rw [Ct nd hf he hm];exact h
 bit:=I.bit
 low:=I.low
 oth:=I.oth
 lt:=I.lt
theorem BarI.flip {es:List (Nat×Nat)} {ts:List Nat} {b m:Nat} (I:BarI es ts b m) {e:Nat×Nat} (nd:(es.map fun e=>e.1.log2).Nodup) (nz:∀ e∈es,e.1≠0) (he:e∈es) (h:od (m&&&e.1)=true) (up:∀ t∈ts,t < e.1.log2) (hb:e.1.log2≠b) (h1000:e.1.log2 < 1000):BarI es (ts++[e.1.log2]) b (m^^^2 ^ e.1.log2):=by
 have hgt:b < e.1.log2:=by
  refine Nat.lt_of_le_of_ne (Nat.le_of_not_lt fun hlt=>?_) (Ne.symm hb)
  rw [JX I.low (Gf (nz e he) rfl hlt),od_zero] at h
  cases h
 have e0:=nz e he
 refine ⟨fun f hf hm=>?_,?_,fun k hk=>?_,fun k hk hn=>?_,fun W hW hbW=>?_⟩
 ·rw [Lk,tO,G0 h1000]
  rcases List.mem_append.mp hm with hm | hm
  ·rw [I.ev f hf hm,KY (Gf (nz f hf) rfl (up _ hm))];rfl
  ·rw [List.mem_singleton] at hm
   rw [Ct nd hf he hm,h,oA e0];rfl
 ·rw [Nat.testBit_xor,I.bit,Nat.testBit_two_pow];simp;omega
 ·rw [Nat.testBit_xor,I.low k hk,Nat.testBit_two_pow];simp;omega
 ·rw [Nat.testBit_xor,I.oth k hk hn,Nat.testBit_two_pow]
  have:=hn e he
  simp;omega
 ·exact xor_lt_pow (I.lt W hW hbW) (Nat.lt_of_le_of_lt (Nat.log2_self_le e0) (hW e he))
theorem Ech.even_all {es:List (Nat×Nat)} {rows:List Nat} (g:Ech es rows) {m:Nat} (h:∀ e∈es,od (m&&&e.1)=false):∀ y,Span rows y→od (m&&&y)=false:=by
 intro y
 induction y using Nat.strongRecOn with
 | ind y ih=>
   intro hy
   by_cases y0:y=0
   ·subst y0;rw [Nat.and_zero,od_zero]
   ·obtain ⟨e,he,el⟩:=g.all y hy y0
    have e0:=g.nz e he
    have hl:=xor_less y0 e0 el.symm
    have h1:=ih _ hl (span_xor hy (g.span he))
    have h2:=h e he
    have h3:od (m&&&(y^^^e.1))=(od (m&&&y)^^od (m&&&e.1)):=by rw [qk,tO]
    rw [h1,h2] at h3
    simpa using h3.symm
theorem BarI.done {es:List (Nat×Nat)} {rows:List Nat} (g:Ech es rows) {ts:List Nat} {b m:Nat} (I:BarI es ts b m) (all:∀ e∈es,e.1.log2∈ts):Bar rows b m where
 ev:=g.even_all fun e he=>I.ev e he (all e he)
 bit:=I.bit
 low:=I.low
 oth:=fun k hk h=>I.oth k hk fun e he=>h e.1 (g.span he) (g.nz e he)
 lt:=fun W hW hb=>I.lt W (fun e he=>span_lt hW (g.span he)) hb
theorem Bar.odd {rows:List Nat} {b m x q:Nat} (B:Bar rows b m) (h0:x^^^sm rows q≠0) (hb:(x^^^sm rows q).log2=b) (h1000:b < 1000):od (m&&&x)=true:=by
 have e1:m&&&x=(m&&&(x^^^sm rows q))^^^(m&&&sm rows q):=by rw [← qk,bP]
 rw [e1,tO,B.ev _ (sm_span rows q)]
 have e2:m&&&(x^^^sm rows q)=2 ^ b:=by
  apply Nat.eq_of_testBit_eq;intro i
  rw [Nat.testBit_and,Nat.testBit_two_pow]
  rcases Nat.lt_trichotomy i b with h | h | h
  ·rw [B.low i h];simp;omega
  ·subst h;rw [B.bit,← hb,oA h0];simp
  ·rw [KY (Gf h0 hb h)];simp;omega
 rw [e2]
 show (pb 1000 (2 ^ b)^^false)=true
 rw [pb_pow h1000];rfl
theorem Du:∀ rows:List Nat,∃ ks,Sums ks rows∧ks.length=2 ^ (fr rows).length:=by
 refine Jt ⟨[0],Sums.zero,rfl⟩ fun rows r ih=>?_
 obtain ⟨ks,S,e⟩:=ih
 by_cases h:Span rows r
 ·exact ⟨ks,S.keep h,by rw [fr_in h];exact e⟩
 ·refine ⟨_,S.step h,?_⟩
  rw [fr_out h,List.length_append,List.length_append,List.length_map,e,List.length_singleton,Nat.pow_succ]
  omega
theorem rank_le {rows:List Nat} {t:Nat} (h:∀ r∈rows,r < 2 ^ t):(fr rows).length≤t:=by
 obtain ⟨ks,S,e⟩:=Du rows
 have:=S.few h
 rw [e] at this
 exact (Nat.pow_le_pow_iff_right (by decide)).mp this
theorem pb_half (w m:Nat):pb (w + 1) m=(m.testBit 0^^pb w (m / 2)):=by
 rw [Nat.add_comm,xZ 1 w m,Nat.shiftRight_eq_div_pow]
 congr 1
 show (m.testBit 0^^false)=_
 simp
theorem CA {l:List Nat} {m:Nat} (h:m∈l):Span l m:=by
 obtain ⟨j,hj,rfl⟩:=List.mem_iff_getElem.mp h
 have:=sm_span l (2 ^ j)
 rw [wA,List.getD_eq_getElem?_getD,List.getElem?_eq_getElem hj] at this
 exact this
end M
namespace Sx
open PySem L2
noncomputable def cell (ns:List Int) (k:Int):Int:=if k < ns.length then ns.getD k.toNat 0 else 41 * k + 3
noncomputable def CC (K:PySem.W.Frag):Sp:=fun vs H Q _=>∃ (p:Addr) (ns:List Int) (k:Int),vs=[.ref p,.int k]∧SqL K H p (ns.map V.int)∧0≤k∧Q (.int (cell ns k)) H
theorem Im {K:PySem.W.Frag} {H:Hp} {Q:VK} {E:XK} {p:Addr} {ns:List Int} {k:Int} (e:SqL K H p (ns.map V.int)) (h0:0≤k) (q:Q (.int (cell ns k)) H):CC K [.ref p,.int k] H Q E:=⟨p,ns,k,rfl,e,h0,q⟩
noncomputable def Lz:Sp:=fun vs H Q _=>∃ m:Nat,vs=[nat m]∧m < 2 ^ 1000∧Q (.bl (!M.od m)) H
theorem HS (n h:Nat):Builtin.bitXor ((n:Int) / 2 ^ ((h:Int).toNat)) (Builtin.bitAnd (n:Int) (1 * 2 ^ ((h:Int).toNat) - 1))=(((n>>>h)^^^(n&&&(2 ^ h - 1)):Nat):Int):=by
 rw [Int.toNat_natCast,Int.one_mul,xM]
 have e1:(n:Int) / ((2 ^ h:Nat):Int)=((n>>>h:Nat):Int):=by rw [Nat.shiftRight_eq_div_pow];norm_cast
 have e2:((2 ^ h:Nat):Int) - 1=((2 ^ h - 1:Nat):Int):=by have:=Nat.two_pow_pos h;omega
 rw [e1,e2,bS,c6]
theorem HC (wd:Nat):((wd:Int) + 1) / 2=(((wd + 1) / 2:Nat):Int):=by omega
theorem JN {n:Nat} (h:n < 2):decide (nat n=V.int 0)= !M.od n:=by
 have:n=0∨n=1:=by omega
 rcases this with rfl | rfl
 ·rw [M.od_zero];decide
 ·rw [show M.od 1=true from M.pb_pow (t:=0) (by decide)];decide
noncomputable def O6 (rows:List Nat) (b:Nat):Prop:=∀ y,M.Span rows y→y≠0→y.log2≠b
noncomputable def NB (C:Addr):Sp:=fun vs H Q _=>∃ (p d f n:Addr) (rows:List Nat) (b:Nat),vs=[.ref p,nat b]∧StA H C p d f n rows∧b < 1000∧(∀ r∈rows,r < 2 ^ 1000)∧(M.fr rows).length < 64∧O6 rows b∧
 ∀ m H2,Same H H2→M.Bar rows b m→Q (nat m) H2
structure Acr (rows:List Nat) (wd:Nat) (ms:List Nat):Prop where
 len:ms.length + (M.fr rows).length=wd
 inj:M.Inj ms
 lt:∀ m∈ms,m < 2 ^ wd
 ev:∀ m∈ms,∀ y,M.Span rows y→M.od (m&&&y)=false
 all:∀ z,z < 2 ^ wd→(∀ y,M.Span rows y→M.od (z&&&y)=false)→M.Span ms z
theorem J1 (es:List En):(nT es).map (·.1)=(es.map fun e=>((e.m.log2:Nat):Int)).map Sum.inl:=by unfold nT;rw [List.map_map,List.map_map];rfl
theorem A6 {es:List En} {ns:List Int} (hp:ns.Perm (es.map fun e=>((e.m.log2:Nat):Int))) (hw:ns.Pairwise (·≤·)) (nd:(es.map fun e=>e.m.log2).Nodup):
  ∃ ts:List Nat,ns=ts.map (fun (k:Nat)=>(k:Int))∧ts.Pairwise (· < ·)∧(∀ t,t∈ts↔∃ e∈es,e.m.log2=t):=by
 have hn:∀ x∈ns,((x.toNat:Nat):Int)=x:=fun x hx=>by
  obtain ⟨e,_,rfl⟩:=List.mem_map.mp (hp.mem_iff.mp hx)
  omega
 have e1:ns=(ns.map Int.toNat).map (fun (k:Nat)=>(k:Int)):=by
  rw [List.map_map]
  exact (List.map_id ns).symm.trans (List.map_congr_left fun x hx=>(hn x hx).symm)
 have hp2:(ns.map Int.toNat).Perm (es.map fun e=>e.m.log2):=by
  have:=hp.map Int.toNat
  rw [List.map_map] at this
  exact this
 refine ⟨ns.map Int.toNat,e1,?_,fun t=>?_⟩
 ·have nd2:(ns.map Int.toNat).Nodup:=hp2.nodup_iff.mpr nd
  have hle:(ns.map Int.toNat).Pairwise (·≤·):=by
   rw [List.pairwise_map]
   exact hw.imp fun h=>by omega
  exact List.Pairwise.imp (R:=fun a b=>a≤b∧a≠b) (fun h=>by omega) (List.Pairwise.and hle nd2)
 ·rw [hp2.mem_iff,List.mem_map]
end Sx
namespace M
noncomputable def cm (a b:Nat):Nat:=if b=0 then 0 else (if b % 2=1 then a else 0)^^^2 * cm a (b / 2)
termination_by b
decreasing_by omega
noncomputable def Dv (d x:Nat):Prop:=∃ q,cm q d=x
structure Rm (d x r:Nat):Prop where
 lt:r < 2 ^ d.log2
 dv:Dv d (x^^^r)
end M
namespace Sx
open PySem L2
noncomputable def dg (m:Nat):Int:=(Builtin.Int.intBits (m:Int):Int) - 1
end Sx
namespace M
structure Ord (d e:Nat):Prop where
 pos:1≤e
 one:Rm d (2 ^ e) 1
 least:∀ j,1≤j→j < e→¬ Rm d (2 ^ j) 1
 le:e≤2 ^ d.log2
end M
namespace Sx
open PySem L2
noncomputable def F4 (k:String):Bool:=subB k "int"&& !subB k "bool"
noncomputable def gi (x:V) (w:Int):Bool:=match x with
 | .int i=>decide (0≤i)&&decide (((Builtin.Int.intBits i:Nat):Int)≤w)
 | _=>false
noncomputable def sP (K:PySem.W.Frag):Sp:=fun vs H Q _=>∃ x k,vs=[x]∧gZ K H x k∧Q (.bl (F4 k)) H
noncomputable def A7 (K:PySem.W.Frag):Sp:=fun vs H Q _=>∃ x k w,vs=[x,.int w]∧gZ K H x k∧Q (.bl (gi x w)) H
theorem fN {K:PySem.W.Frag} {H:Hp} {Q:VK} {E:XK} {x:V} {k:String} (hk:gZ K H x k) (q:Q (.bl (F4 k)) H):sP K [x] H Q E:=⟨x,k,rfl,hk,q⟩
theorem i3 {K:PySem.W.Frag} {H:Hp} {Q:VK} {E:XK} {x:V} {k:String} {i:Int} (hk:gZ K H x k) (q:Q (.bl (gi x i)) H):A7 K [x,.int i] H Q E:=⟨x,k,i,rfl,hk,q⟩
theorem jm {c m:Int} (h:0 < m):∃ k:Nat,c % m=(k:Int)∧(k:Int) < m:=by
 obtain ⟨k,hk⟩:=Int.eq_ofNat_of_zero_le (Int.emod_nonneg c (Int.ne_of_gt h))
 exact ⟨k,hk,by rw [← hk];exact Int.emod_lt_of_pos c h⟩
theorem Pq {H:Hp} {Q:VK} {l:Addr} {k:Int} {xs:List V} (e:H l=some (.lst xs)) (h0: -(2 ^ 63)≤k) (h1:k < 2 ^ 63) (hz:xs.length * k.toNat≤sizeLine) (h:∀ p H2,H p=none→Same H H2→H2 p=some (.lst (List.replicate k.toNat xs).flatten)→Q (.ref p) H2):rRep (.ref l) (.int k) H Q:=
 ⟨l,k,xs,rfl,rfl,e,h0,h1,hz,j1 h⟩
end Sx
namespace M
noncomputable def bn (b:Bool):Nat:=if b then 1 else 0
noncomputable def pk (s:Nat→Bool) (t:Nat):Nat→Nat
 | 0=>0
 | L + 1=>pk s t L^^^(if s (t + L) then 2 ^ L else 0)
theorem Oi (s:Nat→Bool) (t:Nat):∀ L,pk s t L < 2 ^ L
 | 0=>Nat.one_pos
 | L + 1=>by
   have ih:=Oi s t L
   refine xor_lt_pow (Nat.lt_of_lt_of_le ih (Nat.pow_le_pow_right (by decide) (by omega))) ?_
   split
   ·exact Nat.pow_lt_pow_right (by decide) (by omega)
   ·exact Nat.two_pow_pos _
theorem KR (s:Nat→Bool) (t:Nat):∀ L p,(pk s t L).testBit p=(decide (p < L)&&s (t + p))
 | 0,p=>by simp [pk]
 | L + 1,p=>by
   rw [pk,Nat.testBit_xor,KR s t L p]
   rcases Nat.lt_trichotomy p L with h | h | h
   ·have e:(if s (t + L)=true then 2 ^ L else 0:Nat).testBit p=false:=by
     cases s (t + L)<;>simp [Nat.testBit_two_pow];omega
    rw [e];simp [h,show p < L + 1 by omega]
   ·subst h
    cases hs:s (t + p)<;>simp [Nat.testBit_two_pow_self]
   ·have e:(if s (t + L)=true then 2 ^ L else 0:Nat).testBit p=false:=by
     cases s (t + L)<;>simp [Nat.testBit_two_pow];omega
    rw [e];simp [show ¬ p < L by omega,show ¬ p < L + 1 by omega]
theorem CK {s u:Nat→Bool} {t v:Nat}:∀ {L:Nat},(∀ p,p < L→s (t + p)=u (v + p))→pk s t L=pk u v L
 | 0,_=>rfl
 | L + 1,h=>by rw [pk,pk,CK fun p hp=>h p (by omega),h L (by omega)]
noncomputable def lf (G:Nat):Nat→(Nat→Bool)→Nat→Bool
 | 0,_,_=>false
 | L + 1,s,t=>lf G L s t^^(G.testBit L&&s (t + L))
noncomputable def tr (as:List Nat) (x:Nat):Nat:=pk (fun k=>od (as.getD k 0&&&x)) 0 as.length
noncomputable def stt (as:List Nat) (x:Nat):Nat→Nat
 | 0=>x
 | t + 1=>tr as (stt as x t)
noncomputable def ans (as:List Nat) (o x t:Nat):Bool:=od (o&&&stt as x t)
noncomputable def lm (L G:Nat):List Nat:=(List.range (L - 1)).map (fun p=>2 ^ (p + 1))++(if 0 < L then [G] else [])
end M
namespace Sx
open PySem L2
noncomputable abbrev Pr3:=Addr×Nat×Nat
noncomputable def refs (ps:List Pr3):List V:=ps.map fun q=>V.ref q.1
noncomputable def Prt (H:Hp) (ps:List Pr3):Prop:=∀ q∈ps,H q.1=some (.tup [nat q.2.1,nat q.2.2])
theorem Prt.same {H H2:Hp} {ps:List Pr3} (x:Prt H ps) (s:Same H H2):Prt H2 ps:=fun q h=>s _ _ (x q h)
structure MaA (H:Hp) (C p:Addr) (m:Nat) (nx os:List Pr3):Prop where
 ho:∃ dx tn to,H p=some (.ins C dx [("inputs",nat m),("nexts",.ref tn),("outs",.ref to)])∧H tn=some (.tup (refs nx))∧H to=some (.tup (refs os))
 hn:Prt H nx
 hs:Prt H os
theorem MaA.same {H H2:Hp} {C p:Addr} {m:Nat} {nx os:List Pr3} (x:MaA H C p m nx os) (s:Same H H2):MaA H2 C p m nx os:=
 ⟨let ⟨dx,tn,to,a,b,c⟩:=x.ho;⟨dx,tn,to,s _ _ a,s _ _ b,s _ _ c⟩,x.hn.same s,x.hs.same s⟩
noncomputable def sq (bs:List Bool):Nat→Bool:=fun i=>bs.getD i false
noncomputable def Gs:Sp:=fun vs H Q _=>∃ (r:Addr) (ps:List Nat),vs=[.ref r]∧H r=some (.lst (ps.map nat))∧(∀ p∈ps,p < 1000)∧Q (nat (M.xm ps)) H
noncomputable def Jh:Sp:=fun vs H Q _=>∃ (t:Addr) (x y n m:Nat),vs=[.ref t,nat n,nat m]∧H t=some (.tup [nat x,nat y])∧x < 2 ^ n∧y < 2 ^ m∧Q (.bl true) H
structure Tab (H:Hp) (n o:Addr) (m:Nat) (nx os:List Pr3):Prop where
 m6:m≤6
 n:H n=some (.lst (refs nx))
 o:H o=some (.lst (refs os))
 pn:Prt H nx
 po:Prt H os
 ln:nx.length≤120
 lo:os.length≤6
 bn:∀ q∈nx++os,q.2.1 < 2 ^ nx.length∧q.2.2 < 2 ^ m
noncomputable def LB:Sp:=fun vs H Q _=>∃ (n o:Addr) (m:Nat) (nx os:List Pr3),vs=[nat m,.ref n,.ref o]∧Tab H n o m nx os∧∀ H2,Same H H2→Q .non H2
noncomputable def Ly (C:Addr):Sp:=fun vs H Q _=>∃ (x dx n o:Addr) (m:Nat) (nx os:List Pr3),vs=[.ref x,nat m,.ref n,.ref o]∧H x=some (.ins C dx [])∧Tab H n o m nx os∧∀ H2,(∀ b ob,b≠x→H b=some ob→H2 b=some ob)→MaA H2 C x m nx os→Q .non H2
noncomputable def Gq (C:Addr):Sp:=fun vs H Q _=>∃ (p:Addr) (m:Nat) (nx os:List Pr3),vs=[.ref p]∧MaA H C p m nx os∧Q (nat nx.length) H
structure Lfsr (nx os:List Pr3) (L G:Nat):Prop where
 nx:nx.map (fun q=>q.2.1)=M.lm L G
 os:∃ t,os=[(t,(if 0 < L then 1 else 0),0)]
theorem bG {a n:Nat} (h:a < 2 ^ n):gi (nat a) (n:Int)=true:=by
 have:=Cc h
 show (decide ((0:Int)≤(a:Int))&&decide (((Builtin.Int.intBits (a:Int):Nat):Int)≤(n:Int)))=true
 rw [decide_eq_true (by omega),decide_eq_true (by omega)];rfl
theorem Ll {ps:List Nat} {i k:Nat} (h:ps[i]? =some k):M.xm (ps.take (i + 1))=M.xm (ps.take i)^^^2 ^ k:=by rw [take_succ h];unfold M.xm;rw [List.foldl_append];rfl
theorem Ph {w m:Nat} (h:m < 2 ^ w):M.xm (M.pl w m)=m:=M.xm_ext h fun k=>rfl
noncomputable abbrev ms (nx:List Pr3):List Nat:=nx.map fun q=>q.2.1
end Sx
namespace M
noncomputable def tr2 (ps:List (Nat×Nat)) (x r:Nat):Nat:=pk (fun k=>od ((ps.getD k (0,0)).1&&&x)^^od ((ps.getD k (0,0)).2&&&r)) 0 ps.length
theorem xu (ps:List (Nat×Nat)) (x r k:Nat):(tr2 ps x r).testBit k=(decide (k < ps.length)&&(od ((ps.getD k (0,0)).1&&&x)^^od ((ps.getD k (0,0)).2&&&r))):=by unfold tr2;rw [KR,Nat.zero_add]
theorem tr2_lt (ps:List (Nat×Nat)) (x r:Nat):tr2 ps x r < 2 ^ ps.length:=Oi _ _ _
theorem tr2_snoc (ps:List (Nat×Nat)) (p:Nat×Nat) (x r:Nat):tr2 (ps++[p]) x r=tr2 ps x r^^^(if (od (p.1&&&x)^^od (p.2&&&r)) then 2 ^ ps.length else 0):=by
 unfold tr2
 rw [List.length_append,List.length_singleton,pk,Nat.zero_add]
 have e1:(ps++[p]).getD ps.length (0,0)=p:=by rw [List.getD_eq_getElem?_getD,List.getElem?_append_right (Nat.le_refl _),Nat.sub_self];rfl
 rw [e1]
 have e2:pk (fun k=>od (((ps++[p]).getD k (0,0)).1&&&x)^^od (((ps++[p]).getD k (0,0)).2&&&r)) 0 ps.length=pk (fun k=>od ((ps.getD k (0,0)).1&&&x)^^od ((ps.getD k (0,0)).2&&&r)) 0 ps.length:=CK fun k hk=>by
  rw [Nat.zero_add,List.getD_eq_getElem?_getD,List.getD_eq_getElem?_getD,List.getElem?_append_left hk]
 rw [e2]
theorem tr2_add (ps:List (Nat×Nat)) (x y r s:Nat):tr2 ps (x^^^y) (r^^^s)=tr2 ps x r^^^tr2 ps y s:=by
 apply Nat.eq_of_testBit_eq;intro i
 rw [Nat.testBit_xor,xu,xu,xu,qk,tO,qk,tO]
 cases decide (i < ps.length)<;>cases od ((ps.getD i (0,0)).1&&&x)<;>cases od ((ps.getD i (0,0)).1&&&y)<;>cases od ((ps.getD i (0,0)).2&&&r)<;>cases od ((ps.getD i (0,0)).2&&&s)<;>rfl
theorem nr (ps:List (Nat×Nat)):tr2 ps 0 0=0:=by
 apply Nat.eq_of_testBit_eq;intro i
 rw [xu,Nat.and_zero,Nat.and_zero,od_zero];simp
noncomputable def wst (ps:List (Nat×Nat)):Nat→List Nat→Nat
 | x,[]=>x
 | x,r::rs=>wst ps (tr2 ps x r) rs
noncomputable def wan (ps os:List (Nat×Nat)):Nat→List Nat→List Nat
 | _,[]=>[]
 | x,r::rs=>tr2 os x r::wan ps os (tr2 ps x r) rs
theorem wst_snoc (ps:List (Nat×Nat)) (r:Nat):∀ (rs:List Nat) (x:Nat),wst ps x (rs++[r])=tr2 ps (wst ps x rs) r
 | [],_=>rfl
 | _::rs,_=>wst_snoc ps r rs _
theorem wan_snoc (ps os:List (Nat×Nat)) (r:Nat):∀ (rs:List Nat) (x:Nat),wan ps os x (rs++[r])=wan ps os x rs++[tr2 os (wst ps x rs) r]
 | [],_=>rfl
 | _::rs,_=>congrArg (_::·) (wan_snoc ps os r rs _)
theorem wan_len (ps os:List (Nat×Nat)):∀ (rs:List Nat) (x:Nat),(wan ps os x rs).length=rs.length
 | [],_=>rfl
 | _::rs,_=>congrArg (· + 1) (wan_len ps os rs _)
theorem wst_lt {ps:List (Nat×Nat)}:∀ {rs:List Nat} {x:Nat},x < 2 ^ ps.length→wst ps x rs < 2 ^ ps.length
 | [],_,h=>h
 | r::rs,x,_=>wst_lt (rs:=rs) (tr2_lt ps x r)
theorem xm_snoc (qs:List Nat) (k:Nat):xm (qs++[k])=xm qs^^^2 ^ k:=by unfold xm;rw [List.foldl_append];rfl
theorem rev_ind {α:Type} {P:List α→Prop} (h0:P []) (h1:∀ l x,P l→P (l++[x])) (l:List α):P l:=by
 have:∀ l:List α,P l.reverse:=fun l=>by
  induction l with
  | nil=>exact h0
  | cons x l ih=>rw [List.reverse_cons];exact h1 _ _ ih
 have:=this l.reverse
 rwa [List.reverse_reverse] at this
theorem Br (s x r:Nat) (ps:List (Nat×Nat)) (h:ps.length≤1000):od (s&&&tr2 ps x r)=(od (sm (ps.map (·.1)) s&&&x)^^od (sm (ps.map (·.2)) s&&&r)):=by
 induction ps using rev_ind with
 | h0=>show od (s&&&0)=(od (0&&&x)^^od (0&&&r));rw [Nat.and_zero,Nat.zero_and,Nat.zero_and,od_zero];rfl
 | h1 ps p ih=>
   rw [List.length_append,List.length_singleton] at h
   have ih:=ih (by omega)
   rw [tr2_snoc,qk,tO,ih,List.map_append,List.map_append,List.map_singleton,List.map_singleton,jX,jX,List.length_map,List.length_map]
   generalize hb:(od (p.1&&&x)^^od (p.2&&&r))=b
   have e1:od (s&&&(if b=true then 2 ^ ps.length else 0))=(b&&s.testBit ps.length):=by
    cases b with
    | true=>rw [if_pos rfl,Nat.and_comm,G0 (by omega)];simp
    | false=>rw [if_neg Bool.false_ne_true,Nat.and_zero,od_zero];simp
   rw [e1]
   have e2:∀ u v t:Nat,od ((u^^^v)&&&t)=(od (u&&&t)^^od (v&&&t)):=fun u v t=>by rw [Nat.and_comm,qk,tO,Nat.and_comm,Nat.and_comm t v]
   rw [e2,e2]
   cases s.testBit ps.length with
   | true=>rw [if_pos rfl,if_pos rfl,← hb];cases od (sm (ps.map (·.1)) s&&&x)<;>cases od (sm (ps.map (·.2)) s&&&r)<;>cases od (p.1&&&x)<;>cases od (p.2&&&r)<;>rfl
   | false=>rw [if_neg Bool.false_ne_true,if_neg Bool.false_ne_true,Nat.zero_and,Nat.zero_and,od_zero];cases b<;>simp
theorem Li {f k:Nat} (h:f < 2 ^ k):f^^^2 ^ k=f + 2 ^ k:=by
 have h1:=or_sum f (2 ^ k)
 have h2:f&&&2 ^ k=0:=by
  apply Nat.eq_of_testBit_eq;intro i
  rw [Nat.testBit_and,Nat.testBit_two_pow]
  by_cases hi:k=i
  ·subst hi;rw [Nat.testBit_lt_two_pow h];simp
  ·simp [hi]
 have h3:=Nat.two_pow_add_eq_or_of_lt h 1
 rw [Nat.mul_one,Nat.or_comm] at h3
 omega
theorem tr2_step {ps:List (Nat×Nat)} {i:Nat} {q:Nat×Nat} (x r:Nat) (h:ps[i]? =some q):tr2 (ps.take (i + 1)) x r=tr2 (ps.take i) x r + (if (od (q.1&&&x)^^od (q.2&&&r)) then 2 ^ i else 0):=by
 have hi:=(List.getElem?_eq_some_iff.mp h).1
 have hl:(ps.take i).length=i:=by rw [List.length_take];omega
 have e:ps.take (i + 1)=ps.take i++[q]:=by rw [List.take_add_one,h];rfl
 rw [e,tr2_snoc,hl]
 have ht:=tr2_lt (ps.take i) x r
 rw [hl] at ht
 split
 ·exact Li ht
 ·rw [Nat.xor_zero,Nat.add_zero]
theorem LD {rows:List Nat} {i r:Nat} (s:Nat) (h:rows[i]? =some r):sm (rows.take (i + 1)) s=sm (rows.take i) s^^^(if s.testBit i then r else 0):=by
 have hi:=(List.getElem?_eq_some_iff.mp h).1
 have e:rows.take (i + 1)=rows.take i++[r]:=by rw [List.take_add_one,h];rfl
 rw [e,jX,List.length_take,Nat.min_eq_left (by omega)]
theorem sm_places (rows:List Nat) (s:Nat) (h:s < 2 ^ rows.length) (w:Nat) (hw:rows.length≤w):(pl w s).foldl (fun a p=>a^^^rows.getD p 0) 0=sm rows s:=by
 rw [pl_up h hw]
 have key:∀ k,k≤rows.length→(pl k s).foldl (fun a p=>a^^^rows.getD p 0) 0=sm (rows.take k) s:=by
  intro k
  induction k with
  | zero=>intro _;rfl
  | succ k ih=>
    intro hk
    have hg:rows[k]? =some (rows.getD k 0):=by rw [List.getD_eq_getElem?_getD,List.getElem?_eq_getElem (by omega)];rfl
    have en:pl (k + 1) s=pl k s++(if s.testBit k then [k] else []):=by
     unfold pl
     rw [List.range_succ,List.filter_append]
     congr 1
     cases hb:s.testBit k<;>simp [hb]
    rw [en,List.foldl_append,ih (by omega),LD s hg]
    cases s.testBit k<;>simp
 have:=key rows.length (Nat.le_refl _)
 rwa [List.take_length] at this
end M
namespace Sx
open PySem L2
structure MaG (m:Nat) (nx os:List Pr3):Prop where
 m6:m≤6
 ln:nx.length≤120
 lo:os.length≤6
 bn:∀ q∈nx++os,q.2.1 < 2 ^ nx.length∧q.2.2 < 2 ^ m
theorem Tab.g {H:Hp} {n o:Addr} {m:Nat} {nx os:List Pr3} (t:Tab H n o m nx os):MaG m nx os:=⟨t.m6,t.ln,t.lo,t.bn⟩
theorem Tab.same {H H2:Hp} {n o:Addr} {m:Nat} {nx os:List Pr3} (t:Tab H n o m nx os) (s:Same H H2):Tab H2 n o m nx os:=⟨t.m6,s.get t.n,s.get t.o,t.pn.same s,t.po.same s,t.ln,t.lo,t.bn⟩
noncomputable abbrev prs (nx:List Pr3):List (Nat×Nat):=nx.map (·.2)
theorem bo (nx:List Pr3):(prs nx).length=nx.length:=List.length_map ..
theorem L9 {nx:List Pr3} {i:Nat} {q:Pr3} (h:nx[i]? =some q):(prs nx)[i]? =some q.2:=by rw [List.getElem?_map,h];rfl
theorem cb (nx:List Pr3):(refs nx).length=nx.length:=List.length_map ..
theorem eg {x n:Nat} (h:x < 2 ^ n) (hn:n≤1000):x < 2 ^ 1000:=Nat.lt_of_lt_of_le h (Nat.pow_le_pow_right (by decide) hn)
theorem MaG.b1 {m:Nat} {nx os:List Pr3} (g:MaG m nx os):∀ q∈nx,q.2.1 < 2 ^ 1000∧q.2.2 < 2 ^ 1000:=fun q h=>have:=g.ln;have:=g.m6;have b:=g.bn q (List.mem_append_left _ h);⟨eg b.1 (by omega),eg b.2 (by omega)⟩
theorem MaG.b2 {m:Nat} {nx os:List Pr3} (g:MaG m nx os):∀ q∈os,q.2.1 < 2 ^ 1000∧q.2.2 < 2 ^ 1000:=fun q h=>have:=g.ln;have:=g.m6;have b:=g.bn q (List.mem_append_right _ h);⟨eg b.1 (by omega),eg b.2 (by omega)⟩
theorem L7 {H H2:Hp} {a:Addr} {u:HO} (h:Rd H a u) (s:Same H H2):Rd H2 a u:=h.imp (s _ _) fun ⟨o,e⟩=>⟨o,s _ _ e⟩
theorem Hl {K:PySem.W.Frag} {H H2:Hp} {x:V} {k:String} (h:gZ K H x k) (s:Same H H2):gZ K H2 x k:=by
 cases x with
 | ref p=>exact Or.imp (fun ⟨a,xs,e⟩=>⟨a,xs,Same.seq s e⟩) (Or.imp (fun ⟨a,xs,e⟩=>⟨a,xs,Same.tup s e⟩) fun ⟨a,xs,e⟩=>⟨a,xs,L7 e s⟩) h
 | _=>exact h
noncomputable def IK (K:PySem.W.Frag) (H:Hp) (xs:List V):Prop:=∀ x∈xs,∃ k,gZ K H x k
theorem IK.nats (K:PySem.W.Frag) (H:Hp) (rs:List Nat):IK K H (rs.map nat):=fun x hx=>by
 obtain ⟨r,_,rfl⟩:=List.mem_map.mp hx
 exact ⟨"int",rfl⟩
theorem gG {x:V} {n:Nat} (h:gi x (n:Int)=true):∃ a:Nat,x=nat a∧a < 2 ^ n:=by
 cases x with
 | int i=>
   have h:(decide ((0:Int)≤i)&&decide (((Builtin.Int.intBits i:Nat):Int)≤(n:Int)))=true:=h
   simp only [Bool.and_eq_true,decide_eq_true_eq] at h
   obtain ⟨a,rfl⟩:=Int.eq_ofNat_of_zero_le h.1
   exact ⟨a,rfl,Nat.lt_of_lt_of_le (Cb a) (Nat.pow_le_pow_right (by decide) (by omega))⟩
 | _=>cases h
noncomputable def idxB (x:V) (m:Nat):Bool:=match x with
 | .int i=>decide (0≤i)&&decide (i < (m:Int))
 | _=>false
theorem FY (x y:Bool):(!decide (V.bl (!x)=V.bl (!y)))=(x^^y):=by cases x<;>cases y<;>rfl
theorem Jd {ps:List Pr3} {i:Nat} {q:Pr3} (x y:Nat) (h:ps[i]? =some q):M.tr2 (prs (ps.take (i + 1))) x y=M.tr2 (prs (ps.take i)) x y^^^(if (M.od (q.2.1&&&x)^^M.od (q.2.2&&&y)) then 2 ^ i else 0):=by
 have hl:(prs (ps.take i)).length=i:=by rw [bo];exact Cw h
 rw [take_succ h]
 unfold prs at hl ⊢
 rw [List.map_append,List.map_singleton,M.tr2_snoc,hl]
theorem Ge {ps:List Pr3} {i:Nat} {q:Pr3} (x y:Nat) (h:ps[i]? =some q):M.tr2 (prs (ps.take (i + 1))) x y=M.tr2 (prs (ps.take i)) x y + (if (M.od (q.2.1&&&x)^^M.od (q.2.2&&&y)) then 2 ^ i else 0):=by
 have:=M.tr2_step x y (L9 h)
 rw [show (prs ps).take (i + 1)=prs (ps.take (i + 1)) from List.map_take.symm,show (prs ps).take i=prs (ps.take i) from List.map_take.symm] at this
 exact this
theorem yE (xs:List V) (y:Nat) (hy:y≤xs.length):cutV xs none (some (y:Int))=xs.take y:=by
 unfold cutV
 rw [HT.sIx_nat,HT.sIx_none,Nat.min_eq_left hy,Nat.sub_zero,List.drop_zero]
theorem cJ {a b:Nat} (h:nat a=nat b):a=b:=by
 have h:(a:Int)=(b:Int):=V.int.inj h
 omega
noncomputable def Jp:Sp:=fun vs H Q _=>∃ (t:Addr) (a b x r:Nat),vs=[.ref t,nat x,nat r]∧H t=some (.tup [nat a,nat b])∧a < 2 ^ 1000∧b < 2 ^ 1000∧Q (.bl (M.od (a&&&x)^^M.od (b&&&r))) H
noncomputable def Lx (K:PySem.W.Frag):Sp:=fun vs H Q _=>∃ (r:Addr) (ps:List Pr3) (x y:Nat),vs=[.ref r,nat x,nat y]∧SqT K H r (refs ps)∧Prt H ps∧ps.length≤1000∧(∀ q∈ps,q.2.1 < 2 ^ 1000∧q.2.2 < 2 ^ 1000)∧∀ H2,Same H H2→Q (nat (M.tr2 (prs ps) x y)) H2
noncomputable def NA (K:PySem.W.Frag) (C B:Addr):Sp:=fun vs H Q E=>∃ (p:Addr) (m:Nat) (nx os:List Pr3) (x:V) (k:String),vs=[.ref p,x]∧MaA H C p m nx os∧gZ K H x k∧(gi x nx.length=true→Q .non H)∧(gi x nx.length=false→E (.ref B) none H)
noncomputable def Ji (K:PySem.W.Frag) (C B:Addr):Sp:=fun vs H Q E=>∃ (p:Addr) (m:Nat) (nx os:List Pr3) (x y:V) (kx ky:String),vs=[.ref p,x,y]∧MaA H C p m nx os∧MaG m nx os∧gZ K H x kx∧gZ K H y ky∧
 (∀ a b:Nat,x=nat a→y=nat b→a < 2 ^ nx.length→b < 2 ^ m→∀ (t:Addr) (H2:Hp),Same H H2→H2 t=some (.tup [nat (M.tr2 (prs os) a b),nat (M.tr2 (prs nx) a b)])→Q (.ref t) H2)∧
 (gi x nx.length=false∨gi y m=false→E (.ref B) none H)
structure Pb (K:PySem.W.Frag) (H:Hp) (C p rr:Addr) (m:Nat) (nx os:List Pr3) (x:V) (xs:List V):Prop where
 ma:MaA H C p m nx os
 g:MaG m nx os
 kx:∃ k,gZ K H x k
 sq:SqL K H rr xs
 ks:IK K H xs
 ln:xs.length≤1000
noncomputable def Good (m:Nat) (nx:List Pr3) (x:V) (xs:List V) (a:Nat) (rs:List Nat):Prop:=x=nat a∧xs=rs.map nat∧a < 2 ^ nx.length∧∀ r∈rs,r < 2 ^ m
noncomputable def Bad (m:Nat) (nx:List Pr3) (x:V) (xs:List V):Prop:=gi x nx.length=false∨∃ y∈xs,gi y m=false
noncomputable def Jf (K:PySem.W.Frag) (C B:Addr):Sp:=fun vs H Q E=>∃ (p rr:Addr) (m:Nat) (nx os:List Pr3) (x:V) (xs:List V),vs=[.ref p,.ref rr,x]∧Pb K H C p rr m nx os x xs∧
 (∀ a rs,Good m nx x xs a rs→∀ (t D:Addr) (H2:Hp),H D=none→Same H H2→H2 t=some (.tup [.ref D,nat (M.wst (prs nx) a rs)])→H2 D=some (.lst ((M.wan (prs nx) (prs os) a rs).map nat))→Q (.ref t) H2)∧
 (Bad m nx x xs→∀ H2,Same H H2→E (.ref B) none H2)
noncomputable def Js (K:PySem.W.Frag) (C B:Addr):Sp:=fun vs H Q E=>∃ (p rr:Addr) (m:Nat) (nx os:List Pr3) (x:V) (xs:List V),vs=[.ref p,.ref rr,x]∧Pb K H C p rr m nx os x xs∧
 (∀ a rs,Good m nx x xs a rs→∀ H2:Hp,Same H H2→Q (nat (M.wst (prs nx) a rs)) H2)∧
 (Bad m nx x xs→∀ H2,Same H H2→E (.ref B) none H2)
noncomputable def Jj (K:PySem.W.Frag) (C B:Addr):Sp:=fun vs H Q E=>∃ (p:Addr) (m:Nat) (nx os:List Pr3) (x:V) (k:String),vs=[.ref p,x]∧MaA H C p m nx os∧MaG m nx os∧gZ K H x k∧
 (∀ a,x=nat a→a < 2 ^ nx.length→∀ (t:Addr) (H2:Hp),Same H H2→H2 t=some (.tup [nat (M.sm (nx.map fun q=>q.2.1) a),nat (M.sm (nx.map fun q=>q.2.2) a)])→Q (.ref t) H2)∧
 (gi x nx.length=false→E (.ref B) none H)
structure TabT (H:Hp) (t n o:Addr) (m:Nat) (nx os:List Pr3):Prop where
 t:H t=some (.tup [nat m,.ref n,.ref o])
 tab:Tab H n o m nx os
theorem TabT.same {H H2:Hp} {t n o:Addr} {m:Nat} {nx os:List Pr3} (x:TabT H t n o m nx os) (s:Same H H2):TabT H2 t n o m nx os:=⟨s.get x.t,x.tab.same s⟩
noncomputable def Gv:Sp:=fun vs H Q _=>∃ (c:Int) (st n w:Nat) (dg:Bool),vs=[.int c,nat st,nat n,nat w,.bl dg]∧st≤900∧n≤64∧w≤16∧
 ∀ (D:Addr) (H2:Hp) (ms:List Nat),H D=none→Same H H2→H2 D=some (.lst (ms.map nat))→ms.length=n→(∀ x∈ms,x < 2 ^ w)→Q (.ref D) H2
noncomputable def Jk:Sp:=fun vs H Q _=>∃ (r:Addr) (ms:List Nat) (c:Int) (st wy w:Nat),vs=[.ref r,.int c,nat st,nat wy]∧H r=some (.lst (ms.map nat))∧st≤900∧w≤16∧ms.length≤w∧(∀ x∈ms,x < 2 ^ w)∧
 ∀ (D:Addr) (H2:Hp) (ms2:List Nat),H D=none→Same H H2→H2 D=some (.lst (ms2.map nat))→ms2.length=ms.length→(∀ x∈ms2,x < 2 ^ w)→Q (.ref D) H2
noncomputable def Jm (K:PySem.W.Frag):Sp:=fun vs H Q _=>∃ (p:Addr) (ns:List Int) (st mo:Nat),vs=[.ref p,nat st,nat mo]∧SqL K H p (ns.map V.int)∧st≤900∧mo≤16∧
 ∀ (t n o:Addr) (H2:Hp) (m:Nat) (nx os:List Pr3),Same H H2→H n=none→H o=none→TabT H2 t n o m nx os→nx.length≤16→Q (.ref t) H2
theorem OZ (x y:Bool):(((M.bn x:Nat):Int) + ((M.bn y:Nat):Int)) % 2=((M.bn (x^^y):Nat):Int):=by cases x<;>cases y<;>rfl
theorem OY (b:Bool) (i:Nat):((M.bn b:Nat):Int) * 2 ^ ((i:Int).toNat)=((if b=true then 2 ^ i else 0:Nat):Int):=by
 cases b
 ·rw [if_neg Bool.false_ne_true];exact Int.zero_mul _
 ·rw [if_pos rfl];exact shl1 i
theorem kW {H H2:Hp} {D:Addr} (s:Same H H2) (f:H2 D=none):H D=none:=by
 cases hx:H D with
 | none=>rfl
 | some v=>have:=s _ _ hx;rw [f] at this;cases this
theorem FR {H:Hp} {ps:List Addr} {m1 m2:List Nat} (l:m1.length=m2.length) (lp:ps.length=(m1.map nat).length) (h:∀ (j:Nat) (p:Addr) (x y:V),ps[j]? =some p→(m1.map nat)[j]? =some x→(m2.map nat)[j]? =some y→H p=some (.tup [x,y])):
  ∃ nx:List Pr3,refs nx=ps.map V.ref∧Prt H nx∧nx.length=m1.length∧∀ q∈nx,q.2.1∈m1∧q.2.2∈m2:=by
 rw [List.length_map] at lp
 refine ⟨ps.zip (m1.zip m2),?_,fun q hq=>?_,?_,fun q hq=>?_⟩
 ·unfold refs
  have:(ps.zip (m1.zip m2)).map (fun q=>V.ref q.1)=((ps.zip (m1.zip m2)).map Prod.fst).map V.ref:=by rw [List.map_map];rfl
  rw [this,List.map_fst_zip (by rw [List.length_zip];omega)]
 ·obtain ⟨j,hj⟩:=List.mem_iff_getElem?.mp hq
  obtain ⟨h1,h2⟩:=List.getElem?_zip_eq_some.mp hj
  obtain ⟨h3,h4⟩:=List.getElem?_zip_eq_some.mp h2
  exact h j q.1 _ _ h1 (by rw [List.getElem?_map,h3];rfl) (by rw [List.getElem?_map,h4];rfl)
 ·rw [List.length_zip,List.length_zip];omega
 ·obtain ⟨j,hj⟩:=List.mem_iff_getElem?.mp hq
  obtain ⟨h1,h2⟩:=List.getElem?_zip_eq_some.mp hj
  obtain ⟨h3,h4⟩:=List.getElem?_zip_eq_some.mp h2
  exact ⟨List.mem_of_getElem? h3,List.mem_of_getElem? h4⟩
theorem LK (m k:Nat):(m:Int) / 2 ^ ((k:Int).toNat)=((m>>>k:Nat):Int):=by rw [Int.toNat_natCast,xM,Nat.shiftRight_eq_div_pow];norm_cast
theorem CW {i:Int} {m:Nat} (h:i < 0∨(m:Int)≤i):idxB (.int i) m=false:=by
 show (decide ((0:Int)≤i)&&decide (i < (m:Int)))=false
 rcases h with h | h
 ·rw [decide_eq_false (show ¬ (0:Int)≤i by omega)];rfl
 ·rw [decide_eq_false (show ¬ i < (m:Int) by omega),Bool.and_false]
theorem HD {m:Nat} {nx:List Pr3} {a a':Nat} {rs rs':List Nat} (g:Good m nx (nat a) (rs.map nat) a' rs'):a=a'∧rs=rs':=by
 obtain ⟨h1,h2,_,_⟩:=g
 refine ⟨cJ h1,?_⟩
 have h:∀ (l l':List Nat),l.map nat=l'.map nat→l=l':=by
  intro l
  induction l with
  | nil=>intro l' h;cases l' with | nil=>rfl | cons _ _=>cases h
  | cons x l ih=>
    intro l' h
    cases l' with
    | nil=>cases h
    | cons y l'=>
      rw [List.map_cons,List.map_cons] at h
      obtain ⟨h1,h2⟩:=List.cons.inj h
      rw [ih _ h2,cJ h1]
 exact h rs rs' h2
theorem Mn {m:Nat} {nx:List Pr3} {a:Nat} {rs:List Nat} (ha:a < 2 ^ nx.length) (hr:∀ r∈rs,r < 2 ^ m) (b:Bad m nx (nat a) (rs.map nat)):False:=by
 rcases b with h | ⟨y,hy,h⟩
 ·rw [bG ha] at h;cases h
 ·obtain ⟨r,hr',rfl⟩:=List.mem_map.mp hy
  rw [bG (hr r hr')] at h;cases h
end Sx
namespace M
noncomputable def pkw (w:Nat):List Nat→Nat
 | []=>0
 | p::ps=>p^^^(pkw w ps <<< w)
noncomputable def bkI (A:List Nat) (s:Nat):Nat→Nat
 | 0=>s
 | i + 1=>sm A (bkI A s i)
theorem Iq (A:List Nat) (s:Nat):∀ i,bkI A (sm A s) i=bkI A s (i + 1)
 | 0=>rfl
 | i + 1=>congrArg (sm A) (Iq A s i)
theorem F3 (ps:List (Nat×Nat)):∀ (rs qs:List Nat) (x y:Nat),rs.length=qs.length→wst ps (x^^^y) (List.zipWith (·^^^·) rs qs)=wst ps x rs^^^wst ps y qs
 | [],[],_,_,_=>rfl
 | r::rs,q::qs,x,y,h=>by
   show wst ps (tr2 ps (x^^^y) (r^^^q)) (List.zipWith (·^^^·) rs qs)=wst ps (tr2 ps x r) rs^^^wst ps (tr2 ps y q) qs
   rw [tr2_add,F3 ps rs qs _ _ (by simpa using h)]
end M
namespace Sx
open PySem L2
noncomputable abbrev nA (nx:List Pr3):List Nat:=nx.map fun q=>q.2.1
noncomputable abbrev nB (nx:List Pr3):List Nat:=nx.map fun q=>q.2.2
theorem Og (nx:List Pr3):(prs nx).map (·.1)=nA nx:=by rw [List.map_map];rfl
theorem Of (nx:List Pr3):(prs nx).map (·.2)=nB nx:=by rw [List.map_map];rfl
noncomputable def Jl:Sp:=fun vs H Q _=>∃ n:Nat,vs=[nat n]∧n < 2 ^ 1000∧Q (nat (M.bn (M.od n))) H
noncomputable def Jn (K:PySem.W.Frag):Sp:=fun vs H Q _=>∃ (r:Addr) (ps:List Pr3) (x y:Nat),vs=[.ref r,nat x,nat y]∧SqL K H r (refs ps)∧Prt H ps∧ps.length≤120∧x < 2 ^ 1000∧y < 2 ^ 1000∧∀ H2,Same H H2→Q (nat (M.tr2 (prs ps) x y)) H2
theorem Mj {n:Nat} (h:n < 2 ^ 1000):M.od n=(n.testBit 0^^M.od (n / 2)):=by
 show M.pb 1000 n=_
 rw [show 1000=999 + 1 from rfl,M.pb_half]
 congr 1
 exact (M.pb_up (show n / 2 < 2 ^ 999 by rw [Nat.div_lt_iff_lt_mul (by decide)];rw [← Nat.pow_succ];exact h) (by decide)).symm
end Sx
namespace M
noncomputable def stj (ps:List (Nat×Nat)):List Nat→Nat→List Nat
 | S,0=>S
 | S,j + 1=>(stj ps S j).map fun x=>tr2 ps x 0
noncomputable def sg0 (ps:List (Nat×Nat)) (m:Nat):List Nat:=(List.range m).map fun w=>tr2 ps 0 (2 ^ w)
noncomputable def rch (ps:List (Nat×Nat)) (m:Nat):Nat→List Nat
 | 0=>[]
 | T + 1=>stj ps (sg0 ps m) T++rch ps m T
theorem stj_len (ps:List (Nat×Nat)) (S:List Nat):∀ j,(stj ps S j).length=S.length
 | 0=>rfl
 | j + 1=>by show ((stj ps S j).map _).length=_;rw [List.length_map,stj_len ps S j]
theorem sg0_len (ps:List (Nat×Nat)) (m:Nat):(sg0 ps m).length=m:=by unfold sg0;rw [List.length_map,List.length_range]
theorem rch_len (ps:List (Nat×Nat)) (m:Nat):∀ T,(rch ps m T).length=T * m
 | 0=>by show 0=0 * m;rw [Nat.zero_mul]
 | T + 1=>by show (stj ps (sg0 ps m) T++rch ps m T).length=_;rw [List.length_append,stj_len,sg0_len,rch_len ps m T,Nat.add_mul,Nat.one_mul,Nat.add_comm]
theorem stj_lt (ps:List (Nat×Nat)) (m:Nat):∀ j,∀ x∈stj ps (sg0 ps m) j,x < 2 ^ ps.length
 | 0,x,h=>by obtain ⟨w,_,rfl⟩:=List.mem_map.mp h;exact tr2_lt _ _ _
 | j + 1,x,h=>by obtain ⟨y,_,rfl⟩:=List.mem_map.mp h;exact tr2_lt _ _ _
theorem rch_lt (ps:List (Nat×Nat)) (m:Nat):∀ T,∀ x∈rch ps m T,x < 2 ^ ps.length
 | 0,x,h=>absurd h (by simp [rch])
 | T + 1,x,h=>(List.mem_append.mp h).elim (stj_lt ps m T x) (rch_lt ps m T x)
theorem Cu (ps:List (Nat×Nat)):∀ (rows:List Nat) (F:Nat),tr2 ps (sm rows F) 0=sm (rows.map fun x=>tr2 ps x 0) F
 | [],F=>nr ps
 | r::rows,F=>by
   show tr2 ps ((if F.testBit 0 then r else 0)^^^sm rows (F / 2)) 0=(if F.testBit 0 then tr2 ps r 0 else 0)^^^sm (rows.map fun x=>tr2 ps x 0) (F / 2)
   have e:=tr2_add ps (if F.testBit 0 then r else 0) (sm rows (F / 2)) 0 0
   rw [Nat.xor_self] at e
   rw [e,Cu ps rows]
   cases F.testBit 0<;>simp [nr]
theorem A5 (ps:List (Nat×Nat)) (r:Nat):∀ m,r < 2 ^ m→tr2 ps 0 r=sm (sg0 ps m) r
 | 0,h=>by have:r=0:=by have:r < 1:=h;omega
           rw [this,nr];rfl
 | m + 1,h=>by
   have es:sg0 ps (m + 1)=sg0 ps m++[tr2 ps 0 (2 ^ m)]:=by unfold sg0;rw [List.range_succ,List.map_append];rfl
   rw [es,jX,sg0_len]
   by_cases hb:r.testBit m=true
   ·have hlt:r^^^2 ^ m < 2 ^ m:=by
     apply Nat.lt_pow_two_of_testBit
     intro i hi
     rw [Nat.testBit_xor,Nat.testBit_two_pow]
     by_cases e:m=i
     ·subst e;rw [hb];simp
     ·rw [Nat.testBit_lt_two_pow (Nat.lt_of_lt_of_le h (Nat.pow_le_pow_right (by decide) (by omega)))];simp [e]
    have ih:=A5 ps (r^^^2 ^ m) m hlt
    have e1:sm (sg0 ps m) r=sm (sg0 ps m) (r^^^2 ^ m):=by
     have:sm (sg0 ps m) (2 ^ m)=0:=by
      have h1:=jX (sg0 ps m) 0 (2 ^ m)
      have h2:=KM (sg0 ps m) 0
      rw [sg0_len] at h2
      rw [h2] at h1
      simpa using h1.symm
     rw [sm_xor,this,Nat.xor_zero]
    rw [if_pos hb,e1,← ih]
    have e2:=tr2_add ps 0 0 (r^^^2 ^ m) (2 ^ m)
    rw [Nat.xor_self,bP] at e2
    exact e2
   ·have hlt:r < 2 ^ m:=by
     apply Nat.lt_pow_two_of_testBit
     intro i hi
     by_cases e:i=m
     ·subst e;simpa using hb
     ·exact Nat.testBit_lt_two_pow (Nat.lt_of_lt_of_le h (Nat.pow_le_pow_right (by decide) (by omega)))
    rw [if_neg hb,Nat.xor_zero,A5 ps r m hlt]
theorem KN:∀ (as bs:List Nat) (s:Nat),sm (as++bs) s=sm as s^^^sm bs (s>>>as.length)
 | [],bs,s=>by show sm bs s=0^^^sm bs (s>>>0);rw [Nat.zero_xor,Nat.shiftRight_zero]
 | a::as,bs,s=>by
   show (if s.testBit 0 then a else 0)^^^sm (as++bs) (s / 2)=(if s.testBit 0 then a else 0)^^^sm as (s / 2)^^^sm bs (s>>>(as.length + 1))
   rw [KN as bs (s / 2),Nat.xor_assoc,Nat.shiftRight_succ_inside]
theorem GB:∀ (as:List Nat) (P:Nat),sm as (P <<< as.length)=0
 | [],_=>rfl
 | a::as,P=>by
   show (if (P <<< (as.length + 1)).testBit 0 then a else 0)^^^sm as ((P <<< (as.length + 1)) / 2)=0
   have e1:(P <<< (as.length + 1)).testBit 0=false:=by rw [Nat.testBit_shiftLeft];simp
   have e2:(P <<< (as.length + 1)) / 2=P <<< as.length:=by rw [Nat.shiftLeft_succ];omega
   rw [e1,e2,GB as P];simp
theorem Ec {w r P:Nat} (h:r < 2 ^ w):(r^^^(P <<< w))>>>w=P:=by
 apply Nat.eq_of_testBit_eq;intro i
 rw [Nat.testBit_shiftRight,Nat.testBit_xor,Nat.testBit_shiftLeft,Nat.testBit_lt_two_pow (Nat.lt_of_lt_of_le h (Nat.pow_le_pow_right (by decide) (by omega)))]
 simp
noncomputable def zs (ps:List (Nat×Nat)) (x:Nat):Nat→Nat
 | 0=>x
 | n + 1=>tr2 ps (zs ps x n) 0
theorem wst_zs (ps:List (Nat×Nat)) (x:Nat):∀ n,wst ps x (List.replicate n 0)=zs ps x n
 | 0=>rfl
 | n + 1=>by rw [List.replicate_succ',wst_snoc,wst_zs ps x n];rfl
theorem KJ (ps:List (Nat×Nat)) (S:List Nat) (F:Nat):∀ n,sm (stj ps S n) F=zs ps (sm S F) n
 | 0=>rfl
 | n + 1=>by show sm ((stj ps S n).map fun x=>tr2 ps x 0) F=tr2 ps (zs ps (sm S F) n) 0;rw [← Cu,KJ ps S F n]
theorem sS (ps:List (Nat×Nat)) (x:Nat) (rs:List Nat):wst ps x rs=zs ps x rs.length^^^wst ps 0 rs:=by
 have e:=F3 ps (List.replicate rs.length 0) rs x 0 (by rw [List.length_replicate])
 have ez:List.zipWith (·^^^·) (List.replicate rs.length 0) rs=rs:=by
  apply List.ext_getElem
  ·rw [List.length_zipWith,List.length_replicate,Nat.min_self]
  ·intro i h1 h2
   rw [List.getElem_zipWith,List.getElem_replicate,Nat.zero_xor]
 rw [ez,Nat.xor_zero,wst_zs] at e
 exact e
theorem xI (ps:List (Nat×Nat)) (m:Nat):∀ rs:List Nat,(∀ r∈rs,r < 2 ^ m)→wst ps 0 rs=sm (rch ps m rs.length) (pkw m rs)
 | [],_=>rfl
 | r::rs,h=>by
   have ih:=xI ps m rs fun x hx=>h x (List.mem_cons_of_mem _ hx)
   have hr:=h r (List.mem_cons_self ..)
   show wst ps (tr2 ps 0 r) rs=sm (stj ps (sg0 ps m) rs.length++rch ps m rs.length) (r^^^(pkw m rs <<< m))
   have hl:(stj ps (sg0 ps m) rs.length).length=m:=by rw [stj_len,sg0_len]
   rw [sS,ih,KN,hl,Ec hr,sm_xor]
   have e0:=GB (stj ps (sg0 ps m) rs.length) (pkw m rs)
   rw [hl] at e0
   rw [e0,Nat.xor_zero,KJ,← A5 ps r m hr]
noncomputable def upk (w q T:Nat):List Nat:=(List.range T).map fun t=>(q>>>(t * w))&&&(2 ^ w - 1)
theorem upk_len (w q T:Nat):(upk w q T).length=T:=by unfold upk;rw [List.length_map,List.length_range]
theorem KB (w q T:Nat):∀ r∈upk w q T,r < 2 ^ w:=fun r hr=>by
 obtain ⟨t,_,rfl⟩:=List.mem_map.mp hr
 have:=Nat.two_pow_pos w
 exact Nat.lt_of_le_of_lt Nat.and_le_right (by omega)
theorem Jb (w q T:Nat):upk w q (T + 1)=(q&&&(2 ^ w - 1))::upk w (q>>>w) T:=by
 unfold upk
 rw [List.range_succ_eq_map,List.map_cons,List.map_map,Nat.zero_mul,Nat.shiftRight_zero]
 congr 1
 apply List.map_congr_left
 intro t _
 show (q>>>((t + 1) * w))&&&_=(q>>>w>>>(t * w))&&&_
 rw [← Nat.shiftRight_add,Nat.add_mul,Nat.one_mul,Nat.add_comm]
theorem GQ (w:Nat):∀ (T q:Nat),q < 2 ^ (T * w)→pkw w (upk w q T)=q
 | 0,q,h=>by rw [Nat.zero_mul] at h;have:q=0:=by have:q < 1:=h;omega
             rw [this];rfl
 | T + 1,q,h=>by
   rw [Jb]
   show (q&&&(2 ^ w - 1))^^^(pkw w (upk w (q>>>w) T) <<< w)=q
   rw [GQ w T (q>>>w) (by rw [Nat.shiftRight_eq_div_pow,Nat.div_lt_iff_lt_mul (Nat.two_pow_pos _),← Nat.pow_add];rw [Nat.add_mul,Nat.one_mul] at h;exact h)]
   apply Nat.eq_of_testBit_eq;intro i
   rw [Nat.testBit_xor,Nat.testBit_and,Nat.testBit_shiftLeft,Nat.testBit_shiftRight,Nat.testBit_two_pow_sub_one]
   by_cases hi:i < w
   ·simp [hi,show ¬ w≤i by omega]
   ·simp [hi,show w≤i by omega,show w + (i - w)=i by omega]
theorem Ow (ps:List (Nat×Nat)) (hl:ps.length≤1000) (y:Nat):∀ (j s:Nat),od (s&&&zs ps y j)=od (bkI (ps.map (·.1)) s j&&&y)
 | 0,_=>rfl
 | j + 1,s=>by
   show od (s&&&tr2 ps (zs ps y j) 0)=_
   rw [Br s _ 0 ps hl,Nat.and_zero,od_zero,Bool.xor_false,Ow ps hl y j,Iq]
theorem Ox (ps:List (Nat×Nat)) (hl:ps.length≤1000) (s w:Nat) (hw:w < 1000):od (s&&&tr2 ps 0 (2 ^ w))=(sm (ps.map (·.2)) s).testBit w:=by
 rw [Br s 0 _ ps hl,Nat.and_zero,od_zero,Bool.false_xor,Nat.and_comm,G0 hw]
theorem Gk (ps:List (Nat×Nat)) (m w:Nat) (hw:w < m):∀ j,zs ps (tr2 ps 0 (2 ^ w)) j∈stj ps (sg0 ps m) j
 | 0=>List.mem_map.mpr ⟨w,List.mem_range.mpr hw,rfl⟩
 | j + 1=>List.mem_map.mpr ⟨_,Gk ps m w hw j,rfl⟩
theorem GI (ps:List (Nat×Nat)) (m:Nat) {j:Nat} {x:Nat} (h:x∈stj ps (sg0 ps m) j):∀ {T},j < T→x∈rch ps m T
 | T + 1,hj=>by
   by_cases e:j=T
   ·subst e;exact List.mem_append_left _ h
   ·exact List.mem_append_right _ (GI ps m h (by omega))
theorem no_signs {ps:List (Nat×Nat)} {m s T:Nat} (hl:ps.length≤1000) (hm:m≤1000) (hB:∀ q∈ps,q.2 < 2 ^ m) (h:∀ x∈rch ps m T,od (s&&&x)=false):∀ j,j < T→sm (ps.map (·.2)) (bkI (ps.map (·.1)) s j)=0:=by
 intro j hj
 apply Nat.eq_of_testBit_eq;intro w
 rw [Nat.zero_testBit]
 by_cases hw:w < m
 ·have:=h _ (GI ps m (Gk ps m w hw j) hj)
  rw [Ow ps hl,Ox ps hl _ w (by omega)] at this
  exact this
 ·have hlt:=LG (ws:=ps.map (·.2)) (t:=m) (bkI (ps.map (·.1)) s j) fun x hx=>by obtain ⟨q,hq,rfl⟩:=List.mem_map.mp hx;exact hB q hq
  exact Nat.testBit_lt_two_pow (Nat.lt_of_lt_of_le hlt (Nat.pow_le_pow_right (by decide) (by omega)))
end M
namespace Sx
open PySem L2
structure Sumd (rows:List Nat) (x q:Nat):Prop where
 lt:q < 2 ^ rows.length
 sm:M.sm rows q=x
 fr:M.Frs rows q
structure Bard (rows:List Nat) (x m:Nat):Prop where
 ns:¬ M.Span rows x
 bar:∃ y,M.Span rows y∧x^^^y≠0∧O6 rows (x^^^y).log2∧M.Bar rows (x^^^y).log2 m
 ev:∀ y,M.Span rows y→M.od (m&&&y)=false
 odd:M.od (m&&&x)=true
 lt:∀ W,(∀ r∈rows,r < 2 ^ W)→x < 2 ^ W→m < 2 ^ W
noncomputable def wz:Sp:=fun vs H Q _=>∃ (r:Addr) (rows:List Nat) (x:Nat),vs=[.ref r,nat x]∧H r=some (.lst (rows.map nat))∧rows.length≤1000∧(∀ r∈rows,r < 2 ^ 1000)∧x < 2 ^ 1000∧(M.Span rows x∨(M.fr rows).length < 64)∧
 (∀ (t D:Addr) (H2:Hp) (q:Nat),H D=none→Same H H2→H2 t=some (.tup [.str "sum",.ref D])→H2 D=some (.lst ((M.pl 1000 q).map nat))→Sumd rows x q→Q (.ref t) H2)∧
 (∀ (t:Addr) (H2:Hp) (m:Nat),Same H H2→H2 t=some (.tup [.str "no",nat m])→Bard rows x m→Q (.ref t) H2)
noncomputable def Gp:Sp:=fun vs H Q _=>∃ (q wd T:Nat),vs=[nat q,nat wd,nat T]∧wd≤1000∧T≤1000∧∀ (D:Addr) (H2:Hp),H D=none→Same H H2→H2 D=some (.lst ((M.upk wd q T).map nat))→Q (.ref D) H2
noncomputable def Jg (C:Addr):Sp:=fun vs H Q _=>∃ (p:Addr) (m:Nat) (nx os:List Pr3) (T:Nat),vs=[.ref p,nat T]∧MaA H C p m nx os∧MaG m nx os∧T≤100∧∀ (D:Addr) (H2:Hp),H D=none→Same H H2→H2 D=some (.lst ((M.rch (prs nx) m T).map nat))→Q (.ref D) H2
noncomputable def Gr (C:Addr):Sp:=fun vs H Q _=>∃ (p D:Addr) (m:Nat) (nx os:List Pr3) (q T:Nat),vs=[.ref p,.ref D,nat T]∧MaA H C p m nx os∧MaG m nx os∧H D=some (.lst ((M.pl 1000 q).map nat))∧q < 2 ^ 1000∧T≤1000∧∀ (D2:Addr) (H2:Hp),H D2=none→Same H H2→H2 D2=some (.lst ((M.upk m q T).map nat))→Q (.ref D2) H2
noncomputable def Brt (H:Hp) (t:Addr) (m:Nat) (nx:List Pr3) (a b T:Nat):Prop:=
 (∃ (D:Addr) (q:Nat),H t=some (.tup [.str "rows",.ref D])∧H D=some (.lst ((M.upk m q T).map nat))∧Sumd (M.rch (prs nx) m T) (b^^^M.zs (prs nx) a T) q)∨
 ∃ mk:Nat,H t=some (.tup [.str "no",nat mk])∧Bard (M.rch (prs nx) m T) (b^^^M.zs (prs nx) a T) mk
noncomputable def DC (K:PySem.W.Frag) (C BM BR:Addr):Sp:=fun vs H Q E=>∃ (p:Addr) (m:Nat) (nx os:List Pr3) (x y z:V),vs=[.ref p,x,y,z]∧MaA H C p m nx os∧MaG m nx os∧nx.length≤60∧(∃ k,gZ K H x k)∧(∃ k,gZ K H y k)∧(∃ k,gZ K H z k)∧
 (∀ a b T:Nat,x=nat a→y=nat b→z=nat T→a < 2 ^ nx.length→b < 2 ^ nx.length→T≤40→∀ (t:Addr) (H2:Hp),Same H H2→(∀ D,H2 t=some (.tup [.str "rows",.ref D])→H D=none)→Brt H2 t m nx a b T→Q (.ref t) H2)∧
 (gi x nx.length=false∨gi y nx.length=false→E (.ref BM) none H)∧
 (gi x nx.length=true→gi y nx.length=true→idxB z 41=false→E (.ref BR) none H)
end Sx
namespace L2
open PySem
end L2
namespace Sx
open PySem L2
theorem Gm:∀ {rows:List Nat} {x:Nat},x∈rows→M.Span rows x:=by
 intro rows
 induction rows using M.rev_ind with
 | h0=>intro x h;exact absurd h (by simp)
 | h1 l r ih=>
   intro x h
   rw [M.span_snoc]
   rcases List.mem_append.mp h with h | h
   ·exact .inl (ih h)
   ·rw [List.mem_singleton.mp h,Nat.xor_self]
    exact .inr (M.span_zero l)
noncomputable def TupV (K:PySem.W.Frag) (H:Hp) (y:V):Option (List V)→Prop
 | some xs=>∃ r,y= .ref r∧SqT K H r xs∧IK K H xs
 | none=>∃ k,gZ K H y k∧k≠"tuple"
noncomputable def PU (n m:Nat):Option (List V)→Bool
 | some [x,y]=>gi x n&&gi y m
 | _=>false
noncomputable abbrev It2:=V×Option (List V)
noncomputable def LstV (K:PySem.W.Frag) (H:Hp) (y:V):Option (List It2)→Prop
 | some zs=>∃ r,y= .ref r∧H r=some (.lst (zs.map (·.1)))∧∀ z∈zs,TupV K H z.1 z.2
 | none=>∃ k,gZ K H y k∧k≠"list"
noncomputable def tabB (x:V) (on oo:Option (List It2)):Bool:=match x,on,oo with
 | .int i,some zs,some ws=>decide (0≤i)&&decide (i≤6)&&decide (zs.length≤120)&&decide (ws.length≤6)&&(zs++ws).all fun z=>PU zs.length i.toNat z.2
 | _,_,_=>false
end Sx
namespace L2
open PySem
end L2
namespace Sx
open PySem L2
structure BadT (K:PySem.W.Frag) (H:Hp) (x y z:V):Prop where
 ex:∃ k on oo,gZ K H x k∧LstV K H y on∧LstV K H z oo∧tabB x on oo=false
end Sx
namespace L2
open PySem
end L2
namespace Sx
open PySem L2
end Sx
namespace M
structure Fst (ms:List Nat) (p:Nat):Prop where
 lt:p < ms.length
 out:∀ k,k < p→¬ Span (ms.take k) (ms.getD k 0)
 in_:Span (ms.take p) (ms.getD p 0)
theorem K4 {ms:List Nat}:∀ j,j≤ms.length→(∀ k,k < j→¬ Span (ms.take k) (ms.getD k 0))→(fr (ms.take j)).length=j
 | 0,_,_=>by have:=fr_len (ms.take 0);simpa using this
 | j + 1,hj,h=>by
   have e:ms.take (j + 1)=ms.take j++[ms.getD j 0]:=by
    rw [List.take_succ,List.getElem?_eq_getElem (by omega),List.getD_eq_getElem?_getD,List.getElem?_eq_getElem (by omega)];rfl
   rw [e,fr_out (h j (Nat.lt_succ_self j)),List.length_append,K4 j (by omega) (fun k hk=>h k (by omega))]
   rfl
theorem chain_short {ms:List Nat} {n j:Nat} (hb:∀ x∈ms,x < 2 ^ n) (hj:j≤ms.length) (h:∀ k,k < j→¬ Span (ms.take k) (ms.getD k 0)):j≤n:=by
 rw [← K4 j hj h]
 exact rank_le fun r hr=>hb r (List.mem_of_mem_take hr)
noncomputable def zl (ps:List (Nat×Nat)) (d n:Nat):List Nat:=(List.range (n + 1)).map (zs ps d)
theorem zl_len (ps:List (Nat×Nat)) (d n:Nat):(zl ps d n).length=n + 1:=by unfold zl;rw [List.length_map,List.length_range]
theorem zl_get {ps:List (Nat×Nat)} {d n k:Nat} (h:k≤n):(zl ps d n)[k]? =some (zs ps d k):=by
 unfold zl
 rw [List.getElem?_map,List.getElem?_range (by omega)]
 rfl
theorem Lf {ps:List (Nat×Nat)} {d n k:Nat} (h:k≤n):(zl ps d n).getD k 0=zs ps d k:=by rw [List.getD_eq_getElem?_getD,zl_get h];rfl
theorem zs_lt {ps:List (Nat×Nat)} {d:Nat} (h:d < 2 ^ ps.length):∀ k,zs ps d k < 2 ^ ps.length
 | 0=>h
 | k + 1=>tr2_lt _ _ _
theorem zl_lt {ps:List (Nat×Nat)} {d n:Nat} (h:d < 2 ^ ps.length):∀ x∈zl ps d n,x < 2 ^ ps.length:=fun x hx=>by
 obtain ⟨k,_,rfl⟩:=List.mem_map.mp hx
 exact zs_lt h k
theorem LH {rows:List Nat}:∀ (rs:List Nat),(∀ x∈rs,Span rows x)→∀ F,Span rows (sm rs F)
 | [],_,_=>span_zero rows
 | r::rs,h,F=>by
   show Span rows ((if F.testBit 0 then r else 0)^^^sm rs (F / 2))
   refine span_xor ?_ (LH rs (fun x hx=>h x (List.mem_cons_of_mem _ hx)) (F / 2))
   split
   ·exact h r List.mem_cons_self
   ·exact span_zero rows
theorem Le {ps:List (Nat×Nat)} {d n p:Nat} (F:Fst (zl ps d n) p):∀ t,Span ((zl ps d n).take p) (zs ps d t):=by
 have hp:p≤n:=by have:=F.lt;rw [zl_len] at this;omega
 have hin:=F.in_
 rw [Lf hp] at hin
 have hmem:∀ k,k < p→Span ((zl ps d n).take p) (zs ps d k):=fun k hk=>CA (List.mem_of_getElem? (i:=k) (by rw [List.getElem?_take_of_lt hk];exact zl_get (by omega)))
 intro t
 induction t with
 | zero=>
   by_cases h0:p=0
   ·subst h0;exact hin
   ·exact hmem 0 (by omega)
 | succ t ih=>
   obtain ⟨G,_,hG⟩:=l8 ih
   show Span _ (tr2 ps (zs ps d t) 0)
   rw [← hG,Cu]
   refine LH _ (fun x hx=>?_) G
   obtain ⟨y,hy,rfl⟩:=List.mem_map.mp hx
   obtain ⟨k,hk⟩:=List.getElem?_of_mem hy
   have hkp:k < p:=by
    have:=(List.getElem?_eq_some_iff.mp hk).1
    rw [List.length_take] at this
    omega
   rw [List.getElem?_take_of_lt hkp,zl_get (by omega)] at hk
   cases hk
   show Span _ (zs ps d (k + 1))
   by_cases h1:k + 1 < p
   ·exact hmem _ h1
   ·have:k + 1=p:=by omega
    rw [this];exact hin
theorem xw:∀ (rs:List Nat) (F:Nat),(∀ x∈rs,x=0)→sm rs F=0
 | [],_,_=>rfl
 | r::rs,F,h=>by
   show (if F.testBit 0 then r else 0)^^^sm rs (F / 2)=0
   rw [xw rs (F / 2) fun x hx=>h x (List.mem_cons_of_mem _ hx),h r List.mem_cons_self]
   simp
theorem zs_quiet {ps os:List (Nat×Nat)} {d n p:Nat} (F:Fst (zl ps d n) p) (h:∀ k,k < p→tr2 os (zs ps d k) 0=0) (t:Nat):tr2 os (zs ps d t) 0=0:=by
 obtain ⟨G,_,hG⟩:=l8 (Le F t)
 rw [← hG,Cu]
 refine xw _ _ fun x hx=>?_
 obtain ⟨y,hy,rfl⟩:=List.mem_map.mp hx
 obtain ⟨k,hk⟩:=List.getElem?_of_mem hy
 have hp:p≤n:=by have:=F.lt;rw [zl_len] at this;omega
 have hkp:k < p:=by
  have:=(List.getElem?_eq_some_iff.mp hk).1
  rw [List.length_take] at this
  omega
 rw [List.getElem?_take_of_lt hkp,zl_get (by omega)] at hk
 cases hk
 exact h k hkp
theorem FQ (ps:List (Nat×Nat)) (d:Nat):∀ i,zs ps (tr2 ps d 0) i=zs ps d (i + 1)
 | 0=>rfl
 | i + 1=>by show tr2 ps (zs ps (tr2 ps d 0) i) 0=_;rw [FQ ps d i];rfl
theorem FP (ps:List (Nat×Nat)):∀ k,zs ps 0 k=0
 | 0=>rfl
 | k + 1=>by show tr2 ps (zs ps 0 k) 0=0;rw [FP ps k,nr]
end M
namespace Sx
open PySem L2
noncomputable def FdS (H0 H:Hp) (t:Addr) (rows:List Nat) (x:Nat):Prop:=
 (∃ D q,H t=some (.tup [.str "sum",.ref D])∧H D=some (.lst ((M.pl 1000 q).map nat))∧Sumd rows x q∧H0 D=none)∨∃ m,H t=some (.tup [.str "no",nat m])∧Bard rows x m
theorem FdS.back {H0 H1 H:Hp} {t:Addr} {rows:List Nat} {x:Nat} (h:FdS H1 H t rows x) (s:Same H0 H1):FdS H0 H t rows x:=h.imp (fun ⟨D,q,a,b,c,f⟩=>⟨D,q,a,b,c,s.free f⟩) id
theorem uX {H:Hp} {Q:VK} {E:XK} {r:Addr} {rows:List Nat} {x:Nat} (hp:H r=some (.lst (rows.map nat))) (hl:rows.length≤1000) (hb:∀ r∈rows,r < 2 ^ 1000) (hx:x < 2 ^ 1000) (h64:(M.fr rows).length < 64)
  (h:∀ t H2,Same H H2→FdS H H2 t rows x→Q (.ref t) H2):wz [.ref r,nat x] H Q E:=
 ⟨r,rows,x,rfl,hp,hl,hb,hx,.inr h64,fun t D H2 q f s e e' sd=>h t H2 s (.inl ⟨D,q,e,e',sd,f⟩),fun t H2 m s e bd=>h t H2 s (.inr ⟨m,e,bd⟩)⟩
noncomputable def cps (p q k:Nat):List Nat:=if k + 1 < p then [k + 1] else M.pl 1000 q
structure ChS (H:Hp) (S:Addr) (p q:Nat) (rs:List Addr):Prop where
 at_:H S=some (.lst (rs.map V.ref))
 len:rs.length=p
 get:∀ (k:Nat) (r:Addr),rs[k]? =some r→H r=some (.lst ((cps p q k).map nat))
theorem ChS.same {H H2:Hp} {S:Addr} {p q:Nat} {rs:List Addr} (c:ChS H S p q rs) (s:Same H H2):ChS H2 S p q rs:=⟨s.get c.at_,c.len,fun k r e=>s.get (c.get k r e)⟩
structure ChT (H:Hp) (D S:Addr) (ms:List Nat) (p q:Nat):Prop where
 fs:M.Fst ms p
 sd:Sumd (ms.take p) (ms.getD p 0) q
 d:H D=some (.lst ((ms.take p).map nat))
 s:∃ rs,ChS H S p q rs
theorem ChT.same {H H2:Hp} {D S:Addr} {ms:List Nat} {p q:Nat} (c:ChT H D S ms p q) (s:Same H H2):ChT H2 D S ms p q:=⟨c.fs,c.sd,s.get c.d,let ⟨rs,h⟩:=c.s;⟨rs,h.same s⟩⟩
noncomputable def Jq:Sp:=fun vs H Q _=>∃ (r:Addr) (ms:List Nat) (n:Nat),vs=[.ref r]∧H r=some (.lst (ms.map nat))∧ms.length=n + 1∧n≤60∧(∀ x∈ms,x < 2 ^ n)∧
 ∀ (t D S:Addr) (H2:Hp) (p q:Nat),H D=none→H S=none→D≠S→Same H H2→H2 t=some (.tup [.ref D,.ref S])→ChT H2 D S ms p q→Q (.ref t) H2
theorem G7 {n x:Nat} (hn:n≤60) (h:x < 2 ^ n):x < 2 ^ 1000:=Nat.lt_of_lt_of_le h (Nat.pow_le_pow_right (by decide) (by omega))
noncomputable def Dw (C:Addr):Sp:=fun vs H Q _=>∃ (p:Addr) (m:Nat) (nx os:List Pr3) (d:Nat),vs=[.ref p,nat d]∧MaA H C p m nx os∧MaG m nx os∧d < 2 ^ nx.length∧∀ (D:Addr) (H2:Hp),H D=none→Same H H2→H2 D=some (.lst ((M.zl (prs nx) d nx.length).map nat))→Q (.ref D) H2
noncomputable def Apt (H0 H:Hp) (t:Addr) (nx os:List Pr3) (d:Nat):Prop:=
 (∃ k ans,H t=some (.tup [.str "apart",nat k,nat ans.log2])∧k < nx.length∧ans=M.tr2 (prs os) (M.zs (prs nx) d k) 0∧ans≠0∧∀ j,j < k→M.tr2 (prs os) (M.zs (prs nx) d j) 0=0)∨
 ∃ D S p q,H t=some (.tup [.str "alike",.ref D,.ref S])∧H0 D=none∧H0 S=none∧D≠S∧ChT H D S (M.zl (prs nx) d nx.length) p q∧∀ j,j < p→M.tr2 (prs os) (M.zs (prs nx) d j) 0=0
noncomputable def Jr (K:PySem.W.Frag) (C B:Addr):Sp:=fun vs H Q E=>∃ (p:Addr) (m:Nat) (nx os:List Pr3) (x y:V),vs=[.ref p,x,y]∧MaA H C p m nx os∧MaG m nx os∧nx.length≤60∧(∃ k,gZ K H x k)∧(∃ k,gZ K H y k)∧
 (∀ a b:Nat,x=nat a→y=nat b→a < 2 ^ nx.length→b < 2 ^ nx.length→∀ (t:Addr) (H2:Hp),Same H H2→Apt H H2 t nx os (a^^^b)→Q (.ref t) H2)∧
 (gi x nx.length=false∨gi y nx.length=false→E (.ref B) none H)
structure LA (K:PySem.W.Frag) (H:Hp) (t n o rr:Addr) (m:Nat) (nx os:List Pr3) (rs:List Nat) (a b:Nat):Prop where
 tt:TabT H t n o m nx os
 sq:SqL K H rr (rs.map nat)
 lr:rs.length=20
 br:∀ r∈rs,r < 2 ^ m
 ln:nx.length≤16
 ha:a < 2 ^ nx.length
 hb:b < 2 ^ nx.length
structure ApA (H:Hp) (f:Addr) (nx os:List Pr3) (d k ans:Nat):Prop where
 f:H f=some (.tup [.str "apart",nat k,nat ans.log2])
 hk:k < nx.length
 an:ans=M.tr2 (prs os) (M.zs (prs nx) d k) 0
 ne:ans≠0
 qu:∀ j,j < k→M.tr2 (prs os) (M.zs (prs nx) d j) 0=0
structure ApL (H:Hp) (f D S:Addr) (nx os:List Pr3) (d p q:Nat):Prop where
 f:H f=some (.tup [.str "alike",.ref D,.ref S])
 ct:ChT H D S (M.zl (prs nx) d nx.length) p q
 qu:∀ j,j < p→M.tr2 (prs os) (M.zs (prs nx) d j) 0=0
theorem Apt.of {H0 H:Hp} {t:Addr} {nx os:List Pr3} {d:Nat} (h:Apt H0 H t nx os d):(∃ k ans,ApA H t nx os d k ans)∨∃ D S p q,ApL H t D S nx os d p q∧H0 D=none∧H0 S=none∧D≠S:=by
 rcases h with ⟨k,ans,h1,h2,h3,h4,h5⟩ | ⟨D,S,p,q,h1,h2,h3,h4,h5,h6⟩
 ·exact .inl ⟨k,ans,h1,h2,h3,h4,h5⟩
 ·exact .inr ⟨D,S,p,q,⟨h1,h5,h6⟩,h2,h3,h4⟩
end Sx
namespace M
noncomputable def bl (A:List Nat) (s n:Nat):List Nat:=(List.range (n + 1)).map (bkI A s)
theorem bl_len (A:List Nat) (s n:Nat):(bl A s n).length=n + 1:=by unfold bl;rw [List.length_map,List.length_range]
theorem C5 {A:List Nat} {s n k:Nat} (h:k≤n):(bl A s n)[k]? =some (bkI A s k):=by
 unfold bl
 rw [List.getElem?_map,List.getElem?_range (by omega)]
 rfl
theorem MR {A:List Nat} {s n k:Nat} (h:k≤n):(bl A s n).getD k 0=bkI A s k:=by rw [List.getD_eq_getElem?_getD,C5 h];rfl
theorem bkI_lt {A:List Nat} {s w:Nat} (hA:∀ x∈A,x < 2 ^ w) (h:s < 2 ^ w):∀ k,bkI A s k < 2 ^ w
 | 0=>h
 | k + 1=>LG _ hA
theorem bl_lt {A:List Nat} {s n w:Nat} (hA:∀ x∈A,x < 2 ^ w) (h:s < 2 ^ w):∀ x∈bl A s n,x < 2 ^ w:=fun x hx=>by
 obtain ⟨k,_,rfl⟩:=List.mem_map.mp hx
 exact bkI_lt hA h k
theorem LF (A:List Nat):∀ (rows:List Nat) (F:Nat),sm A (sm rows F)=sm (rows.map (sm A)) F
 | [],_=>sm_zero A
 | r::rows,F=>by
   show sm A ((if F.testBit 0 then r else 0)^^^sm rows (F / 2))=(if F.testBit 0 then sm A r else 0)^^^sm (rows.map (sm A)) (F / 2)
   rw [sm_xor,LF A rows]
   cases F.testBit 0<;>simp [sm_zero]
theorem MS {A:List Nat} {s n p:Nat} (F:Fst (bl A s n) p):∀ t,Span ((bl A s n).take p) (bkI A s t):=by
 have hp:p≤n:=by have:=F.lt;rw [bl_len] at this;omega
 have hin:=F.in_
 rw [MR hp] at hin
 have hmem:∀ k,k < p→Span ((bl A s n).take p) (bkI A s k):=fun k hk=>CA (List.mem_of_getElem? (i:=k) (by rw [List.getElem?_take_of_lt hk];exact C5 (by omega)))
 intro t
 induction t with
 | zero=>
   by_cases h0:p=0
   ·subst h0;exact hin
   ·exact hmem 0 (by omega)
 | succ t ih=>
   obtain ⟨G,_,hG⟩:=l8 ih
   show Span _ (sm A (bkI A s t))
   rw [← hG,LF]
   refine LH _ (fun x hx=>?_) G
   obtain ⟨y,hy,rfl⟩:=List.mem_map.mp hx
   obtain ⟨k,hk⟩:=List.getElem?_of_mem hy
   have hkp:k < p:=by
    have:=(List.getElem?_eq_some_iff.mp hk).1
    rw [List.length_take] at this
    omega
   rw [List.getElem?_take_of_lt hkp,C5 (by omega)] at hk
   cases hk
   show Span _ (bkI A s (k + 1))
   by_cases h1:k + 1 < p
   ·exact hmem _ h1
   ·have:k + 1=p:=by omega
    rw [this];exact hin
theorem bk_quiet {A B:List Nat} {s n p:Nat} (F:Fst (bl A s n) p) (h:∀ k,k < p→sm B (bkI A s k)=0) (t:Nat):sm B (bkI A s t)=0:=by
 obtain ⟨G,_,hG⟩:=l8 (MS F t)
 rw [← hG,LF]
 refine xw _ _ fun x hx=>?_
 obtain ⟨y,hy,rfl⟩:=List.mem_map.mp hx
 obtain ⟨k,hk⟩:=List.getElem?_of_mem hy
 have hp:p≤n:=by have:=F.lt;rw [bl_len] at this;omega
 have hkp:k < p:=by
  have:=(List.getElem?_eq_some_iff.mp hk).1
  rw [List.length_take] at this
  omega
 rw [List.getElem?_take_of_lt hkp,C5 (by omega)] at hk
 cases hk
 exact h k hkp
theorem quiet_walk {ps:List (Nat×Nat)} (hl:ps.length≤1000):∀ (rs:List Nat) (s:Nat),(∀ t,sm (ps.map (·.2)) (bkI (ps.map (·.1)) s t)=0)→od (s&&&wst ps 0 rs)=false:=by
 intro rs
 induction rs using rev_ind with
 | h0=>intro s _;show od (s&&&0)=false;rw [Nat.and_zero,od_zero]
 | h1 rs r ih=>
   intro s h
   rw [wst_snoc,Br s _ r ps hl]
   have h0:sm (ps.map (·.2)) s=0:=h 0
   rw [h0,Nat.zero_and,od_zero,Bool.xor_false]
   exact ih _ fun t=>by rw [Iq];exact h (t + 1)
end M
namespace Sx
open PySem L2
noncomputable def Dz (C:Addr):Sp:=fun vs H Q _=>∃ (p:Addr) (m:Nat) (nx os:List Pr3) (s:Nat),vs=[.ref p,nat s]∧MaA H C p m nx os∧MaG m nx os∧s < 2 ^ nx.length∧∀ (D:Addr) (H2:Hp),H D=none→Same H H2→H2 D=some (.lst ((M.bl (nA nx) s nx.length).map nat))→Q (.ref D) H2
structure CmA (H:Hp) (t D:Addr) (m:Nat) (nx:List Pr3) (st T q mk:Nat):Prop where
 f:H t=some (.tup [.str "come",.ref D,nat mk])
 d:H D=some (.lst ((M.upk m q T).map nat))
 hT:T≤nx.length
 no:∀ j,j < T→¬ M.Span (M.rch (prs nx) m j) st
 sd:Sumd (M.rch (prs nx) m T) st q
 br:(T=0∧mk=0)∨∃ T',T=T' + 1∧Bard (M.rch (prs nx) m T') st mk
structure CmN (H:Hp) (t D S:Addr) (m:Nat) (nx:List Pr3) (st mk p q:Nat):Prop where
 f:H t=some (.tup [.str "never",.ref D,.ref S])
 no:∀ j,j≤nx.length→¬ M.Span (M.rch (prs nx) m j) st
 bd:Bard (M.rch (prs nx) m nx.length) st mk
 ct:ChT H D S (M.bl (nA nx) mk nx.length) p q
noncomputable def Cme (H0 H:Hp) (t:Addr) (m:Nat) (nx:List Pr3) (st:Nat):Prop:=
 (∃ D T q mk,CmA H t D m nx st T q mk∧H0 D=none)∨∃ D S mk p q,CmN H t D S m nx st mk p q∧H0 D=none∧H0 S=none∧D≠S
noncomputable def Gz (K:PySem.W.Frag) (C B:Addr):Sp:=fun vs H Q E=>∃ (p:Addr) (m:Nat) (nx os:List Pr3) (x:V),vs=[.ref p,x]∧MaA H C p m nx os∧MaG m nx os∧nx.length≤60∧(∃ k,gZ K H x k)∧
 (∀ st:Nat,x=nat st→st < 2 ^ nx.length→∀ (t:Addr) (H2:Hp),Same H H2→Cme H H2 t m nx st→Q (.ref t) H2)∧
 (gi x nx.length=false→E (.ref B) none H)
theorem L8 {m:Nat} {nx os:List Pr3} (hl:nx.length≤60) (T:Nat):∀ r∈M.rch (prs nx) m T,r < 2 ^ nx.length:=fun r hr=>by have:=M.rch_lt (prs nx) m T r hr;rwa [bo] at this
theorem Fo {nx os:List Pr3} {m T x mk:Nat} (g:MaG m nx os) (bd:Bard (M.rch (prs nx) m T) x mk):∀ j,j < T→M.sm (nB nx) (M.bkI (nA nx) mk j)=0:=by
 have ln:=g.ln
 have m6:=g.m6
 have:=M.no_signs (ps:=prs nx) (m:=m) (s:=mk) (T:=T) (by rw [bo];omega) (by omega) (fun q hq=>by obtain ⟨q',hq',rfl⟩:=List.mem_map.mp hq;exact (g.bn q' (List.mem_append_left _ hq')).2) fun y hy=>bd.ev y (Gm hy)
 rw [Og,Of] at this
 exact this
theorem CmA.in_ {H:Hp} {t D:Addr} {m:Nat} {nx:List Pr3} {st T q mk:Nat} (x:CmA H t D m nx st T q mk):M.Span (M.rch (prs nx) m T) st:=by rw [← x.sd.sm];exact M.sm_span _ _
theorem CmN.signs {H:Hp} {t D S:Addr} {m:Nat} {nx os:List Pr3} {st mk p q:Nat} (g:MaG m nx os) (x:CmN H t D S m nx st mk p q):∀ j,j < p→M.sm (nB nx) (M.bkI (nA nx) mk j)=0:=fun j hj=>by
 have:=x.ct.fs.lt
 rw [M.bl_len] at this
 exact Fo g x.bd j (by omega)
theorem CmN.walk {H:Hp} {t D S:Addr} {m:Nat} {nx os:List Pr3} {st mk p q:Nat} {rs:List Nat} (g:MaG m nx os) (x:CmN H t D S m nx st mk p q) (h:st=M.wst (prs nx) 0 rs):False:=by
 have ln:=g.ln
 have h1:=M.quiet_walk (ps:=prs nx) (by rw [bo];omega) rs mk (by rw [Og,Of];exact M.bk_quiet x.ct.fs (x.signs g))
 have h2:=x.bd.odd
 rw [h,h1] at h2
 cases h2
theorem OC {m:Nat} {nx os:List Pr3} (g:MaG m nx os):∀ x∈nA nx,x < 2 ^ nx.length:=fun x hx=>by
 obtain ⟨q,hq,rfl⟩:=List.mem_map.mp hx
 exact (g.bn q (List.mem_append_left _ hq)).1
structure LN (K:PySem.W.Frag) (H:Hp) (n:Addr) (m:Nat) (nx os:List Pr3) (st:Nat):Prop where
 sq:SqL K H n (refs nx)
 pt:Prt H nx
 g:MaG m nx os
 ln:nx.length≤16
 hs:st < 2 ^ nx.length
end Sx
namespace M
noncomputable def rin (ps:List (Nat×Nat)) (m a:Nat):Nat→Nat→Prop
 | 0,s=>s=a
 | j + 1,s=>∃ x r,rin ps m a j x∧r < 2 ^ m∧s=tr2 ps x r
theorem rin_of (ps:List (Nat×Nat)) (m a:Nat):∀ (j s:Nat),rin ps m a j s→∃ rs:List Nat,rs.length=j∧(∀ r∈rs,r < 2 ^ m)∧s=wst ps a rs
 | 0,s,h=>⟨[],rfl,by simp,h⟩
 | j + 1,s,⟨x,r,h,hr,e⟩=>by
   obtain ⟨rs,h1,h2,h3⟩:=rin_of ps m a j x h
   refine ⟨rs++[r],by simp [h1],fun y hy=>?_,by rw [wst_snoc,← h3];exact e⟩
   rcases List.mem_append.mp hy with z | z
   ·exact h2 y z
   ·rw [List.mem_singleton.mp z];exact hr
theorem N9 (ps:List (Nat×Nat)) (m a:Nat) (rs:List Nat):(∀ r∈rs,r < 2 ^ m)→rin ps m a rs.length (wst ps a rs):=by
 refine rev_ind (P:=fun rs=>(∀ r∈rs,r < 2 ^ m)→rin ps m a rs.length (wst ps a rs)) (fun _=>rfl) (fun l x ih h=>?_) rs
 rw [List.length_append,wst_snoc]
 exact ⟨_,x,ih fun r hr=>h r (List.mem_append_left _ hr),h x (by simp),rfl⟩
theorem rin_iff (ps:List (Nat×Nat)) (m a j s:Nat):rin ps m a j s↔Span (rch ps m j) (s^^^zs ps a j):=by
 constructor
 ·intro h
  obtain ⟨rs,h1,h2,h3⟩:=rin_of ps m a j s h
  rw [sS,h1,xI ps m rs h2,h1] at h3
  rw [h3,Nat.xor_comm (zs ps a j),Nat.xor_assoc,Nat.xor_self,Nat.xor_zero]
  exact sm_span _ _
 ·intro h
  obtain ⟨q,h1,h2⟩:=l8 h
  rw [rch_len] at h1
  have e:=xI ps m (upk m q j) (KB m q j)
  rw [upk_len,GQ m j q h1,h2] at e
  have:=N9 ps m a (upk m q j) (KB m q j)
  rw [upk_len,sS,upk_len,e,Nat.xor_comm s,← Nat.xor_assoc,Nat.xor_self,Nat.zero_xor] at this
  exact this
theorem rin0_iff (ps:List (Nat×Nat)) (m j s:Nat):rin ps m 0 j s↔Span (rch ps m j) s:=by rw [rin_iff,FP,Nat.xor_zero]
theorem KO (ps:List (Nat×Nat)) (m:Nat):∀ (j s:Nat),rin ps m 0 j s→rin ps m 0 (j + 1) s
 | 0,s,h=>⟨0,0,rfl,Nat.two_pow_pos m,by rw [nr];exact h⟩
 | j + 1,s,⟨x,r,h,hr,e⟩=>⟨x,r,KO ps m j x h,hr,e⟩
theorem rin_le {ps:List (Nat×Nat)} {m i j s:Nat} (h:rin ps m 0 i s) (hj:i≤j):rin ps m 0 j s:=by
 induction j with
 | zero=>obtain rfl:i=0:=by omega
         exact h
 | succ j ih=>
   by_cases e:i=j + 1
   ·rw [← e];exact h
   ·exact KO ps m j s (ih (by omega))
theorem rin_lt {ps:List (Nat×Nat)} {m a:Nat} (ha:a < 2 ^ ps.length):∀ {j s:Nat},rin ps m a j s→s < 2 ^ ps.length
 | 0,s,h=>by rw [show s=a from h];exact ha
 | j + 1,s,⟨x,r,_,_,e⟩=>by rw [e];exact tr2_lt _ _ _
noncomputable def lin (ps:List (Nat×Nat)) (m j s:Nat):Prop:=rin ps m 0 j s∧∀ i,i < j→¬ rin ps m 0 i s
theorem JY {ps:List (Nat×Nat)} {m i j s:Nat} (a:lin ps m i s) (b:lin ps m j s):i=j:=by
 rcases Nat.lt_trichotomy i j with h | h | h
 ·exact absurd a.1 (b.2 i h)
 ·exact h
 ·exact absurd b.1 (a.2 j h)
theorem lin_zero {ps:List (Nat×Nat)} {m s:Nat}:lin ps m 0 s↔s=0:=⟨fun h=>h.1,fun h=>⟨h,fun i hi=>absurd hi (Nat.not_lt_zero _)⟩⟩
theorem lin_succ {ps:List (Nat×Nat)} {m j s:Nat}:lin ps m (j + 1) s↔¬ rin ps m 0 j s∧∃ x r,lin ps m j x∧r < 2 ^ m∧s=tr2 ps x r:=by
 constructor
 ·rintro ⟨⟨x,r,h,hr,e⟩,hn⟩
  refine ⟨hn j (Nat.lt_succ_self _),x,r,⟨h,fun i hi hx=>hn (i + 1) (by omega) ⟨x,r,hx,hr,e⟩⟩,hr,e⟩
 ·rintro ⟨hn,x,r,h,hr,e⟩
  exact ⟨⟨x,r,h.1,hr,e⟩,fun i hi hx=>hn (rin_le hx (by omega))⟩
theorem lin_ex {ps:List (Nat×Nat)} {m j s:Nat} (h:rin ps m 0 j s):∃ i,i≤j∧lin ps m i s:=by
 induction j with
 | zero=>exact ⟨0,Nat.le_refl _,lin_zero.mpr h⟩
 | succ j ih=>
   by_cases e:rin ps m 0 j s
   ·obtain ⟨i,h1,h2⟩:=ih e
    exact ⟨i,by omega,h2⟩
   ·exact ⟨j + 1,Nat.le_refl _,h,fun i hi hx=>e (rin_le hx (by omega))⟩
theorem C1 {N k:Nat} {P:Nat→Nat→Prop} (h:∀ i,i < k→∃ x,x < N∧P i x) (u:∀ i j x,P i x→P j x→i=j):k≤N:=by
 have:∃ l:List Nat,l.length=k∧l.Nodup∧(∀ x∈l,x < N∧∃ i,i < k∧P i x):=by
  induction k with
  | zero=>exact ⟨[],rfl,List.nodup_nil,by simp⟩
  | succ k ih=>
    obtain ⟨l,h1,h2,h3⟩:=ih fun i hi=>h i (by omega)
    obtain ⟨x,hx,px⟩:=h k (Nat.lt_succ_self _)
    refine ⟨x::l,by simp [h1],List.nodup_cons.mpr ⟨fun z=>?_,h2⟩,fun y hy=>?_⟩
    ·obtain ⟨_,i,hi,pi⟩:=h3 x z
     have:=u _ _ _ px pi
     omega
    ·rcases List.mem_cons.mp hy with e | e
     ·rw [e];exact ⟨hx,k,Nat.lt_succ_self _,px⟩
     ·obtain ⟨q1,i,q2,q3⟩:=h3 y e
      exact ⟨q1,i,by omega,q3⟩
 obtain ⟨l,h1,h2,h3⟩:=this
 rw [← h1]
 exact nodup_le N l h2 fun x hx=>(h3 x hx).1
theorem lin_down {ps:List (Nat×Nat)} {m:Nat}:∀ {j s:Nat},lin ps m j s→∀ i,i≤j→∃ x,x < 2 ^ ps.length∧lin ps m i x
 | 0,s,h,i,hi=>⟨0,Nat.two_pow_pos _,by rw [show i=0 by omega];exact lin_zero.mpr rfl⟩
 | j + 1,s,h,i,hi=>by
   by_cases e:i=j + 1
   ·subst e;exact ⟨s,rin_lt (Nat.two_pow_pos _) h.1,h⟩
   ·obtain ⟨_,x,r,h2,_⟩:=lin_succ.mp h
    exact lin_down h2 i (by omega)
theorem lin_lt {ps:List (Nat×Nat)} {m j s:Nat} (h:lin ps m j s):j < 2 ^ ps.length:=
 C1 (k:=j + 1) (P:=lin ps m) (fun i hi=>lin_down h i (by omega)) fun i j x a b=>JY a b
noncomputable def fu (ps os:List (Nat×Nat)) (t d:Nat):Prop:=tr2 os (zs ps d t) 0≠0∧∀ j,j < t→tr2 os (zs ps d j) 0=0
theorem fu_uniq {ps os:List (Nat×Nat)} {i j d:Nat} (a:fu ps os i d) (b:fu ps os j d):i=j:=by
 rcases Nat.lt_trichotomy i j with h | h | h
 ·exact absurd (b.2 i h) a.1
 ·exact h
 ·exact absurd (a.2 j h) b.1
theorem fu_zero {ps os:List (Nat×Nat)} {d:Nat}:fu ps os 0 d↔tr2 os d 0≠0:=⟨fun h=>h.1,fun h=>⟨h,fun j hj=>absurd hj (Nat.not_lt_zero _)⟩⟩
theorem fu_succ {ps os:List (Nat×Nat)} {t d:Nat}:fu ps os (t + 1) d↔tr2 os d 0=0∧fu ps os t (tr2 ps d 0):=by
 constructor
 ·rintro ⟨h1,h2⟩
  refine ⟨h2 0 (Nat.succ_pos _),by rw [FQ];exact h1,fun j hj=>by rw [FQ];exact h2 (j + 1) (by omega)⟩
 ·rintro ⟨h0,h1,h2⟩
  refine ⟨by rw [← FQ];exact h1,fun j hj=>?_⟩
  cases j with
  | zero=>exact h0
  | succ j=>rw [← FQ];exact h2 j (by omega)
theorem fu_down {ps os:List (Nat×Nat)}:∀ {t d:Nat},d < 2 ^ ps.length→fu ps os t d→∀ i,i≤t→∃ x,x < 2 ^ ps.length∧fu ps os i x
 | 0,d,hd,h,i,hi=>⟨d,hd,by rw [show i=0 by omega];exact h⟩
 | t + 1,d,hd,h,i,hi=>by
   by_cases e:i=t + 1
   ·subst e;exact ⟨d,hd,h⟩
   ·exact fu_down (tr2_lt _ _ _) (fu_succ.mp h).2 i (by omega)
theorem fu_lt {ps os:List (Nat×Nat)} {t d:Nat} (hd:d < 2 ^ ps.length) (h:fu ps os t d):t < 2 ^ ps.length:=
 C1 (k:=t + 1) (P:=fu ps os) (fun i hi=>fu_down hd h i (by omega)) fun i j x a b=>fu_uniq a b
noncomputable def ow (x:Nat) (L:List Nat):Nat:=pk (fun k=>od (x&&&L.getD k 0)) 0 L.length
noncomputable def lk1 (A os:List Nat) (t:Nat):List Nat:=os.map fun s=>bkI A s t
noncomputable def lkm (A os:List Nat):Nat→List Nat
 | 0=>[]
 | T + 1=>lkm A os T++lk1 A os T
section
variable (ps os:List (Nat×Nat)) (m:Nat)
noncomputable def msk:List Nat:=lkm (ps.map (·.1)) (os.map (·.1)) ps.length
noncomputable def ldp:List Nat:=fr ((rch ps m ps.length).map (ow · (msk ps os)))
noncomputable def lst_:List Nat:=(ldp ps os m).map fun i=>(rch ps m ps.length).getD i 0
noncomputable def lkp:List Nat:=fr ((msk ps os).map (ow · (lst_ ps os m)))
noncomputable def lkL:List Nat:=(lkp ps os m).map fun i=>(msk ps os).getD i 0
noncomputable def sen:List Nat:=(lkL ps os m).map (ow · (lst_ ps os m))
end
section
variable {ps os:List (Nat×Nat)} {m:Nat}
structure Lsr (ps os:List (Nat×Nat)) (m:Nat) (nx' os':List (Nat×Nat)):Prop where
 ln:nx'.length=(lkp ps os m).length
 lo:os'.length=os.length
 n1:∀ (j:Nat) (q:Nat×Nat),nx'[j]? =some q→q.1 < 2 ^ (lkp ps os m).length∧sm (sen ps os m) q.1=ow (sm (ps.map (·.1)) ((lkL ps os m).getD j 0)) (lst_ ps os m)∧q.2=sm (ps.map (·.2)) ((lkL ps os m).getD j 0)
 o1:∀ (j:Nat) (q:Nat×Nat),os'[j]? =some q→q.1 < 2 ^ (lkp ps os m).length∧sm (sen ps os m) q.1=ow (os.getD j (0,0)).1 (lst_ ps os m)∧q.2=(os.getD j (0,0)).2
structure Fit (ps os:List (Nat×Nat)) (m:Nat):Prop where
 ln:ps.length≤120
 bn:∀ q∈ps++os,q.1 < 2 ^ ps.length
end
end M
namespace Sx
open PySem L2
noncomputable def Cp (Pv:List Pr3→Prop) (H1:Hp) (D:Addr) (i:Nat) (ys:List V) (H:Hp):Prop:=∃ qs:List Pr3,ys=refs qs∧qs.length=i∧Pv qs∧Prt H qs∧Same H1 H∧H D=some (.lst ys)
theorem OV {Pv:List Pr3→Prop} {H1 H H6:Hp} {D t:Addr} {i x y:Nat} {qs:List Pr3} (hD:H1 D=none) (lq:qs.length=i) (pt:Prt H qs) (s:Same H1 H) (eD:H D=some (.lst (refs qs))) (s6:Same H H6) (et:H6 t=some (.tup [nat x,nat y])) (hi:i < 1000) (pv:Pv (qs++[(t,x,y)])):H6 D=some (.lst (refs qs))∧(refs qs).length < sizeLine∧Cp Pv H1 D (i + 1) (refs qs++[.ref t]) (upd H6 D (.lst (refs qs++[.ref t]))):=by
 refine ⟨s6.get eD,by rw [cb,lq];exact cU (by omega),qs++[(t,x,y)],by unfold refs;rw [List.map_append];rfl,by rw [List.length_append,lq];rfl,pv,fun q hq=>?_,fun b ob e=>?_,bf⟩
 ·have h6:H6 q.1=some (.tup [nat q.2.1,nat q.2.2]):=by
   rcases List.mem_append.mp hq with h | h
   ·exact s6.get (pt q h)
   ·rw [List.mem_singleton.mp h];exact et
  have n:q.1≠D:=fun z=>by rw [z,s6.get eD] at h6;cases h6
  rw [aL n];exact h6
 ·rw [aL (ar e hD)];exact s6.get (s.get e)
theorem MN {Pv:List Pr3→Prop} {H1:Hp} {D:Addr} (hD:H1 D=none) (h:Pv []):Cp Pv H1 D 0 [] (upd H1 D (.lst [])):=⟨[],rfl,rfl,h,fun _ h=>(by cases h),fP hD,bf⟩
structure Lrl (H:Hp) (Dr Dl:Addr) (ds es:List Addr) (m:Nat) (nx os:List Pr3):Prop where
 r:H Dr=some (.lst (ds.map V.ref))
 l:H Dl=some (.lst (es.map V.ref))
 dl:ds.length=(M.ldp (prs nx) (prs os) m).length
 el:es.length=(M.lkp (prs nx) (prs os) m).length
 da:∀ (j:Nat) (d k:Nat),ds[j]? =some d→(M.ldp (prs nx) (prs os) m)[j]? =some k→H d=some (.lst ((M.upk m (2 ^ k) nx.length).map nat))
 ea:∀ (j:Nat) (e k:Nat),es[j]? =some e→(M.lkp (prs nx) (prs os) m)[j]? =some k→H e=some (.tup [nat (k / os.length),nat (k % os.length)])
noncomputable def stp (ps os:List (Nat×Nat)) (m s:Nat):List (Nat×Nat):=(List.range (2 ^ m)).map fun r=>(M.tr2 os s r,M.tr2 ps s r)
structure StpA (H:Hp) (S:Addr) (Ds:List Addr) (ps os:List (Nat×Nat)) (m:Nat):Prop where
 at_:H S=some (.lst (Ds.map V.ref))
 len:Ds.length=2 ^ ps.length
 get:∀ (s:Nat) (D:Addr),Ds[s]? =some D→∃ qs:List Pr3,H D=some (.lst (refs qs))∧Prt H qs∧prs qs=stp ps os m s
theorem StpA.same {H H2:Hp} {S:Addr} {Ds:List Addr} {ps os:List (Nat×Nat)} {m:Nat} (x:StpA H S Ds ps os m) (s:Same H H2):StpA H2 S Ds ps os m:=
 ⟨s.get x.at_,x.len,fun k D e=>let ⟨qs,h1,h2,h3⟩:=x.get k D e;⟨qs,s.get h1,h2.same s,h3⟩⟩
theorem StpA.row {H:Hp} {S:Addr} {Ds:List Addr} {ps os:List (Nat×Nat)} {m s:Nat} (x:StpA H S Ds ps os m) (h:s < 2 ^ ps.length):∃ (D:Addr) (qs:List Pr3),(Ds.map V.ref)[s]? =some (.ref D)∧Ds[s]? =some D∧H D=some (.lst (refs qs))∧Prt H qs∧prs qs=stp ps os m s:=by
 have hD:Ds[s]? =some Ds[s]! :=by rw [← x.len] at h;simp [h]
 obtain ⟨qs,h1,h2,h3⟩:=x.get s _ hD
 exact ⟨_,qs,by rw [List.getElem?_map,hD];rfl,hD,h1,h2,h3⟩
theorem Cy {ps os:List (Nat×Nat)} {m s:Nat} {qs:List Pr3} (e:prs qs=stp ps os m s) {r:Nat} {q:Pr3} (h:qs[r]? =some q):r < 2 ^ m∧q.2=(M.tr2 os s r,M.tr2 ps s r):=by
 have h1:(prs qs)[r]? =some q.2:=by unfold prs;rw [List.getElem?_map,h];rfl
 rw [e] at h1
 unfold stp at h1
 rw [List.getElem?_map] at h1
 cases hr:(List.range (2 ^ m))[r]? with
 | none=>rw [hr] at h1;cases h1
 | some y=>
   rw [hr] at h1
   obtain ⟨hl,e2⟩:=List.getElem?_eq_some_iff.mp hr
   rw [List.length_range] at hl
   rw [List.getElem_range] at e2
   subst e2
   exact ⟨hl,(Option.some.inj h1).symm⟩
theorem xv {ps os:List (Nat×Nat)} {m s:Nat} {qs:List Pr3} (e:prs qs=stp ps os m s):qs.length=2 ^ m:=by
 have:=congrArg List.length e
 unfold prs stp at this
 simpa using this
noncomputable def Gu (K:PySem.W.Frag):Sp:=fun vs H Q _=>∃ (t n o:Addr) (m:Nat) (nx os:List Pr3),vs=[.ref t]∧TabT H t n o m nx os∧nx.length≤4∧m≤3∧
 ∀ (S:Addr) (Ds:List Addr) (H2:Hp),H S=none→Same H H2→StpA H2 S Ds (prs nx) (prs os) m→Q (.ref S) H2
section
variable {α κ:Type} [DecidableEq κ] {g:α→κ}
noncomputable def kg (g:α→κ) (es:List (α×Nat)):List (κ×V):=es.map fun e=>(g e.1,nat e.2)
theorem mO (inj:∀ x y,g x=g y→x=y) {s:α}:∀ {es:List (α×Nat)},(∀ j,(s,j)∉es)→valV (kg g es) (g s)=none
 | [],_=>rfl
 | e::es,h=>by
   have h1:¬ g e.1=g s:=fun z=>h e.2 (by rw [← inj _ _ z];exact List.mem_cons_self)
   exact (jb (p:=(g e.1,nat e.2)) h1).trans (mO inj fun j hj=>h j (List.mem_cons_of_mem _ hj))
theorem km (inj:∀ x y,g x=g y→x=y) {s:α} {j:Nat}:∀ {es:List (α×Nat)},(es.map (·.1)).Nodup→(s,j)∈es→valV (kg g es) (g s)=some (nat j)
 | e::es,nd,h=>by
   rw [List.map_cons,List.nodup_cons] at nd
   by_cases z:e.1=s
   ·have hj:e=(s,j):=by
     rcases List.mem_cons.mp h with q | q
     ·exact q.symm
     ·exact absurd (List.mem_map.mpr ⟨_,q,rfl⟩) (by rw [← z] at *;exact nd.1)
    rw [hj]
    exact kM (p:=(g s,nat j)) rfl
   ·have h1:¬ g e.1=g s:=fun q=>z (inj _ _ q)
    refine (jb (p:=(g e.1,nat e.2)) h1).trans (km inj nd.2 ?_)
    rcases List.mem_cons.mp h with q | q
    ·exact absurd (by rw [← q]) z
    ·exact q
theorem K0 (inj:∀ x y,g x=g y→x=y) {s:α} {j:Nat} {es:List (α×Nat)} (h:∀ j,(s,j)∉es):putK (kg g es) (g s) (nat j)=kg g (es++[(s,j)]):=by
 rw [L2.putK_new _ (mO inj h)]
 unfold kg
 rw [List.map_append];rfl
theorem K1 (g:α→κ) (es:List (α×Nat)):(kg g es).length=es.length:=List.length_map _
end
noncomputable def ki (s:Nat):Key:=Sum.inl (s:Int)
noncomputable def kp (p:Nat×Nat):List Key:=[Sum.inl (p.1:Int),Sum.inl (p.2:Int)]
theorem wU (x y:Nat) (h:ki x=ki y):x=y:=by have:=Sum.inl.inj h;omega
theorem qH (x y:Nat×Nat) (h:kp x=kp y):x=y:=by
 unfold kp at h
 have h1:=Sum.inl.inj (List.cons.inj h).1
 have h2:=Sum.inl.inj (List.cons.inj (List.cons.inj h).2).1
 exact Prod.ext (by omega) (by omega)
structure LtD (es:List (Nat×Nat)) (ps:List (Nat×Nat)) (m J:Nat):Prop where
 nd:(es.map (·.1)).Nodup
 iff:∀ s i,(s,i)∈es↔M.lin ps m i s∧i≤J
structure LtE (es:List (Nat×Nat)) (ah:List Nat) (Sn:Nat→Prop) (N J:Nat):Prop where
 nd:((es++ah.map fun s=>(s,J + 1)).map (·.1)).Nodup
 iff:∀ s,s∈ah↔Sn s∧∀ j,(s,j)∉es
 lt:∀ e∈es++ah.map fun s=>(s,J + 1),e.1 < N
theorem LtE.len {es:List (Nat×Nat)} {ah:List Nat} {Sn:Nat→Prop} {N J:Nat} (h:LtE es ah Sn N J):(es++ah.map fun s=>(s,J + 1)).length≤N:=by
 have:=M.nodup_le N _ h.nd fun x hx=>by
  obtain ⟨e,he,rfl⟩:=List.mem_map.mp hx
  exact h.lt e he
 rwa [List.length_map] at this
theorem LtE.none {es:List (Nat×Nat)} {ah:List Nat} {Sn:Nat→Prop} {N J s:Nat} (h:LtE es ah Sn N J):(∀ j,(s,j)∉es++ah.map fun s=>(s,J + 1))↔s∉ah∧∀ j,(s,j)∉es:=by
 simp only [List.mem_append,List.mem_map,not_or,not_exists,not_and]
 constructor
 ·intro q
  exact ⟨fun hs=>(q (J + 1)).2 s hs rfl,fun j=>(q j).1⟩
 ·rintro ⟨q1,q2⟩ j
  exact ⟨q2 j,fun x hx e=>q1 (by cases e;exact hx)⟩
theorem LtE.old {es:List (Nat×Nat)} {ah:List Nat} {Sn Sn':Nat→Prop} {N J s:Nat} (h:LtE es ah Sn N J) (hs:∀ x,Sn' x↔Sn x∨x=s) (hn:¬ ∀ j,(s,j)∉es++ah.map fun s=>(s,J + 1)):LtE es ah Sn' N J:=by
 rw [h.none] at hn
 refine ⟨h.nd,fun x=>?_,h.lt⟩
 rw [h.iff,hs]
 constructor
 ·rintro ⟨a,b⟩;exact ⟨.inl a,b⟩
 ·rintro ⟨a | a,b⟩
  ·exact ⟨a,b⟩
  ·subst a
   refine Classical.byContradiction fun z=>hn ⟨fun q=>z ⟨((h.iff x).mp q).1,b⟩,b⟩
theorem LtE.new {es:List (Nat×Nat)} {ah:List Nat} {Sn Sn':Nat→Prop} {N J s:Nat} (h:LtE es ah Sn N J) (hs:∀ x,Sn' x↔Sn x∨x=s) (hl:s < N) (hn:∀ j,(s,j)∉es++ah.map fun s=>(s,J + 1)):LtE es (ah++[s]) Sn' N J:=by
 have e:es++(ah++[s]).map (fun s=>(s,J + 1))=(es++ah.map fun s=>(s,J + 1))++[(s,J + 1)]:=by rw [List.map_append,List.append_assoc];rfl
 have hn2:=h.none.mp hn
 refine ⟨?_,fun x=>?_,?_⟩
 ·rw [e,List.map_append,List.nodup_append]
  refine ⟨h.nd,by simp,fun a ha b hb=>?_⟩
  obtain ⟨q,hq,rfl⟩:=List.mem_map.mp ha
  have:b=s:=by simpa using hb
  subst this
  rintro z
  exact hn q.2 (by rw [← z];exact hq)
 ·rw [List.mem_append,h.iff,hs,List.mem_singleton]
  constructor
  ·rintro (⟨a,b⟩ | a)
   ·exact ⟨.inl a,b⟩
   ·rw [a];exact ⟨.inr rfl,hn2.2⟩
  ·rintro ⟨a | a,b⟩
   ·exact .inl ⟨a,b⟩
   ·exact .inr a
 ·rw [e]
  intro q hq
  rcases List.mem_append.mp hq with z | z
  ·exact h.lt q z
  ·rw [List.mem_singleton.mp z];exact hl
theorem LtE.done {es ps:List (Nat×Nat)} {line ah:List Nat} {m J:Nat} (d:LtD es ps m J) (hl:∀ s,s∈line↔M.lin ps m J s) (h:LtE es ah (fun s=>∃ x∈line,∃ r,r < 2 ^ m∧s=M.tr2 ps x r) (2 ^ ps.length) J):LtD (es++ah.map fun s=>(s,J + 1)) ps m (J + 1)∧∀ s,s∈ah↔M.lin ps m (J + 1) s:=by
 have key:∀ s,s∈ah↔M.lin ps m (J + 1) s:=fun s=>by
  rw [h.iff,M.lin_succ]
  constructor
  ·rintro ⟨⟨x,hx,r,hr,e⟩,hn⟩
   refine ⟨fun hr2=>?_,x,r,(hl x).mp hx,hr,e⟩
   obtain ⟨i,h1,h2⟩:=M.lin_ex hr2
   exact hn i ((d.iff s i).mpr ⟨h2,h1⟩)
  ·rintro ⟨hn,x,r,hx,hr,e⟩
   exact ⟨⟨x,(hl x).mpr hx,r,hr,e⟩,fun j hj=>hn (M.rin_le ((d.iff s j).mp hj).1.1 ((d.iff s j).mp hj).2)⟩
 refine ⟨⟨h.nd,fun s i=>?_⟩,key⟩
 rw [List.mem_append,d.iff,List.mem_map]
 constructor
 ·rintro (⟨a,b⟩ | ⟨x,hx,e⟩)
  ·exact ⟨a,by omega⟩
  ·cases e;exact ⟨(key s).mp hx,Nat.le_refl _⟩
 ·rintro ⟨a,b⟩
  by_cases q:i≤J
  ·exact .inl ⟨a,q⟩
  ·have:i=J + 1:=by omega
   subst this
   exact .inr ⟨s,(key s).mpr a,rfl⟩
noncomputable def Ltn (kvs:List (Key×V)) (ps:List (Nat×Nat)) (m:Nat):Prop:=∀ s:Nat,(∀ i,M.lin ps m i s→valV kvs (ki s)=some (nat i))∧((∀ i,¬ M.lin ps m i s)→valV kvs (ki s)=none)
theorem LtD.ltn {es ps:List (Nat×Nat)} {m J:Nat} (d:LtD es ps m J) (hn:∀ s,¬ M.lin ps m J s):Ltn (kg ki es) ps m:=fun s=>by
 have up:∀ i s,M.lin ps m i s→i≤J:=fun i s h=>by
  refine Classical.byContradiction fun z=>?_
  obtain ⟨x,_,hx⟩:=M.lin_down h J (by omega)
  exact hn x hx
 exact ⟨fun i h=>km wU d.nd ((d.iff s i).mpr ⟨h,up i s h⟩),fun h=>mO wU fun j hj=>h j ((d.iff s j).mp hj).1⟩
noncomputable def Gw (K:PySem.W.Frag):Sp:=fun vs H Q _=>∃ (S:Addr) (Ds:List Addr) (ps os:List (Nat×Nat)) (m:Nat),vs=[.ref S]∧StpA H S Ds ps os m∧ps.length≤4∧m≤3∧
 ∀ (D:Addr) (H2:Hp) (kvs:List (Key×V)),H D=none→Same H H2→H2 D=some (.dK kvs)→Ltn kvs ps m→Q (.ref D) H2
structure FuD (es:List ((Nat×Nat)×Nat)) (ps os:List (Nat×Nat)) (t:Nat):Prop where
 nd:(es.map (·.1)).Nodup
 iff:∀ a b i,((a,b),i)∈es↔M.fu ps os i (a^^^b)∧i < t∧a < 2 ^ ps.length∧b < 2 ^ ps.length
theorem tY {l:List (Nat×Nat)} {N:Nat} (nd:l.Nodup) (h:∀ p∈l,p.1 < N∧p.2 < N):l.length≤N * N:=by
 have nd2:(l.map fun p=>p.1 * N + p.2).Nodup:=by
  refine List.pairwise_map.mpr (nd.imp_of_mem fun {x y} hx hy hne z=>hne ?_)
  have h1:=h x hx
  have h2:=h y hy
  have hN:0 < N:=by omega
  have e1:(x.1 * N + x.2) / N=(y.1 * N + y.2) / N:=by rw [z]
  have e2:(x.1 * N + x.2) % N=(y.1 * N + y.2) % N:=by rw [z]
  rw [Nat.mul_comm,Nat.mul_add_div hN,Nat.mul_comm y.1,Nat.mul_add_div hN,Nat.div_eq_of_lt h1.2,Nat.div_eq_of_lt h2.2] at e1
  rw [Nat.mul_comm,Nat.mul_add_mod,Nat.mul_comm y.1,Nat.mul_add_mod,Nat.mod_eq_of_lt h1.2,Nat.mod_eq_of_lt h2.2] at e2
  exact Prod.ext (by omega) e2
 have:=M.nodup_le (N * N) _ nd2 fun x hx=>by
  obtain ⟨p,hp,rfl⟩:=List.mem_map.mp hx
  have h1:=h p hp
  have:(p.1 + 1) * N≤N * N:=Nat.mul_le_mul_right _ h1.1
  rw [Nat.add_mul] at this
  show p.1 * N + p.2 < N * N
  omega
 rwa [List.length_map] at this
theorem FuD.len {es:List ((Nat×Nat)×Nat)} {ps os:List (Nat×Nat)} {t:Nat} (h:FuD es ps os t):es.length≤2 ^ ps.length * 2 ^ ps.length:=by
 have:=tY (N:=2 ^ ps.length) h.nd fun p hp=>by
  obtain ⟨e,he,rfl⟩:=List.mem_map.mp hp
  exact ((h.iff e.1.1 e.1.2 e.2).mp he).2.2
 rwa [List.length_map] at this
theorem FuD.zero {ps os:List (Nat×Nat)}:FuD [] ps os 0:=⟨by simp,fun a b i=>⟨fun h=>(by cases h),fun h=>absurd h.2.1 (Nat.not_lt_zero _)⟩⟩
theorem FuD.more {es:List ((Nat×Nat)×Nat)} {ps os l:List (Nat×Nat)} {t:Nat} (h:FuD es ps os t) (nl:l.Nodup) (hl:∀ a b,(a,b)∈l↔M.fu ps os t (a^^^b)∧a < 2 ^ ps.length∧b < 2 ^ ps.length):FuD (es++l.map fun p=>(p,t)) ps os (t + 1):=by
 refine ⟨?_,fun a b i=>?_⟩
 ·rw [List.map_append,List.map_map,List.nodup_append]
  refine ⟨h.nd,by rw [show ((fun x:(Nat×Nat)×Nat=>x.1) ∘ fun p=>(p,t))=id from rfl,List.map_id];exact nl,fun x hx y hy=>?_⟩
  obtain ⟨e,he,rfl⟩:=List.mem_map.mp hx
  have hy:y∈l:=by simpa using hy
  intro z
  subst z
  have h1:=(h.iff e.1.1 e.1.2 e.2).mp he
  have h2:=(hl e.1.1 e.1.2).mp hy
  have:=M.fu_uniq h1.1 h2.1
  omega
 ·rw [List.mem_append,h.iff,List.mem_map]
  constructor
  ·rintro (⟨h1,h2,h3⟩ | ⟨p,hp,e⟩)
   ·exact ⟨h1,by omega,h3⟩
   ·cases e
    have:=(hl a b).mp hp
    exact ⟨this.1,Nat.lt_succ_self _,this.2⟩
  ·rintro ⟨h1,h2,h3⟩
   by_cases z:i < t
   ·exact .inl ⟨h1,z,h3⟩
   ·have:i=t:=by omega
    subst this
    exact .inr ⟨(a,b),(hl a b).mpr ⟨h1,h3⟩,rfl⟩
theorem Cv (ps:List (Nat×Nat)) (a b r:Nat):M.tr2 ps a r^^^M.tr2 ps b r=M.tr2 ps (a^^^b) 0:=by rw [← M.tr2_add,Nat.xor_self]
theorem Ng (ps:List (Nat×Nat)) (a b r:Nat):M.tr2 ps a r=M.tr2 ps b r↔M.tr2 ps (a^^^b) 0=0:=by
 rw [← Cv ps a b r]
 constructor
 ·intro h;rw [h,Nat.xor_self]
 ·intro h
  have:=congrArg (·^^^M.tr2 ps b r) h
  simpa [Nat.xor_assoc] using this
theorem FuD.next {es:List ((Nat×Nat)×Nat)} {ps os:List (Nat×Nat)} {t a b:Nat} (h:FuD es ps os (t + 1)) (ha:a < 2 ^ ps.length) (hb:b < 2 ^ ps.length) (hn:∀ i,((a,b),i)∉es) (r:Nat):M.fu ps os (t + 1) (a^^^b)↔((M.tr2 ps a r,M.tr2 ps b r),t)∈es:=by
 rw [h.iff,Cv,M.fu_succ]
 constructor
 ·rintro ⟨_,h2⟩;exact ⟨h2,Nat.lt_succ_self _,M.tr2_lt _ _ _,M.tr2_lt _ _ _⟩
 ·rintro ⟨h1,_⟩
  refine ⟨Classical.byContradiction fun z=>hn 0 ((h.iff a b 0).mpr ⟨M.fu_zero.mpr z,Nat.succ_pos _,ha,hb⟩),h1⟩
noncomputable def DA (K:PySem.W.Frag):Sp:=fun vs H Q _=>∃ (S F:Addr) (Ds:List Addr) (ps os:List (Nat×Nat)) (m a b t:Nat) (es:List ((Nat×Nat)×Nat)),vs=[.ref S,.ref F,nat a,nat b,nat t]∧StpA H S Ds ps os m∧a < 2 ^ ps.length∧b < 2 ^ ps.length∧H F=some (.dT (kg kp es))∧FuD es ps os t∧(∀ i,((a,b),i)∉es)∧
 ∀ (x:Bool) (H2:Hp),Same H H2→(x=true↔M.fu ps os t (a^^^b))→Q (.bl x) H2
noncomputable def Ufn (kvs:List (List Key×V)) (ps os:List (Nat×Nat)):Prop:=∀ a b,a < 2 ^ ps.length→b < 2 ^ ps.length→(∀ i,M.fu ps os i (a^^^b)→valV kvs (kp (a,b))=some (nat i))∧((∀ i,¬ M.fu ps os i (a^^^b))→valV kvs (kp (a,b))=none)
theorem FuD.ufn {es:List ((Nat×Nat)×Nat)} {ps os:List (Nat×Nat)} {t:Nat} (h:FuD es ps os (t + 1)) (hn:∀ a b,a < 2 ^ ps.length→b < 2 ^ ps.length→¬ M.fu ps os t (a^^^b)):Ufn (kg kp es) ps os:=fun a b ha hb=>by
 have up:∀ i,M.fu ps os i (a^^^b)→i < t + 1:=fun i hf=>by
  refine Classical.byContradiction fun z=>?_
  obtain ⟨x,hx,hx2⟩:=M.fu_down (M.xor_lt_pow ha hb) hf t (by omega)
  exact hn x 0 hx (Nat.two_pow_pos _) (by rw [Nat.xor_zero];exact hx2)
 exact ⟨fun i hf=>km qH h.nd ((h.iff a b i).mpr ⟨hf,up i hf,ha,hb⟩),fun hf=>mO qH fun j hj=>hf j ((h.iff a b j).mp hj).1⟩
noncomputable def Gx (K:PySem.W.Frag):Sp:=fun vs H Q _=>∃ (S:Addr) (Ds:List Addr) (ps os:List (Nat×Nat)) (m:Nat),vs=[.ref S]∧StpA H S Ds ps os m∧ps.length≤4∧m≤3∧
 ∀ (F:Addr) (H2:Hp) (kvs:List (List Key×V)),H F=none→Same H H2→H2 F=some (.dT kvs)→Ufn kvs ps os→Q (.ref F) H2
noncomputable def DB (C:Addr):Sp:=fun vs H Q _=>∃ (p S:Addr) (Ds:List Addr) (m:Nat) (nx os:List Pr3),vs=[.ref p,.ref S]∧MaA H C p m nx os∧MaG m nx os∧StpA H S Ds (prs nx) (prs os) m∧nx.length≤4∧m≤3∧∀ H2,Same H H2→Q (.bl true) H2
noncomputable def A8 (C:Addr):Sp:=fun vs H Q _=>∃ (p F:Addr) (kvs:List (List Key×V)) (m a b:Nat) (nx os:List Pr3),vs=[.ref p,.ref F,nat a,nat b]∧MaA H C p m nx os∧MaG m nx os∧H F=some (.dT kvs)∧Ufn kvs (prs nx) (prs os)∧nx.length≤4∧a < 2 ^ nx.length∧b < 2 ^ nx.length∧∀ H2,Same H H2→Q (.bl true) H2
noncomputable def Gy (C:Addr):Sp:=fun vs H Q _=>∃ (p S:Addr) (Ds:List Addr) (m a b T:Nat) (nx os:List Pr3),vs=[.ref p,.ref S,nat a,nat b,nat T]∧MaA H C p m nx os∧MaG m nx os∧StpA H S Ds (prs nx) (prs os) m∧nx.length≤4∧m≤3∧a < 2 ^ nx.length∧b < 2 ^ nx.length∧T≤8∧∀ H2,Same H H2→Q (.bl true) H2
theorem Od {ks:List Nat} {z:Nat} (h:z∈ks):putK (cy ks) (Sum.inl (z:Int)) (V.bl true)=cy ks:=by
 have ha:((cy ks).any fun kv=>decide (kv.1=Sum.inl (z:Int)))=true:=List.any_eq_true.mpr ⟨(Sum.inl (z:Int),V.bl true),List.mem_map.mpr ⟨z,h,rfl⟩,decide_eq_true rfl⟩
 unfold putK
 rw [if_pos ha]
 unfold cy
 rw [List.map_map]
 refine List.map_congr_left fun k hk=>?_
 show (if (Sum.inl (k:Int):Key)=Sum.inl (z:Int) then _ else _)=_
 split<;>rfl
end Sx
namespace L2
open PySem
variable {H:Hp} {Q:VK} {D:Ends} {σ:St} {v:V}
theorem L3 {a b:Addr} {kvs:List (List Key×V)} {k:List Key} (e:H a=some (.dT kvs)) (eb:H b=some (.tup (k.map kV))) (l:valV kvs k=some v) (h:Q v H):IT (.ref a) Q (.ref b) H:=⟨a,v,rfl,by rw [← l];exact DGet.t e eb,h⟩
theorem N0 {a b:Addr} {kvs:List (List Key×V)} {k:List Key} (e:H a=some (.dT kvs)) (eb:H b=some (.tup (k.map kV))) (h:Q (.bl (valV kvs k).isSome) H):M6 (.ref b) Q (.ref a) H:=⟨a,_,rfl,DGet.t e eb,h⟩
theorem LZ {a b:Addr} {kvs:List (List Key×V)} {k:List Key} (e:H a=some (.dT kvs)) (eb:H b=some (.tup (k.map kV))) (h:Q (.bl (!(valV kvs k).isSome)) H):IS (.ref b) Q (.ref a) H:=⟨a,_,rfl,DGet.t e eb,h⟩
theorem LY {a b:Addr} {kvs:List (List Key×V)} {k:List Key} (e:H a=some (.dT kvs)) (eb:H b=some (.tup (k.map kV))) (hl:kvs.length < sizeLine) (h:∀ H2,Upd H H2 a (.dT (putK kvs k v))→D.nx σ H2):IR v (.ref a) D σ (.ref b) H:=⟨a,_,rfl,DPut.t e eb hl,h _ Upd.of⟩
theorem PM {td ty tx:TE} (h:td σ H fun x H1=>∃ a,x= .ref a∧IsD H1 a∧ty σ H1 fun y H2=>tx σ H2 fun z H3=>∃ o,DGet H3 a y o∧Q (o.getD z) H3):KI td ty tx σ H Q:=h
end L2
namespace My
open PySem L2 Sx
local macro_rules | `(tactic| walk_at "o") =>`(tactic| first | exact Or.inl rfl | exact Or.inr rfl)
local macro_rules | `(tactic| walk_at "s") =>`(tactic| exact ⟨rfl,rfl,rfl,by decide +kernel,rfl,by decide +kernel,by decide +kernel⟩)
local macro_rules | `(tactic| walk_at "l2side") =>`(tactic| first | assumption | rfl | omega | decide | ((try dsimp only [CDiv,P6,CPow,CMul]);first | omega | decide | (refine ⟨?_,?_⟩<;>first | omega | decide) | (refine ⟨?_,?_,?_⟩<;>first | omega | decide) | (left;refine ⟨?_,?_⟩<;>first | omega | decide) | (right;refine ⟨?_,?_⟩<;>first | omega | decide)))
local macro_rules | `(tactic| walk_at "l2len") =>`(tactic| ((with_reducible show _ + _≤sizeLine);first | assumption | (rw [sizeLine_eq];omega) | omega))
local macro_rules | `(tactic| walk_at "l2at") =>`(tactic| first | assumption | exact bf | (refine' Same.get (by assumption) ?h;(case h=>walk_at "l2at")))
local macro_rules | `(tactic| walk_at "l2hp") =>`(tactic| first | assumption | (refine' SqL.of ?h;(case h=>walk_at "l2at")) | (refine' SqT.of ?h;(case h=>walk_at "l2at")) | (refine' Same.seq (by assumption) ?h;(case h=>walk_at "l2hp")) | (refine' Same.tup (by assumption) ?h;(case h=>walk_at "l2hp")) | (refine' Rep.same (by assumption) ?h;(case h=>walk_at "l2hp")) | walk_at "l2at")
local macro_rules | `(tactic| walk_at "l2kind") =>`(tactic| first | assumption | exact rfl | (refine' Or.inl ⟨rfl,_,?e⟩;(case e=>walk_at "l2hp")) | (refine' Or.inr (Or.inl ⟨rfl,_,?e⟩);(case e=>walk_at "l2hp")) | (refine' Or.inr (Or.inr ⟨rfl,_,Or.inl ?e⟩);(case e=>walk_at "l2hp")))
local macro_rules | `(tactic| walk_at "l2step") =>`(tactic| first
 | (with_reducible refine Po ?_) | (with_reducible refine PP ?_) | (with_reducible refine s_if ?_) | (with_reducible refine Pp ?_) | (with_reducible refine s_retN ?_) | (with_reducible refine NW ?_) | (with_reducible refine NK ?_)
 | ((with_reducible refine' Pl ?e ?_);(case e=>repeat constructor)) | (with_reducible refine s_c ?_) | (with_reducible refine s_op ?_) | (with_reducible refine s_un ?_)
 | (with_reducible refine N3 ?_) | (with_reducible refine Px ?_) | (with_reducible refine L6 ?_) | (with_reducible refine s_cb ?_)
 | (with_reducible refine Pt ?_) | ((with_reducible refine' s_rI ?e ?_);(case e=>walk_at "l2side")) | (with_reducible refine s_rU ?_)
 | ((with_reducible refine' Pu ?e ?_);(case e=>rfl)) | ((with_reducible refine' Pr ?e ?_);(case e=>rfl)) | (with_reducible refine s_leS ?_)
 | (with_reducible refine NG ?_) | (with_reducible refine s_tB ?_) | (with_reducible refine L2.s_chain ?_) | (with_reducible refine PQ ?_) | (with_reducible refine s_or ?_) | (with_reducible refine Pw ?_)
 | (with_reducible refine N6 ?_) | (with_reducible refine s_orV ?_) | (with_reducible refine NJ ?_) | (with_reducible refine s_ifE ?_)
 | ((with_reducible refine' LU ?e ?_);(case e=>repeat constructor)) | (with_reducible refine LV ?_) | (with_reducible refine NV ?_) | ((with_reducible refine' NU ?e ?l ?_);(case e=>walk_at "l2hp");(case l=>rfl))
 | (with_reducible refine Pm ?_) | (with_reducible refine Py ?_) | ((with_reducible refine' NM ?l ?_);(case l=>exact Hb (Nat.le_of_ble_eq_true rfl))) | ((with_reducible refine' NL ?l ?_);(case l=>exact Hb (Nat.le_of_ble_eq_true rfl)))
 | (with_reducible refine s_sl ?_) | (with_reducible refine Jx ?_) | (with_reducible refine NI ?_)
 | ((with_reducible refine' Pn ?e ?_);(case e=>walk_at "l2hp")) | ((with_reducible refine' s_slS ?e ?_);(case e=>walk_at "l2side"))
 | ((with_reducible refine' PB ?e ?a ?_);(case e=>walk_at "l2hp");(case a=>first | assumption | rfl)) | ((with_reducible refine' Pz ?e ?a ?_);(case e=>walk_at "l2hp");(case a=>first | assumption | rfl))
 | ((with_reducible refine' s_ty ?e ?_);(case e=>first | exact rfl | (refine' Or.inl ⟨rfl,_,?f⟩;(case f=>walk_at "l2hp")) | (refine' Or.inr (Or.inr (Or.inl ⟨rfl,Or.inl ⟨_,?f⟩⟩));(case f=>walk_at "l2hp"))))
 | (with_reducible refine PN ?_) | (with_reducible refine s_bm ?_) | (with_reducible refine N5 ?_)
 | ((with_reducible refine' NS ?e ?_);(case e=>walk_at "l2hp")) | ((with_reducible refine' NR ?e ?_);(case e=>walk_at "l2hp")) | ((with_reducible refine' s_lenS ?e ?_);(case e=>walk_at "l2side"))
 | ((with_reducible refine' PD ?e ?m ?_);(case e=>walk_at "l2kind");(case m=>decide))
 | (with_reducible refine NZ ?_) | (with_reducible refine PF ?_) | (with_reducible refine LQ ?_) | (with_reducible refine s_iTup ?_) | (with_reducible refine s_iStr ?_) | (with_reducible refine NH ?_) | (with_reducible refine s_rng2 ?_)
 | (with_reducible refine Pk ?_) | (with_reducible refine NF ?_) | (with_reducible refine LW ?_) | (with_reducible refine s_intB ?_) | (with_reducible refine s_inS ?_) | ((with_reducible refine' s_addS ?e ?_);(case e=>walk_at "l2side"))
 | (with_reducible refine N4 ?_) | ((with_reducible refine' ti ?e ?_);(case e=>first | rfl | decide | assumption)) | ((with_reducible refine' o6 ?e ?_);(case e=>first | rfl | decide | assumption)) | ((with_reducible refine' JA ?a ?b ?_);(case a=>omega);(case b=>omega))
 | (with_reducible refine ⟨_,_,rfl,rfl,?_⟩;(with_reducible refine ⟨?l,?_⟩);(case l=>walk_at "l2len")) | (with_reducible refine ⟨_,_,rfl,rfl,?_⟩) | (with_reducible refine Or.inl ⟨_,rfl,?_⟩) | (with_reducible refine Or.inr ⟨_,rfl,?_⟩)
 | (with_reducible refine ⟨_,rfl,?_⟩) | (with_reducible refine ⟨rfl,?_⟩) | ((with_reducible refine' ⟨⟨_,?e⟩,?_⟩);(case e=>walk_at "l2hp")))
local macro_rules | `(tactic| walk_at "l2") =>`(tactic| repeat walk_at "l2step")
local macro_rules | `(tactic| walk_at "l2step") =>`(tactic| first
 | (with_reducible refine Jw ?_) | (with_reducible refine PJ ?_) | (with_reducible refine NO ?_) | (with_reducible refine Jy ?_) | (with_reducible refine NN ?_) | (with_reducible refine NX ?_) | (with_reducible refine N1 ?_) | (with_reducible refine LR ?_)
 | ((with_reducible refine' LP ?e ?_);(case e=>walk_at "l2hp")) | ((with_reducible refine' s_listT ?e ?_);(case e=>walk_at "l2hp")) | ((with_reducible refine' ND ?e ?_);(case e=>walk_at "l2hp")) | ((with_reducible refine' s_tupT ?e ?_);(case e=>walk_at "l2hp")))
local macro_rules | `(tactic| walk_at "l2step") =>`(tactic| first
 | (with_reducible refine PL ?_) | (with_reducible refine NY ?_) | (with_reducible refine Jz ?_) | ((with_reducible refine' s_listD ?e ?_);(case e=>walk_at "l2at")))
local macro_rules | `(tactic| walk_at "l2step") =>`(tactic| first | (with_reducible refine LO ?_) | (with_reducible refine s_try0 ?_) | (with_reducible refine L5 ?_))
noncomputable def top (i:Nat):Stmt:=PySem.Challenge.pw_sumwires_k55_whole_all_states_walked.main.body.getD i (.Pass ⟨0,0,0,0⟩)
noncomputable abbrev gM:Stmt:=top 7
theorem Bf:aD ["thing"] ["thing"] (ag gM):=by walk_at "s"
noncomputable abbrev iP:Stmt:=top 8
theorem DO:aD ["thing","width"] ["thing","width"] (ag iP):=by walk_at "s"
noncomputable abbrev wC:Stmt:=top 9
theorem sZ:aD ["number","width","half"] ["number"] (ag wC):=by walk_at "s"
noncomputable abbrev gQ:Stmt:=top 10
theorem DP:aD ["mask"] ["mask"] (ag gQ):=by walk_at "s"
noncomputable abbrev iN:Stmt:=top 11
theorem kO:aD ["places","mask","place"] ["places"] (ag iN):=by walk_at "s"
noncomputable abbrev fH:Stmt:=top 12
theorem Be:aD ["whole","width","count"] ["whole","width","count"] (ag fH):=by walk_at "s"
noncomputable abbrev b7:Stmt:=g0 (top 14) 0
theorem fG:aD ["self","rows","place","row"] ["self","rows"] (ag b7):=by walk_at "s"
noncomputable abbrev cF:Stmt:=g0 (top 14) 1
theorem cV:aD ["self","mask","places","found"] ["self","mask"] (ag cF):=by walk_at "s"
noncomputable abbrev fK:Stmt:=g0 (top 14) 2
theorem jZ:aD ["self","place","row","found","places"] ["self","place","row"] (ag fK):=by walk_at "s"
noncomputable abbrev cG:Stmt:=g0 (top 14) 3
theorem dR:aD ["self","bit","mask","top"] ["self","bit"] (ag cG):=by walk_at "s"
noncomputable abbrev iL:Stmt:=top 15
theorem oZ:aD ["rows","wish","steps","found"] ["rows","wish"] (ag iL):=by walk_at "s"
noncomputable abbrev s_chain:Stmt:=top 16
theorem kP:aD ["masks","place","found","sums"] ["masks"] (ag s_chain):=by walk_at "s"
noncomputable abbrev j0:Stmt:=top 19
theorem kN:aD ["machine","turns","states","told","turn"] ["machine","turns"] (ag j0):=by walk_at "s"
noncomputable abbrev iM:Stmt:=top 20
theorem DM:aD ["machine","places","turns"] ["machine","places","turns"] (ag iM):=by walk_at "s"
noncomputable abbrev cE:Stmt:=top 21
theorem gb:aD ["machine","state","states","turn"] ["machine","state"] (ag cE):=by walk_at "s"
noncomputable abbrev dw:Stmt:=top 22
theorem iw:aD ["machine","mask","masks","turn"] ["machine","mask"] (ag dw):=by walk_at "s"
noncomputable abbrev iQ:Stmt:=top 23
theorem gL:aD ["machine","state","bar","turns","found","shown"] ["machine","state"] (ag iQ):=by walk_at "s"
noncomputable abbrev d8:Stmt:=top 24
theorem eG:aD ["machine","one","other","shown","turn","state","answer"] ["machine","one","other"] (ag d8):=by walk_at "s"
noncomputable abbrev iR:Stmt:=top 25
theorem wB:aD ["machine","start","wish","turns","found"] ["machine","start","wish","turns"] (ag iR):=by walk_at "s"
noncomputable abbrev iO:Stmt:=top 30
theorem DN:aD ["thing","stores","inputs"] ["thing","stores","inputs"] (ag iO):=by walk_at "s"
noncomputable abbrev cQ:Stmt:=top 31
theorem vx:aD ["inputs","nexts","outs"] ["inputs","nexts","outs"] (ag cQ):=by walk_at "s"
noncomputable abbrev kQ:Stmt:=top 32
theorem GE:aD ["pair","state","row"] ["pair","state","row"] (ag kQ):=by walk_at "s"
noncomputable abbrev di:Stmt:=top 33
theorem xE:aD ["pairs","state","row"] ["pairs","state","row"] (ag di):=by walk_at "s"
noncomputable abbrev bJ:Stmt:=g0 (top 34) 0
theorem mh:aD ["self","inputs","nexts","outs"] ["self","inputs","nexts","outs"] (ag bJ):=by walk_at "s"
noncomputable abbrev b9:Stmt:=g0 (top 34) 1
theorem o4:aD ["self"] ["self"] (ag b9):=by walk_at "s"
noncomputable abbrev bw:Stmt:=g0 (top 34) 4
theorem jM:aD ["self","state"] ["self","state"] (ag bw):=by walk_at "s"
noncomputable abbrev c3:Stmt:=g0 (top 34) 5
theorem tf:aD ["self","state","row"] ["self","state","row"] (ag c3):=by walk_at "s"
noncomputable abbrev b8:Stmt:=g0 (top 34) 6
theorem cC:aD ["self","rows","state","answers","row","done"] ["self","rows","state"] (ag b8):=by walk_at "s"
noncomputable abbrev cH:Stmt:=g0 (top 34) 8
theorem rf:aD ["self","rows","state"] ["self","rows","state"] (ag cH):=by walk_at "s"
noncomputable abbrev c4:Stmt:=g0 (top 34) 10
theorem cD:aD ["self","mask","store_mask","input_mask","place"] ["self","mask"] (ag c4):=by walk_at "s"
noncomputable abbrev fI:Stmt:=top 36
theorem zf:aD ["_law_script","_law_k"] ["_law_script","_law_k"] (ag fI):=by walk_at "s"
noncomputable abbrev gO:Stmt:=top 37
theorem mf:aD ["_law_cell_here","_law_k","_law_number"] ["_law_cell_here","_law_k"] (ag gO):=by walk_at "s"
noncomputable abbrev d9:Stmt:=top 38
theorem eI:aD ["_law_cell_here","_law_start","_law_many","_law_width","_law_digits","_law_found","_law_left","_law_k"] ["_law_cell_here","_law_start","_law_many","_law_width","_law_digits"] (ag d9):=by walk_at "s"
noncomputable abbrev c2:Stmt:=top 39
theorem bT:aD ["_law_masks_here","_law_cell_here","_law_start","_law_way","_law_found","_law_k","_law_mask"] ["_law_masks_here","_law_cell_here","_law_start","_law_way"] (ag c2):=by walk_at "s"
noncomputable abbrev bC:Stmt:=top 40
theorem ay:aD ["_law_script","_law_start","_law_most","_law_cell_here","_law_stores","_law_inputs","_law_outputs","_law_digits","_law_way","_law_one","_law_other","_law_shown","_law_straight"] ["_law_script","_law_start","_law_most"] (ag bC):=by walk_at "s"
noncomputable abbrev gN:Stmt:=top 42
theorem je:aD ["_law_number","_law_many"] ["_law_number"] (ag gN):=by walk_at "s"
noncomputable abbrev fJ:Stmt:=top 43
theorem fX:aD ["_law_pairs","_law_state","_law_row","_law_found","_law_k","_law_pair"] ["_law_pairs","_law_state","_law_row"] (ag fJ):=by walk_at "s"
noncomputable abbrev dj:Stmt:=top 48
theorem gF:aD ["_law_tables","_law_found","_law_state","_law_rows_here"] ["_law_tables"] (ag dj):=by walk_at "s"
noncomputable abbrev bH:Stmt:=top 49
theorem aZ:aD ["_law_steps_here","_law_turns","_law_line","_law_ahead","_law_state","_law_answer","_law_later"] ["_law_steps_here"] (ag bH):=by walk_at "s"
noncomputable abbrev bB:Stmt:=top 50
theorem aA:aD ["_law_steps_here","_law_found","_law_many","_law_turn","_law_more","_law_fresh","_law_one","_law_other","_law_pair"] ["_law_steps_here"] (ag bB):=by walk_at "s"
noncomputable abbrev b6:Stmt:=top 51
theorem fF:aD ["_law_steps_here","_law_found","_law_one","_law_other","_law_turn","_law_first","_law_second"] ["_law_steps_here","_law_found","_law_one","_law_other","_law_turn"] (ag b6):=by walk_at "s"
noncomputable abbrev bQ:Stmt:=top 52
theorem c8:aD ["_law_machine_here","_law_steps_here","_law_turns","_law_state","_law_found"] ["_law_machine_here","_law_steps_here"] (ag bQ):=by walk_at "s"
noncomputable abbrev bI:Stmt:=top 53
theorem gP:aD ["_law_machine_here","_law_unlike","_law_one","_law_other","_law_found"] ["_law_machine_here","_law_unlike","_law_one","_law_other"] (ag bI):=by walk_at "s"
noncomputable abbrev bA:Stmt:=top 54
theorem aN:aD ["_law_machine_here","_law_steps_here","_law_one","_law_other","_law_turns","_law_here","_law_k","_law_later","_law_state","_law_answer","_law_goal"] ["_law_machine_here","_law_steps_here","_law_one","_law_other","_law_turns"] (ag bA):=by walk_at "s"
noncomputable abbrev DQ:Stmt:=top 55
theorem nv:aD ["_law_script","_law_tables","_law_machine_here","_law_steps_here","_law_unlike","_law_cell_here","_law_one","_law_other"] ["_law_script"] (ag DQ):=by walk_at "s"
set_option genInjectivity false in
set_option genSizeOf false in
structure Ad where
 cM:Addr
 iW:FuncData
 dQ:Addr
 og:FuncData
 n9:Addr
 Ia:FuncData
 eZ:Addr
 uM:FuncData
 eR:Addr
 uI:FuncData
 dB:Addr
 p8:FuncData
 aQ:Addr
 gq:FuncData
 a9:Addr
 g6:FuncData
 bU:Addr
 mW:FuncData
 bb:Addr
 g7:FuncData
 eN:Addr
 uG:FuncData
 jl:Addr
 B3:FuncData
 jk:Addr
 B2:FuncData
 eP:Addr
 uH:FuncData
 bx:Addr
 g5:FuncData
 bM:Addr
 jq:FuncData
 eV:Addr
 uK:FuncData
 cf:Addr
 ko:FuncData
 eW:Addr
 uL:FuncData
 eU:Addr
 uJ:FuncData
 bN:Addr
 jr:FuncData
 gI:Addr
 yD:FuncData
 cj:Addr
 kq:FuncData
 aI:Addr
 fh:FuncData
 aT:Addr
 gv:FuncData
 aB:Addr
 dq:FuncData
 bp:Addr
 iE:FuncData
 aR:Addr
 gu:FuncData
 bc:Addr
 fg:FuncData
 g4:Value
 bq:Addr
 iF:FuncData
 cR:Addr
 mU:FuncData
 dD:Addr
 qc:FuncData
 cn:Addr
 ku:FuncData
 bE:Addr
 iC:FuncData
 bF:Addr
 iD:FuncData
 dC:Addr
 p9:FuncData
 cS:Addr
 mV:FuncData
 ck:Addr
 kr:FuncData
 aW:Addr
 fc:FuncData
 aP:Addr
 d5:FuncData
 bu:Addr
 gm:FuncData
 bg:Addr
 fM:FuncData
 aX:Addr
 ff:FuncData
 aK:Addr
 dM:FuncData
 An:Addr
 ML:FuncData
 aJ:Addr
 ao:Addr
 bt:Addr
 bR:Addr
 dc:Addr
 jd:Tok
 l7:Tok
 jc:Tok
 jW:Tok
open PySem.W in
structure Tx (K:Frag) (mg:Str→Option Value) (a:Ad):Prop where
 k7:Fun K "is_whole" "is_whole" gM a.cM a.iW
 pV:keepIn K (.ref a.cM)=true
 i5:bz K a.iW ["thing"] []
 pZ:mg "is_whole"=some (.ref a.cM)
 oQ:Fun K "is_mask" "is_mask" iP a.dQ a.og
 nW:keepIn K (.ref a.dQ)=true
 i6:bz K a.og ["thing","width"] []
 n0:mg "is_mask"=some (.ref a.dQ)
 C9:Fun K "even" "even" wC a.n9 a.Ia
 Hr:keepIn K (.ref a.n9)=true
 AJ:bz K a.Ia ["number"] []
 HH:mg "even"=some (.ref a.n9)
 oU:Fun K "bits_of" "bits_of" gQ a.eZ a.uM
 z7:keepIn K (.ref a.eZ)=true
 oE:bz K a.uM ["mask"] []
 Af:mg "bits_of"=some (.ref a.eZ)
 oO:Fun K "mask_of" "mask_of" iN a.eR a.uI
 z6:keepIn K (.ref a.eR)=true
 oC:bz K a.uI ["places"] []
 Ae:mg "mask_of"=some (.ref a.eR)
 k6:Fun K "unpacked" "unpacked" fH a.dB a.p8
 EN:keepIn K (.ref a.dB)=true
 qj:bz K a.p8 ["whole","width","count"] []
 ER:mg "unpacked"=some (.ref a.dB)
 dY:Fun K "__init__" "Steps.__init__" b7 a.aQ a.gq
 FM:keepIn K (.ref a.aQ)=true
 gz:bz K a.gq ["self","rows"] []
 fw:Fun K "lowered" "Steps.lowered" cF a.a9 a.g6
 Hv:keepIn K (.ref a.a9)=true
 fk:bz K a.g6 ["self","mask"] []
 jz:Fun K "lay" "Steps.lay" fK a.bU a.mW
 Mw:keepIn K (.ref a.bU)=true
 m9:bz K a.mW ["self","place","row"] []
 fA:Fun K "barring" "Steps.barring" cG a.bb a.g7
 Hw:keepIn K (.ref a.bb)=true
 hX:bz K a.g7 ["self","bit"] []
 oM:Fun K "sum_for" "sum_for" iL a.eN a.uG
 nV:keepIn K (.ref a.eN)=true
 i4:bz K a.uG ["rows","wish"] []
 nZ:mg "sum_for"=some (.ref a.eN)
 y3:Fun K "chain" "chain" s_chain a.jl a.B3
 Ht:keepIn K (.ref a.jl)=true
 yO:bz K a.B3 ["masks"] []
 HJ:mg "chain"=some (.ref a.jl)
 yZ:Fun K "reach" "reach" j0 a.jk a.B2
 Ho:keepIn K (.ref a.jk)=true
 yM:bz K a.B2 ["machine","turns"] []
 HF:mg "reach"=some (.ref a.jk)
 oN:Fun K "rows_at" "rows_at" iM a.eP a.uH
 zZ:keepIn K (.ref a.eP)=true
 oB:bz K a.uH ["machine","places","turns"] []
 Ac:mg "rows_at"=some (.ref a.eP)
 fq:Fun K "states_behind" "states_behind" cE a.bx a.g5
 ux:keepIn K (.ref a.bx)=true
 hV:bz K a.g5 ["machine","state"] []
 uA:mg "states_behind"=some (.ref a.bx)
 gJ:Fun K "masks_ahead" "masks_ahead" dw a.bM a.jq
 yt:keepIn K (.ref a.bM)=true
 ju:bz K a.jq ["machine","mask"] []
 yv:mg "masks_ahead"=some (.ref a.bM)
 oR:Fun K "come_to" "come_to" iQ a.eV a.uK
 Hs:keepIn K (.ref a.eV)=true
 vb:bz K a.uK ["machine","state"] []
 HI:mg "come_to"=some (.ref a.eV)
 ip:Fun K "told_apart" "told_apart" d8 a.cf a.ko
 zY:keepIn K (.ref a.cf)=true
 kH:bz K a.ko ["machine","one","other"] []
 Ab:mg "told_apart"=some (.ref a.cf)
 oS:Fun K "brought" "brought" iR a.eW a.uL
 Hu:keepIn K (.ref a.eW)=true
 vc:bz K a.uL ["machine","start","wish","turns"] []
 HK:mg "brought"=some (.ref a.eW)
 oP:Fun K "is_pair" "is_pair" iO a.eU a.uJ
 Hq:keepIn K (.ref a.eU)=true
 va:bz K a.uJ ["thing","stores","inputs"] []
 HG:mg "is_pair"=some (.ref a.eU)
 gK:Fun K "check_table" "check_table" cQ a.bN a.jr
 yu:keepIn K (.ref a.bN)=true
 jv:bz K a.jr ["inputs","nexts","outs"] []
 yw:mg "check_table"=some (.ref a.bN)
 sR:Fun K "is_odd" "is_odd" kQ a.gI a.yD
 J5:keepIn K (.ref a.gI)=true
 yN:bz K a.yD ["pair","state","row"] []
 J9:mg "is_odd"=some (.ref a.gI)
 iq:Fun K "odd_places" "odd_places" di a.cj a.kq
 qI:keepIn K (.ref a.cj)=true
 ik:bz K a.kq ["pairs","state","row"] []
 qJ:mg "odd_places"=some (.ref a.cj)
 dh:Fun K "__init__" "Machine.__init__" bJ a.aI a.fh
 CU:keepIn K (.ref a.aI)=true
 fm:bz K a.fh ["self","inputs","nexts","outs"] []
 d0:Fun K "stores" "Machine.stores" b9 a.aT a.gv
 FO:keepIn K (.ref a.aT)=true
 cX:bz K a.gv ["self"] []
 cu:Fun K "check_state" "Machine.check_state" bw a.aB a.dq
 z9:keepIn K (.ref a.aB)=true
 aE:bz K a.dq ["self","state"] []
 fV:Fun K "step" "Machine.step" c3 a.bp a.iE
 IX:keepIn K (.ref a.bp)=true
 cx:bz K a.iE ["self","state","row"] []
 dZ:Fun K "walked" "Machine.walked" b8 a.aR a.gu
 FN:keepIn K (.ref a.aR)=true
 gC:bz K a.gu ["self","rows","state"] []
 du:FunD K "after" "Machine.after" cH a.bc a.fg a.g4
 kL:bz K a.fg ["self","rows","state"] [a.g4]
 F9:RelV (.int 0) a.g4
 Hx:keepIn K (.ref a.bc)=true
 hZ:bz K a.fg ["self","rows","state"] []
 fW:Fun K "back" "Machine.back" c4 a.bq a.iF
 IY:keepIn K (.ref a.bq)=true
 iI:bz K a.iF ["self","mask"] []
 jx:Fun K "_law_cell" "_law_cell" fI a.cR a.mU
 dm:keepIn K (.ref a.cR)=true
 cw:bz K a.mU ["_law_script","_law_k"] []
 dn:mg "_law_cell"=some (.ref a.cR)
 k9:Fun K "_law_mix" "_law_mix" gO a.dD a.qc
 dz:keepIn K (.ref a.dD)=true
 cN:bz K a.qc ["_law_cell_here","_law_k"] []
 dA:mg "_law_mix"=some (.ref a.dD)
 iu:Fun K "_law_masks" "_law_masks" d9 a.cn a.ku
 ie:keepIn K (.ref a.cn)=true
 eA:bz K a.ku ["_law_cell_here","_law_start","_law_many","_law_width","_law_digits"] []
 ig:mg "_law_masks"=some (.ref a.cn)
 fT:Fun K "_law_thinned" "_law_thinned" c2 a.bE a.iC
 vQ:keepIn K (.ref a.bE)=true
 iG:bz K a.iC ["_law_masks_here","_law_cell_here","_law_start","_law_way"] []
 vT:mg "_law_thinned"=some (.ref a.bE)
 fU:Fun K "_law_machine" "_law_machine" bC a.bF a.iD
 vR:keepIn K (.ref a.bF)=true
 iH:bz K a.iD ["_law_script","_law_start","_law_most"] []
 vU:mg "_law_machine"=some (.ref a.bF)
 k8:Fun K "_law_odd" "_law_odd" gN a.dC a.p9
 wW:keepIn K (.ref a.dC)=true
 kZ:bz K a.p9 ["_law_number"] []
 wZ:mg "_law_odd"=some (.ref a.dC)
 jy:Fun K "_law_bits" "_law_bits" fJ a.cS a.mV
 uy:keepIn K (.ref a.cS)=true
 jw:bz K a.mV ["_law_pairs","_law_state","_law_row"] []
 uB:mg "_law_bits"=some (.ref a.cS)
 ir:Fun K "_law_steps" "_law_steps" dj a.ck a.kr
 z8:keepIn K (.ref a.ck)=true
 kI:bz K a.kr ["_law_tables"] []
 Ag:mg "_law_steps"=some (.ref a.ck)
 de:Fun K "_law_least_turns" "_law_least_turns" bH a.aW a.fc
 nX:keepIn K (.ref a.aW)=true
 fi:bz K a.fc ["_law_steps_here"] []
 n6:mg "_law_least_turns"=some (.ref a.aW)
 cT:Fun K "_law_first_unlike" "_law_first_unlike" bB a.aP a.d5
 mP:keepIn K (.ref a.aP)=true
 d6:bz K a.d5 ["_law_steps_here"] []
 mQ:mg "_law_first_unlike"=some (.ref a.aP)
 dX:Fun K "_law_is_unlike" "_law_is_unlike" b6 a.bu a.gm
 se:keepIn K (.ref a.bu)=true
 gw:bz K a.gm ["_law_steps_here","_law_found","_law_one","_law_other","_law_turn"] []
 sf:mg "_law_is_unlike"=some (.ref a.bu)
 dE:Fun K "_law_come_right" "_law_come_right" bQ a.bg a.fM
 pW:keepIn K (.ref a.bg)=true
 fO:bz K a.fM ["_law_machine_here","_law_steps_here"] []
 p3:mg "_law_come_right"=some (.ref a.bg)
 df:Fun K "_law_apart_right" "_law_apart_right" bI a.aX a.ff
 nY:keepIn K (.ref a.aX)=true
 fj:bz K a.ff ["_law_machine_here","_law_unlike","_law_one","_law_other"] []
 n8:mg "_law_apart_right"=some (.ref a.aX)
 cB:Fun K "_law_brought_right" "_law_brought_right" bA a.aK a.dM
 lK:keepIn K (.ref a.aK)=true
 dN:bz K a.dM ["_law_machine_here","_law_steps_here","_law_one","_law_other","_law_turns"] []
 lL:mg "_law_brought_right"=some (.ref a.aK)
 KA:Fun K "law" "law" DQ a.An a.ML
 Qb:keepIn K (.ref a.An)=true
 O0:bz K a.ML ["_law_script"] []
 Qc:mg "law"=some (.ref a.An)
 MD:mg "Steps"=some (.ref a.aJ)
 fB:Cls K a.aJ
 P5:O7 K a.aJ
 M5:Mk K a.aJ a.aQ
 kc:Meth K a.aJ "lowered" a.a9
 BD:Meth K a.aJ "lay" a.bU
 t4:Meth K a.aJ "barring" a.bb
 c5:dH K a.aJ "by_top"
 gY:dH K a.aJ "free_places"
 IW:dH K a.aJ "inputs"
 JV:dH K a.aJ "nexts"
 ib:dH K a.aJ "null_masks"
 KZ:dH K a.aJ "outs"
 HL:mg "Machine"=some (.ref a.ao)
 aF:Cls K a.ao
 O8:O7 K a.ao
 II:Mk K a.ao a.aI
 gj:Meth K a.ao "stores" a.aT
 aO:Meth K a.ao "check_state" a.aB
 dO:Meth K a.ao "step" a.bp
 rM:Meth K a.ao "walked" a.aR
 t5:Meth K a.ao "after" a.bc
 vJ:Meth K a.ao "back" a.bq
 FL:dH K a.ao "by_top"
 zL:dH K a.ao "free_places"
 dW:dH K a.ao "inputs"
 cK:dH K a.ao "nexts"
 AW:dH K a.ao "null_masks"
 lZ:dH K a.ao "outs"
 Ai:mg "BadMask"=some (.ref a.bt)
 iJ:excIn K a.bt [.type "ValueError",.type "Exception",.type "BaseException",.type "object"] "ValueError.__new__"=true
 O9:XIsi K a.bt
 kU:mg "BadTable"=some (.ref a.bR)
 d7:excIn K a.bR [.type "ValueError",.type "Exception",.type "BaseException",.type "object"] "ValueError.__new__"=true
 M8:XIsi K a.bR
 Ka:mg "BadRow"=some (.ref a.dc)
 nq:excIn K a.dc [.type "ValueError",.type "Exception",.type "BaseException",.type "object"] "ValueError.__new__"=true
 Pc:XIsi K a.dc
 yy:mg "MOST_INPUTS"=some (.int 6 a.jd)
 BQ:mg "MOST_OUTS"=some (.int 6 a.l7)
 yx:mg "MOST_STORES"=some (.int 120 a.jc)
 Ah:mg "MOST_TURNS"=some (.int 40 a.jW)
 P1:mg "all"=none
 OB:mg "bool"=none
 d4:mg "enumerate"=none
 PZ:mg "int"=none
 fY:mg "isinstance"=none
 nN:mg "len"=none
 tZ:mg "list"=none
 d3:mg "range"=none
 JU:mg "sorted"=none
 BA:mg "tuple"=none
 Mp:mg "zip"=none
section
variable {P:Program} {w:World} {K:PySem.W.Frag} {mg:Str→Option Value} {base:Heap} {a:Ad}
theorem mq (T:Tx K mg a):FnOk P w K mg base CX0 1 a.cM a.iW ["thing"] (sP K):=by
 refine T.k7.ok Bf (fun vs H Q E h=>?_) (fun cdv A outer s H vs Q E hr h=>?_)
 ·obtain ⟨x,k,rfl,_⟩:=h;rfl
 ·obtain ⟨x,k,rfl,hk,q⟩:=h
  refine ⟨_,((aj (aM (zm (bD (kF (K:=K) rfl) (by rfl) T.fY PyProof.Rows.boot_isinstance (aa (pv 0) (aa (tH (v:= .ty "int") (by rfl) T.PZ PyProof.Rows.boot_int rfl) ai))) (CL (Om (bD (kF (K:=K) rfl) (by rfl) T.fY PyProof.Rows.boot_isinstance (aa (pv 0) (aa (tH (v:= .ty "bool") (by rfl) T.OB PyProof.Rows.boot_bool rfl) ai))))))))),aH (σ':=[some _]) rfl ?_⟩
  walk_at "l2"
  unfold F4 at q
  cases hc:subB k "int"
  ·rw [hc] at q
   walk_at "l2"
   exact q
  ·rw [hc] at q
   walk_at "l2"
   exact q
local macro_rules | `(tactic| walk_at "l2step") =>`(tactic| ((with_reducible refine' fN ?e ?_);(case e=>walk_at "l2kind")))
theorem pq (T:Tx K mg a):FnOk P w K mg base CX0 2 a.dQ a.og ["thing","width"] (A7 K):=by
 have i8:FnOk P w K mg base CX0 1 a.cM a.iW ["thing"] (sP K):=mq T
 refine T.oQ.ok DO (fun vs H Q E h=>?_) (fun cdv A outer s H vs Q E hr h=>?_)
 ·obtain ⟨x,k,w,rfl,_⟩:=h;rfl
 ·obtain ⟨x,k,wd,rfl,hk,q⟩:=h
  refine ⟨_,((aj (aM (zm (au i8 (hr.mono (by decide)) (by rfl) T.pZ T.pV T.i5 .nil aV (aa (pv 0) ai)) (zm (iy PX (pv 0) af (a8 _)) (CL (iy PV (j5 (K:=K) rfl PySem.F.plainAttrs_int PySem.F.slot_int_bit_length PySem.F.type_int_bit_length kb (pv 0)) (pv 1) (a8 _)))))))),aH (σ':=[some _,some _]) rfl ?_⟩
  walk_at "l2"
  cases x with
  | int i=>
    have hk:k="int":=hk
    subst hk
    walk_at "l2"
    have q:Q (.bl (decide (0≤i)&&decide (((Builtin.Int.intBits i:Nat):Int)≤wd))) H:=q
    cases hc:decide (0≤i)
    ·rw [hc] at q;walk_at "l2";exact q
    ·rw [hc] at q;walk_at "l2";exact q
  | bl b=>have hk:k="bool":=hk;subst hk;walk_at "l2";exact q
  | non=>have hk:k="NoneType":=hk;subst hk;walk_at "l2";exact q
  | str z=>have hk:k="str":=hk;subst hk;walk_at "l2";exact q
  | ref p=>
    rcases hk with ⟨rfl,_⟩ | ⟨rfl,_⟩ | ⟨rfl,_⟩<;>walk_at "l2"<;>exact q
  | _=>exact False.elim hk
local macro_rules | `(tactic| walk_at "l2step") =>`(tactic| ((with_reducible refine' i3 ?e ?_);(case e=>walk_at "l2kind")))
theorem GY (T:Tx K mg a):FnOk P w K mg base CX0 1 a.n9 a.Ia ["number"] Lz:=by
 refine T.C9.ok sZ (fun vs H Q E h=>?_) (fun cdv A outer s H vs Q E hr h=>?_)
 ·obtain ⟨m,rfl,_⟩:=h;rfl
 ·obtain ⟨m,rfl,hm,q⟩:=h
  refine ⟨_,((ae (aq (i:=1) sZ.nd rfl (by walk_at "o") (j5 (K:=K) rfl PySem.F.plainAttrs_int PySem.F.slot_int_bit_length PySem.F.type_int_bit_length kb (pv 0)))
   (ae (kR PassesOwn.never (aU nI (pv 1) af (a8 _)) (ae (aq (i:=2) sZ.nd rfl (by walk_at "o") (aw iB (aw cI (pv 1) af) af))
   (ae (aq (i:=0) sZ.nd rfl (by walk_at "o") (aw lX (aw GV (pv 0) (pv 2)) (aw jD (pv 0) (aw lY (aw gX af (pv 2)) af))))
   (aj (aq (i:=1) sZ.nd rfl (by walk_at "o") (pv 2))))))
   (aj (aM (iy iT (pv 0) af (a8 _))))))),aH (σ':=[some _,none,none]) rfl ?_⟩
  walk_at "l2"
  refine ⟨fun μ σ' H'=>∃ n hf,σ'=[some (nat n),some (nat μ),hf]∧H'=H∧n < 2 ^ μ∧μ≤1000∧M.od n=M.od m,⟨Builtin.Int.intBits (m:Int),m,none,rfl,rfl,Cb m,Cc hm,rfl⟩,?_⟩
  rintro μ σ' H' ⟨n,hf,rfl,rfl,hn,hw,hp⟩
  walk_at "l2"
  refine iteB (fun hc=>?_) (fun hc=>?_)
  ·have hc:=of_decide_eq_true hc
   have hlt:(μ + 1) / 2 < μ:=by omega
   refine ⟨fun σ2 H2=>∃ n2 hf,σ2=[some (nat n2),some (nat ((μ + 1) / 2)),hf]∧H2=H'∧n2 < 2 ^ ((μ + 1) / 2)∧M.od n2=M.od m,fun σ2 H2 ⟨n2,hf2,e1,e2,e3,e4⟩=>⟨(μ + 1) / 2,hlt,n2,hf2,e1,e2,e3,by omega,e4⟩,?_⟩
   walk_at "l2"
   refine ⟨(n>>>((μ + 1) / 2))^^^(n&&&(2 ^ ((μ + 1) / 2) - 1)),some (nat ((μ + 1) / 2)),?_,rfl,M.fold_lt μ _ n hn (by omega),?_⟩
   ·rw [HC,HS]
   ·rw [← hp]
    have f:=M.pb_fold μ ((μ + 1) / 2) n (by omega) hn (by omega)
    show M.pb 1000 _=M.pb 1000 _
    rw [M.pb_up (M.fold_lt μ _ n hn (by omega)) (by omega),f,← M.pb_up hn hw]
  ·have hc:=of_decide_eq_false hc
   have hn2:n < 2:=Nat.lt_of_lt_of_le hn (Nat.pow_le_pow_right (by decide) (show μ≤1 by omega))
   walk_at "l2"
   rw [show decide (V.int (n:Int)=V.int 0)= !M.od n from JN hn2,hp]
   exact q
theorem rp (T:Tx K mg a):FnOk P w K mg base CX0 2 a.bb a.g7 ["self","bit"] (NB a.aJ):=by
 have C8:=@GY P w K mg base a T
 refine T.fA.ok dR (fun vs H Q E h=>?_) (fun cdv A outer s H vs Q E hr h=>?_)
 ·obtain ⟨p,d,f,n,rows,b,rfl,_⟩:=h;rfl
 ·obtain ⟨p,d,f,n,rows,b,rfl,st,hb,hr1,h64,hnt,q⟩:=h
  have hu:=vS hr
  obtain ⟨dx,ho⟩:=st.ho
  obtain ⟨es,hd,ht,g,l⟩:=st.he
  have nd:(es.map fun e=>e.m.log2).Nodup:=by have:=g.nd;rw [List.map_map] at this;exact this
  refine ⟨_,((ae (aq (i:=2) dR.nd rfl (by walk_at "o") (aw gX af (pv 1)))
   (ae (cW PassesOwn.never rfl (dy (K:=K) rfl (bD (Fi rfl) (by rfl) T.JU PyProof.Rows.boot_sorted (aa (dJ (K:=K) rfl (pv 0) rfl) ai))) (aG (i:=3) dR.nd rfl (by walk_at "o")) (aj (c7 (gR (eJ (au C8 (hr.mono (by decide)) (by rfl) T.HH T.Hr T.AJ .nil aV (aa (aw jD (pv 2) (be (ax (K:=K) rfl) (tF hu (dJ (K:=K) rfl (pv 0) rfl) (pv 3) (fun _ _=>rfl)) af (fun _ _=>rfl))) ai)))) (aj (aq (i:=2) dR.nd rfl (by walk_at "o") (aw lX (pv 2) (aw gX af (pv 3))))) a7)))
   (aj (aM (pv 2)))))),aH (σ':=[some _,some _,none,none]) rfl ?_⟩
  walk_at "l2"
  refine dI ho T.fB T.c5 rfl ?_
  walk_at "l2"
  refine LM hd (J1 es) (by unfold nT;rw [List.length_map];omega) fun L ns H1 f1 s1 e1 hp hw=>?_
  obtain ⟨ts,rfl,up,mem⟩:=A6 hp hw nd
  rw [← Mo] at e1
  walk_at "l2"
  rw [shl1]
  refine gH (xs:=ts.map nat) (fun i σ H'=>∃ (m:Nat) (v:Option V),σ=[some (.ref p),some (nat b),some (nat m),v]∧H'=H1∧M.BarI (es.map fun e=>(e.m,e.p)) (ts.take i) b m) ⟨2 ^ b,none,rfl,rfl,M.BarI.zero _ b⟩ (fun i σ H' _ ⟨_,_,_,e,_⟩=>by rw [e];exact SqL.of e1) ?_ ?_
  ·rintro i y σ H' hy ⟨m,v,rfl,rfl,I⟩
   obtain ⟨t,hti,rfl⟩:=bZ hy
   obtain ⟨hi,eti⟩:=List.getElem?_eq_some_iff.mp hti
   rcases sU es (t:Int) with ⟨e,he,ez,ev⟩ | ⟨hno,_⟩
   ·have ez:e.m.log2=t:=by omega
    subst ez
    have hem:(e.m,e.p)∈es.map (fun e=>(e.m,e.p)):=List.mem_map.mpr ⟨e,he,rfl⟩
    have hm1:e.m < 2 ^ 1000:=M.span_lt hr1 (g.span hem)
    have ht1:e.m.log2 < 1000:=M.log2_under (g.nz _ hem) hm1
    have hte:=s1.get (ht e he)
    have hup:∀ t∈ts.take i,t < e.m.log2:=fun t hm=>by
     obtain ⟨j,hj,ej⟩:=List.mem_iff_getElem.mp hm
     rw [List.length_take] at hj
     rw [List.getElem_take] at ej
     have:=List.pairwise_iff_getElem.mp up j i (by omega) hi (by omega)
     rw [ej,eti] at this
     exact this
    have ntb:e.m.log2≠b:=hnt e.m (g.span hem) (g.nz _ hem)
    have nd':=g.nd
    walk_at "l2"
    refine dI (s1.get ho) T.fB T.c5 rfl ?_
    walk_at "l2"
    refine xG (s1.get hd) ev ?_
    walk_at "l2"
    rw [bS]
    refine ⟨m&&&e.m,rfl,Nat.lt_of_le_of_lt Nat.and_le_right hm1,?_⟩
    cases hod:M.od (m&&&e.m) with
    | true=>
      walk_at "l2"
      refine ⟨m^^^2 ^ e.m.log2,some (nat e.m.log2),by rw [shl1,c6],rfl,?_⟩
      rw [take_succ hti]
      exact I.flip (e:=(e.m,e.p)) nd' g.nz hem hod hup ntb ht1
    | false=>
      walk_at "l2"
      rw [take_succ hti]
      exact I.keep (e:=(e.m,e.p)) nd' hem hod
   ·obtain ⟨e,he,ez⟩:=(mem t).mp (List.mem_of_getElem? hti)
    exact absurd (by rw [ez]) (hno e he)
  ·rintro σ H' ⟨m,v,rfl,rfl,I⟩
   rw [List.length_map,List.take_length] at I
   walk_at "l2"
   refine q m H' s1 (I.done g fun e he=>?_)
   obtain ⟨e',he',rfl⟩:=List.mem_map.mp he
   exact (mem _).mpr ⟨e',he',rfl⟩
theorem wR (T:Tx K mg a):FnOk P w K mg base CX0 1 a.eZ a.uM ["mask"] LC:=by
 refine T.oU.ok DP (fun vs H Q E h=>?_) (fun cdv A outer s H vs Q E hr h=>?_)
 ·obtain ⟨m,rfl,_⟩:=h;rfl
 ·obtain ⟨m,rfl,hm,q⟩:=h
  have hb:=Cc hm
  refine ⟨_,((aj (aM (tG (osc:=ag gQ) (ON:=["mask"]) (N:=["place","mask"]) (n:=1) (fx:=[0]) rfl rfl rfl (by decide +kernel) (cc (by rfl) T.d3 (aa (j5 (K:=K) rfl PySem.F.plainAttrs_int PySem.F.slot_int_bit_length PySem.F.type_int_bit_length kb (pv 0)) ai)) (eM (by decide)) (fun _ _ _ _ _=>⟨(aG (i:=0) (show List.Nodup (["place","mask"]:List Str) from by decide +kernel) rfl (by walk_at "o")),(GL (aU iT (aw jD (aw GV (pv 1) (pv 0)) af) af (a8 _))),(pv 0)⟩))))),aH (σ':=[some _]) rfl ?_⟩
  walk_at "l2"
  intro D hD
  refine kX (fun i ys H'=>Cs (fun i ys=>ys=(M.pl i m).map nat) H D i ys H') (Cs.zero hD rfl) (fun i ys H' hi c=>?_) (fun ys H' c=>?_)
  ·walk_at "l2"
   rw [Kt]
   by_cases ht:m.testBit i=true
   ·rw [if_pos ht]
    walk_at "l2"
    refine Cs.put hD c.same c.at' c.len (by omega) ?_
    rw [c.pv,M.pl_next,if_pos ht,List.map_append,Int.zero_add]
    rfl
   ·rw [if_neg ht]
    walk_at "l2"
    refine Cs.skip c.same c.at' c.len ?_
    rw [c.pv,M.pl_next,if_neg ht,List.append_nil]
  ·have e:=c.pv
   rw [Int.toNat_natCast] at e
   refine q D H' hD c.same ?_
   rw [c.at',e,M.pl_up (Cb m) hb]
theorem wQ (T:Tx K mg a):FnOk P w K mg base CX0 1 a.eR a.uI ["places"] Gs:=by
 refine T.oO.ok kO (fun vs H Q E h=>?_) (fun cdv A outer s H vs Q E hr h=>?_)
 ·obtain ⟨r,ps,rfl,_⟩:=h;rfl
 ·obtain ⟨r,ps,rfl,hp,hl,q⟩:=h
  refine ⟨_,((ae (aq (i:=1) kO.nd rfl (by walk_at "o") af)
   (ae (cW PassesOwn.never rfl (dy (K:=K) rfl (pv 0)) (aG (i:=2) kO.nd rfl (by walk_at "o")) (aj (aq (i:=1) kO.nd rfl (by walk_at "o") (aw lX (pv 1) (aw gX af (pv 2))))))
   (aj (aM (pv 1)))))),aH (σ':=[some _,none,none]) rfl ?_⟩
  walk_at "l2"
  refine gH (xs:=ps.map nat) (fun i σ H'=>∃ v,σ=[some (.ref r),some (nat (M.xm (ps.take i))),v]∧H'=H) ⟨none,rfl,rfl⟩ (fun i σ H' _ ⟨_,_,e⟩=>by rw [e];exact SqL.of hp) ?_ ?_
  ·rintro i y σ H' hy ⟨v,rfl,rfl⟩
   obtain ⟨k,hk,rfl⟩:=bZ hy
   have:=hl k (List.mem_of_getElem? hk)
   walk_at "l2"
   refine ⟨some (nat k),?_,rfl⟩
   rw [shl1,c6,Ll hk]
  ·rintro σ H' ⟨v,rfl,rfl⟩
   rw [List.length_map,List.take_length]
   walk_at "l2"
   exact q
end
section
variable {P:Program} {w:World} {K:PySem.W.Frag} {mg:Str→Option Value} {base:Heap} {a:Ad}
local macro_rules | `(tactic| walk_at "l2step") =>`(tactic| first | ((with_reducible refine' fN ?e ?_);(case e=>walk_at "l2kind")) | ((with_reducible refine' i3 ?e ?_);(case e=>walk_at "l2kind")) | (with_reducible refine dS ?_) | (with_reducible refine gc ?_))
theorem Bo (T:Tx K mg a):FnOk P w K mg base CX0 1 a.dC a.p9 ["_law_number"] Jl:=by
 refine T.k8.ok je (fun vs H Q E h=>?_) (fun cdv A outer s H vs Q E hr h=>?_)
 ·obtain ⟨n,rfl,_⟩:=h;rfl
 ·obtain ⟨n,rfl,hn,q⟩:=h
  refine ⟨_,((ae (aq (i:=1) je.nd rfl (by walk_at "o") af)
   (ae (kR PassesOwn.never (aU nI (pv 0) af (a8 _)) (ae (aq (i:=1) je.nd rfl (by walk_at "o") (aw cI (pv 1) (aw c9 (pv 0) af)))
   (aj (aq (i:=0) je.nd rfl (by walk_at "o") (aw iB (pv 0) af)))))
   (aj (aM (aw c9 (pv 1) af)))))),aH (σ':=[some _,none]) rfl ?_⟩
  walk_at "l2"
  refine ⟨fun μ σ' H'=>∃ c:Nat,σ'=[some (nat μ),some (nat c)]∧H'=H∧μ < 2 ^ 1000∧(decide (c % 2=1)^^M.od μ)=M.od n,⟨n,0,rfl,rfl,hn,by simp⟩,?_⟩
  rintro μ σ' H' ⟨c,rfl,rfl,hμ,ho⟩
  walk_at "l2"
  by_cases h0:0 < μ
  ·refine ti (decide_eq_true (by omega)) ?_
   refine ⟨fun σ2 H2=>∃ c:Nat,σ2=[some (nat (μ / 2)),some (nat c)]∧H2=H'∧(decide (c % 2=1)^^M.od (μ / 2))=M.od n,fun σ2 H2 ⟨c,e1,e2,e3⟩=>⟨μ / 2,by omega,c,e1,e2,by omega,e3⟩,?_⟩
   walk_at "l2"
   rw [show Int.natAbs 2=2 from rfl]
   rw [← ho,Mj hμ,Nat.testBit_zero]
   rcases Nat.mod_two_eq_zero_or_one μ with h | h<;>rcases Nat.mod_two_eq_zero_or_one c with h' | h'
   ·rw [show (c + μ % 2) % 2=0 by omega,h,h'];cases M.od (μ / 2)<;>rfl
   ·rw [show (c + μ % 2) % 2=1 by omega,h,h'];cases M.od (μ / 2)<;>rfl
   ·rw [show (c + μ % 2) % 2=1 by omega,h,h'];cases M.od (μ / 2)<;>rfl
   ·rw [show (c + μ % 2) % 2=0 by omega,h,h'];cases M.od (μ / 2)<;>rfl
  ·have e0:μ=0:=by omega
   subst e0
   walk_at "l2"
   rw [M.od_zero,Bool.xor_false] at ho
   have e1:(c:Int) % 2=((M.bn (M.od n):Nat):Int):=by
    rw [← ho]
    unfold M.bn
    rcases Nat.mod_two_eq_zero_or_one c with h | h
    ·rw [h];simp;omega
    ·rw [h];simp;omega
   rw [e1]
   exact q
local macro_rules | `(tactic| walk_at "l2step") =>`(tactic| (with_reducible refine s_iRevL ?_))
theorem zC (T:Tx K mg a):FnOk P w K mg base CX0 2 a.cS a.mV ["_law_pairs","_law_state","_law_row"] (Jn K):=by
 have xt:=@Bo P w K mg base a T
 refine T.jy.ok fX (fun vs H Q E h=>?_) (fun cdv A outer s H vs Q E hr h=>?_)
 ·obtain ⟨r,ps,x,y,rfl,_⟩:=h;rfl
 ·obtain ⟨r,ps,x,y,rfl,hp,pt,hl,hx,hy,q⟩:=h
  refine ⟨_,((ae (aq (i:=3) fX.nd rfl (by walk_at "o") af)
   (ae (cW PassesOwn.never rfl (ph (K:=K) rfl (by rfl) T.d4 (pv 0)) (qz rfl (bK (aG (i:=4) fX.nd rfl (by walk_at "o")) (bK (aG (i:=5) fX.nd rfl (by walk_at "o")) ix))) (aj (aq (i:=3) fX.nd rfl (by walk_at "o") (aw cI (pv 3) (aw nH (aw c9 (aw cI (au xt (hr.mono (by decide)) (by rfl) T.wZ T.wW T.kZ .nil aV (aa (aw jD (be (ax (K:=K) rfl) (pv 5) af (fun _ _=>rfl)) (pv 1)) ai)) (au xt (hr.mono (by decide)) (by rfl) T.wZ T.wW T.kZ .nil aV (aa (aw jD (be (ax (K:=K) rfl) (pv 5) af (fun _ _=>rfl)) (pv 2)) ai))) af) (aw gX af (pv 4)))))))
   (aj (aM (pv 3)))))),aH (σ':=[some _,some _,some _,none,none,none]) rfl ?_⟩
  walk_at "l2"
  refine sQ (xs:=refs ps) (fun i σ H'=>∃ v1 v2,σ=[some (.ref r),some (nat x),some (nat y),some (nat (M.tr2 (prs (ps.take i)) x y)),v1,v2]∧Same H H') ⟨none,none,rfl,Same.refl _⟩ (fun i σ H' _ ⟨_,_,_,e⟩=>Same.seq e hp) ?_ ?_
  ·rintro i z σ H' p H7 hz ⟨v1,v2,rfl,s6⟩ fp s7 e7
   obtain ⟨pr,hpr,rfl⟩:=bZ hz
   have hi:=(List.getElem?_eq_some_iff.mp hpr).1
   have ht:=s7.get (s6.get (pt pr (List.mem_of_getElem? hpr)))
   walk_at "l2"
   rw [bS]
   refine ⟨pr.2.1&&&x,rfl,Nat.lt_of_le_of_lt Nat.and_le_right hx,?_⟩
   walk_at "l2"
   rw [bS]
   refine ⟨pr.2.2&&&y,rfl,Nat.lt_of_le_of_lt Nat.and_le_right hy,?_⟩
   walk_at "l2"
   rw [OZ,Int.one_mul,OY,← Int.natCast_add,← Ge x y hpr]
   exact ⟨_,_,rfl,s6.trans s7⟩
  ·rintro σ H' ⟨v1,v2,rfl,s6⟩
   rw [cb,List.take_length]
   walk_at "l2"
   exact q _ s6
end
section
variable {P:Program} {w:World} {K:PySem.W.Frag} {mg:Str→Option Value} {base:Heap} {a:Ad}
local macro_rules | `(tactic| walk_at "l2step") =>`(tactic| first | ((with_reducible refine' fN ?e ?_);(case e=>walk_at "l2kind")) | ((with_reducible refine' i3 ?e ?_);(case e=>walk_at "l2kind")) | (with_reducible refine dS ?_) | (with_reducible refine gc ?_))
local macro_rules | `(tactic| walk_at "l2step") =>`(tactic| first | (with_reducible refine NQ ?_))
theorem ya (T:Tx K mg a):FnOk P w K mg base CX0 3 a.ck a.kr ["_law_tables"] (Gu K):=by
 have vo:=@zC P w K mg base a T
 refine T.ir.ok gF (fun vs H Q E h=>?_) (fun cdv A outer s H vs Q E hr h=>?_)
 ·obtain ⟨t,n,o,m,nx,os,rfl,_⟩:=h;rfl
 ·obtain ⟨t,n,o,m,nx,os,rfl,tt,hl,hm,q⟩:=h
  have hu1:=j2 hr
  have e0:=tt.t
  have en:=tt.tab.n
  have eo:=tt.tab.o
  refine ⟨_,((ae (aq (i:=1) gF.nd rfl (by walk_at "o") (eh ai))
   (ae (cW PassesOwn.never rfl (cc (by rfl) T.d3 (aa (aw gX af (bD (cq (K:=K) rfl) (by rfl) T.nN PySem.boot_len (aa (be (ax (K:=K) rfl) (pv 0) af (fun _ _=>rfl)) ai))) ai)) (aG (i:=2) gF.nd rfl (by walk_at "o")) (ae (aq (i:=3) gF.nd rfl (by walk_at "o") (zk rfl (by rfl) (by rfl) T.tZ T.d3 (aw gX af (be (ax (K:=K) rfl) (pv 0) af (fun _ _=>rfl)))))
   (aj (bX (jA (K:=K) rfl PySem.F.plainAttrs_list PySem.F.slot_list_append PySem.F.type_list_append cL (pv 1) (aa (tG (osc:=ag dj) (ON:=["_law_tables","_law_found","_law_state","_law_rows_here"]) (N:=["_law_row","_law_tables","_law_state"]) (n:=1) (fx:=[0,2]) rfl rfl rfl (by decide +kernel) (dy (K:=K) rfl (pv 3)) (eM (by decide)) (fun _ _ _ _ _=>⟨(aG (i:=0) (show List.Nodup (["_law_row","_law_tables","_law_state"]:List Str) from by decide +kernel) rfl (by walk_at "o")),jg,(dF (aa (au vo (hr.mono (by decide)) (by rfl) T.uB T.uy T.jw .nil aV (aa (be (ax (K:=K) rfl) (pv 1) af (fun _ _=>rfl)) (aa (pv 2) (aa (pv 0) ai)))) (aa (au vo (hr.mono (by decide)) (by rfl) T.uB T.uy T.jw .nil aV (aa (be (ax (K:=K) rfl) (pv 1) af (fun _ _=>rfl)) (aa (pv 2) (aa (pv 0) ai)))) ai)))⟩)) ai))))))
   (aj (aM (pv 1)))))),aH (σ':=[some _,none,none,none]) rfl ?_⟩
  walk_at "l2"
  intro S H1 f1 s1 e1
  walk_at "l2"
  rw [cb]
  walk_at "l2"
  rw [shl1,Int.toNat_natCast]
  have hn16:2 ^ nx.length≤16:=Nat.pow_le_pow_right (n:=2) (by decide) hl
  have hm8:2 ^ m≤8:=Nat.pow_le_pow_right (n:=2) (by decide) hm
  clear e0 en eo
  have hN0:(0:Int)≤((2 ^ nx.length:Nat):Int):=Int.natCast_nonneg _
  have hN1:((2 ^ nx.length:Nat):Int)≤16:=by exact_mod_cast hn16
  refine ⟨Int.le_trans (by decide) hN0,Int.lt_of_le_of_lt hN1 (by decide),dP (lo:=0) (n:=2 ^ nx.length) (fun i σ H'=>∃ (Ds:List Addr) (v2 v3:Option V),σ=[some (.ref t),some (.ref S),v2,v3]∧Same H H'∧H' S=some (.lst (Ds.map V.ref))∧Ds.length=i∧∀ k D,Ds[k]? =some D→∃ qs,H' D=some (.lst (refs qs))∧Prt H' qs∧prs qs=stp (prs nx) (prs os) m k∧D≠S) ⟨[],none,none,rfl,s1,e1,rfl,by simp⟩ ?_ ?_⟩
  ·rintro i σ H2 hi ⟨Ds,v2,v3,rfl,s2,eS,lD,hD⟩
   have tt2:=tt.same s2
   have e0:=tt2.t
   rw [Int.zero_add]
   walk_at "l2"
   rw [shl1]
   refine ⟨2 ^ m,rfl,by omega,fun R H3 f3 s3 e3=>?_⟩
   walk_at "l2"
   intro E1 fE
   have s03:=s2.trans s3
   refine oj (xs:=(List.range (2 ^ m)).map fun k:Nat=>V.int (k:Int)) (fun j ys H'=>Cp (fun qs=>prs qs=(List.range j).map fun r=>(M.tr2 (prs os) i r,M.tr2 (prs nx) i r)) H3 E1 j ys H') (MN fE rfl) (fun j ys H' _ ⟨_,_,_,_,_,s',_⟩=>SqL.of (s'.get e3)) (fun j v ys H' hv c=>?_) (fun ys H4 c=>?_)
   ·obtain ⟨y,hy,rfl⟩:=bZ hv
    obtain ⟨hj,ey⟩:=List.getElem?_eq_some_iff.mp hy
    rw [List.length_range] at hj
    rw [List.getElem_range] at ey
    subst ey
    obtain ⟨qs,rfl,lq,pv,pt,s4,eE⟩:=c
    have s04:=s03.trans s4
    have tt4:=tt.same s04
    have e0:=tt4.t
    have hb:∀ {x:Nat},x≤16→x < 2 ^ 1000:=fun {x} h=>Nat.lt_of_le_of_lt h (by decide +kernel)
    walk_at "l2"
    refine ⟨o,os,i,j,rfl,SqL.of tt4.tab.o,tt4.tab.po,by have:=tt4.tab.lo;omega,hb (by omega),hb (by omega),fun H5 s5=>?_⟩
    have tt5:=tt4.same s5
    have e0:=tt5.t
    walk_at "l2"
    refine ⟨n,nx,i,j,rfl,SqL.of tt5.tab.n,tt5.tab.pn,by omega,hb (by omega),hb (by omega),fun H6 s6=>?_⟩
    walk_at "l2"
    intro tp H7 f7 s7 e7
    refine OV fE lq pt s4 eE ((s5.trans s6).trans s7) e7 (by omega) ?_
    unfold prs
    rw [List.map_append,List.range_succ,List.map_append]
    show prs qs++_=_
    rw [pv];rfl
   ·obtain ⟨qs,rfl,lq,pv,pt,s4,eE⟩:=c
    rw [List.length_map,List.length_range] at pv
    have eS4:=s4.get (s3.get eS)
    walk_at "l2"
    refine dU eS4 (by rw [List.length_map,lD];exact cU (by omega)) fun H5 u5=>?_
    have nES:E1≠S:=fun z=>by rw [z,s3.get eS] at fE;cases fE
    refine ⟨Ds++[E1],_,_,rfl,u5.same f1 (s03.trans s4),by rw [u5.at',List.map_append];rfl,by rw [List.length_append,lD];rfl,fun k D hk=>?_⟩
    have up:∀ {b:Addr} {u:HO},H4 b=some u→(∀ l,u= .lst l→b≠S)→H5 b=some u:=fun {b u} h1 h2=>u5.oth b u (fun z=>by subst z;rw [eS4] at h1;exact h2 _ (Option.some.inj h1).symm rfl) h1
    have ptu:∀ {qs:List Pr3},Prt H4 qs→Prt H5 qs:=fun {qs} h q hq=>up (h q hq) (fun l z=>by cases z)
    rw [List.getElem?_append] at hk
    split at hk
    ·obtain ⟨qs2,h1,h2,h3,h4⟩:=hD k D hk
     exact ⟨qs2,u5.oth _ _ h4 (s4.get (s3.get h1)),ptu ((h2.same s3).same s4),h3,h4⟩
    ·have hk0:k=Ds.length∧D=E1:=by
      rename_i hlt
      have:k - Ds.length=0:=by
       refine Classical.byContradiction fun z=>?_
       rw [List.getElem?_eq_none (by simp;omega)] at hk
       cases hk
      rw [this] at hk
      exact ⟨by omega,(Option.some.inj hk).symm⟩
     obtain ⟨rfl,rfl⟩:=hk0
     refine ⟨qs,u5.oth _ _ nES eE,ptu pt,?_,nES⟩
     rw [pv,lD];rfl
  ·rintro σ H2 ⟨Ds,v2,v3,rfl,s2,eS,lD,hD⟩
   walk_at "l2"
   exact q S Ds H2 f1 s2 ⟨eS,by rw [lD,bo],fun k D hk=>let ⟨qs,h1,h2,h3,_⟩:=hD k D hk;⟨qs,h1,h2,h3⟩⟩
end
section
variable {P:Program} {w:World} {K:PySem.W.Frag} {mg:Str→Option Value} {base:Heap} {a:Ad}
local macro_rules | `(tactic| walk_at "l2step") =>`(tactic| first | ((with_reducible refine' fN ?e ?_);(case e=>walk_at "l2kind")) | ((with_reducible refine' i3 ?e ?_);(case e=>walk_at "l2kind")) | (with_reducible refine dS ?_) | (with_reducible refine gc ?_))
local macro_rules | `(tactic| walk_at "l2step") =>`(tactic| first | (with_reducible refine NT ?_))
theorem pz (T:Tx K mg a):FnOk P w K mg base CX0 2 a.bu a.gm ["_law_steps_here","_law_found","_law_one","_law_other","_law_turn"] (DA K):=by
 refine T.dX.ok fF (fun vs H Q E h=>?_) (fun cdv A outer s H vs Q E hr h=>?_)
 ·obtain ⟨S,F,Ds,ps,os,m,x,y,t,es,rfl,_⟩:=h;rfl
 ·obtain ⟨S,F,Ds,ps,os,m,x,y,t,es,rfl,st,hx,hy,eF,fd,hn,q⟩:=h
  have hu1:=j2 hr
  have hu0:=wX hr
  have hu:=vS hr
  obtain ⟨Dx,qx,gx,_,eX,ptx,prx⟩:=st.row hx
  obtain ⟨Dy,qy,gy,_,eY,pty,pry⟩:=st.row hy
  have lx:=xv prx
  have ly:=xv pry
  have gx2:atI (Ds.map V.ref) (x:Int)=some (.ref Dx):=nc gx
  have gy2:atI (Ds.map V.ref) (y:Int)=some (.ref Dy):=nc gy
  have eS:=st.at_
  refine ⟨_,((ae (cW PassesOwn.never rfl (Oj (K:=K) rfl (by rfl) T.Mp (be (fQ (K:=K) rfl) (pv 0) (pv 2) (fun _ _=>rfl)) (be (fQ (K:=K) rfl) (pv 0) (pv 3) (fun _ _=>rfl))) (qz rfl (bK (aG (i:=5) fF.nd rfl (by walk_at "o")) (bK (aG (i:=6) fF.nd rfl (by walk_at "o")) ix))) (ae (c7 (PW.pt (qw (aU iT (pv 4) af (a8 _)) (j3 (aU Bm (be (ax (K:=K) rfl) (pv 5) af (fun _ _=>rfl)) (be (ax (K:=K) rfl) (pv 6) af (fun _ _=>rfl)) (a8 _))))) (aj (aM lj)) a7)
   (aj (c7 (PW.pt (qw (aU nI (pv 4) af (a8 _)) (j3 (aU iT (JM hu (pv 1) (dF (aa (be (ax (K:=K) rfl) (pv 5) af (fun _ _=>rfl)) (aa (be (ax (K:=K) rfl) (pv 6) af (fun _ _=>rfl)) ai))) (Me Ga af) ⟨rfl,rfl,rfl,rfl⟩) (aw lY (pv 4) af) (a8 _))))) (aj (aM lj)) a7))))
   (aj (aM lj)))),aH (σ':=[some _,some _,some _,some _,some _,none,none]) rfl ?_⟩
  walk_at "l2"
  refine ⟨Dx,Dy,refs qx,refs qy,rfl,rfl,SqL.of eX,SqL.of eY,by rw [cb,cb,lx,ly],?_⟩
  refine MG (xs:=refs qx) (ys:=refs qy) (by rw [cb,cb,lx,ly]) (fun j σ H'=>∃ (v5 v6:Option V),σ=[some (.ref S),some (.ref F),some (nat x),some (nat y),some (nat t),v5,v6]∧Same H H'∧(0 < j→¬ M.fu ps os t (x^^^y))) ⟨none,none,rfl,Same.refl _,fun z=>absurd z (Nat.lt_irrefl _)⟩ (fun j σ H' _ ⟨_,_,_,s',_⟩=>⟨SqL.of (s'.get eX),SqL.of (s'.get eY)⟩) ?_ ?_
  ·rintro j v1 v2 σ H' p1 H2 h1 h2 ⟨v5,v6,rfl,s1,_⟩ fp sp ep
   obtain ⟨q1,hq1,rfl⟩:=bZ h1
   obtain ⟨q2,hq2,rfl⟩:=bZ h2
   obtain ⟨hj,ev1⟩:=Cy prx hq1
   obtain ⟨_,ev2⟩:=Cy pry hq2
   have s2:=s1.trans sp
   have et1:=s2.get (ptx q1 (List.mem_of_getElem? hq1))
   have et2:=s2.get (pty q2 (List.mem_of_getElem? hq2))
   rw [ev1] at et1
   rw [ev2] at et2
   walk_at "l2"
   cases t with
   | zero=>
     refine ti (decide_eq_true rfl) ?_
     walk_at "l2"
     have key:=Ng os x y j
     by_cases hc:M.tr2 os x j=M.tr2 os y j
     ·refine o6 (by rw [Bool.not_eq_false',decide_eq_true_eq];exact congrArg nat hc) ?_
      walk_at "l2"
      exact ⟨_,_,rfl,s2,fun _ z=>M.fu_zero.mp z (key.mp hc)⟩
     ·refine ti (by rw [Bool.not_eq_true',decide_eq_false_iff_not];exact fun z=>hc (cJ z)) ?_
      walk_at "l2"
      exact q true _ s2 ⟨fun _=>M.fu_zero.mpr fun z=>hc (key.mpr z),fun _=>rfl⟩
   | succ t=>
     refine o6 (decide_eq_false fun z=>by have:=V.int.inj z;omega) ?_
     walk_at "l2"
     refine ti (decide_eq_true (by omega)) ?_
     walk_at "l2"
     refine PM ?_
     walk_at "l2"
     refine ⟨.inr ⟨_,.inl (s2.get eF)⟩,?_⟩
     walk_at "l2"
     intro tp H3 f3 s3 e3
     walk_at "l2"
     refine ⟨_,DGet.t (k:=kp (M.tr2 ps x j,M.tr2 ps y j)) (s3.get (s2.get eF)) e3,?_⟩
     have key:=fd.next hx hy hn j
     have s23:=s2.trans s3
     by_cases hc:M.fu ps os (t + 1) (x^^^y)
     ·rw [km qH fd.nd (key.mp hc)]
      walk_at "l2"
      refine ti (decide_eq_true (congrArg V.int (by omega))) ?_
      walk_at "l2"
      exact q true _ s23 ⟨fun _=>hc,fun _=>rfl⟩
     ·have hv:∃ z:Int,(valV (kg kp es) (kp (M.tr2 ps x j,M.tr2 ps y j))).getD (V.int (-1))=V.int z∧z≠((t + 1:Nat):Int) - 1:=by
       by_cases h:∃ i,((M.tr2 ps x j,M.tr2 ps y j),i)∈es
       ·obtain ⟨i,hi⟩:=h
        rw [km qH fd.nd hi]
        refine ⟨i,rfl,fun z=>hc (key.mpr ?_)⟩
        have:i=t:=by omega
        rw [← this];exact hi
       ·rw [mO qH fun i hi=>h ⟨i,hi⟩]
        exact ⟨-1,rfl,by omega⟩
      obtain ⟨z,hz,hz2⟩:=hv
      rw [hz]
      walk_at "l2"
      refine o6 (decide_eq_false fun q=>hz2 (V.int.inj q)) ?_
      walk_at "l2"
      exact ⟨_,_,rfl,s23,fun _=>hc⟩
  ·rintro σ H' ⟨v5,v6,rfl,s1,hf⟩
   walk_at "l2"
   refine q false H' s1 ⟨fun z=>(by cases z),fun z=>absurd z (hf ?_)⟩
   rw [cb,lx];exact Nat.two_pow_pos _
theorem lC (T:Tx K mg a):FnOk P w K mg base CX0 3 a.aP a.d5 ["_law_steps_here"] (Gx K):=by
 have sI:=@pz P w K mg base a T
 refine T.cT.ok aA (fun vs H Q E h=>?_) (fun cdv A outer s H vs Q E hr h=>?_)
 ·obtain ⟨S,Ds,ps,os,m,rfl,_⟩:=h;rfl
 ·obtain ⟨S,Ds,ps,os,m,rfl,st,hl,hm,q⟩:=h
  have hu1:=j2 hr
  have hu0:=wX hr
  have hu:=vS hr
  have hn16:2 ^ ps.length≤16:=Nat.pow_le_pow_right (n:=2) (by decide) hl
  have lD:=st.len
  refine ⟨_,((ae (aq (i:=1) aA.nd rfl (by walk_at "o") JL)
   (ae (aq (i:=2) aA.nd rfl (by walk_at "o") (bD (cq (K:=K) rfl) (by rfl) T.nN PySem.boot_len (aa (pv 0) ai)))
   (ae (aq (i:=3) aA.nd rfl (by walk_at "o") af)
   (ae (aq (i:=4) aA.nd rfl (by walk_at "o") lj)
   (ae (kR PassesOwn.never (eJ (pv 4)) (ae (aq (i:=4) aA.nd rfl (by walk_at "o") lj)
   (ae (aq (i:=5) aA.nd rfl (by walk_at "o") (eh ai))
   (ae (cW PassesOwn.never rfl (cc (by rfl) T.d3 (aa (pv 2) ai)) (aG (i:=6) aA.nd rfl (by walk_at "o")) (aj (cW PassesOwn.never rfl (cc (by rfl) T.d3 (aa (pv 2) ai)) (aG (i:=7) aA.nd rfl (by walk_at "o")) (aj (c7 (PW.pt (qw (wI (tI hu (dF (aa (pv 6) (aa (pv 7) ai))) (pv 1))) (j3 (eJ (au sI (hr.mono (by decide)) (by rfl) T.sf T.se T.gw .nil aV (aa (pv 0) (aa (pv 1) (aa (pv 6) (aa (pv 7) (aa (pv 3) ai)))))))))) (aj (bX (jA (K:=K) rfl PySem.F.plainAttrs_list PySem.F.slot_list_append PySem.F.type_list_append cL (pv 5) (aa (dF (aa (pv 6) (aa (pv 7) ai))) ai)))) a7)))))
   (ae (cW PassesOwn.never rfl (dy (K:=K) rfl (pv 5)) (aG (i:=8) aA.nd rfl (by walk_at "o")) (ae (xK hu (pv 1) (pv 8) (pv 3) rfl)
   (aj (aq (i:=4) aA.nd rfl (by walk_at "o") lj))))
   (aj (aq (i:=3) aA.nd rfl (by walk_at "o") (aw cI (pv 3) af))))))))
   (aj (aM (pv 1))))))))),aH (σ':=[some _,none,none,none,none,none,none,none,none]) rfl ?_⟩
  walk_at "l2"
  intro F f1
  obtain ⟨H1,hH1⟩:∃ H1,H1=upd H F (.dT []):=⟨_,rfl⟩
  rw [← hH1]
  have s1:Same H H1:=by rw [hH1];exact fP f1
  have e1:H1 F=some (.dT []):=by rw [hH1];exact bf
  clear hH1
  have eS:=(st.same s1).at_
  walk_at "l2"
  rw [List.length_map,lD]
  refine ⟨fun μ σ' H'=>∃ (t:Nat) (mo:Bool) (es:List ((Nat×Nat)×Nat)) (v5 v6 v7 v8:Option V),μ=(if mo then 17 - t else 0)∧σ'=[some (.ref S),some (.ref F),some (nat (2 ^ ps.length)),some (nat t),some (.bl mo),v5,v6,v7,v8]∧Same H H'∧H' F=some (.dT (kg kp es))∧FuD es ps os t∧(mo=true→t≤16)∧(mo=false→∃ t',t=t' + 1∧∀ x y,x < 2 ^ ps.length→y < 2 ^ ps.length→¬ M.fu ps os t' (x^^^y)),
   ⟨17,0,true,[],none,none,none,none,rfl,rfl,s1,e1,FuD.zero,fun _=>by decide,fun z=>(by cases z)⟩,?_⟩
  clear eS e1 s1
  rintro μ σ' H2 ⟨t,mo,es,v5,v6,v7,v8,rfl,rfl,s2,eF,fd,ht,hmo⟩
  walk_at "l2"
  cases mo with
  | false=>
    obtain ⟨t',rfl,hno⟩:=hmo rfl
    walk_at "l2"
    exact q F H2 _ f1 s2 eF (fd.ufn hno)
  | true=>
    have ht16:=ht rfl
    walk_at "l2"
    have hN0:(0:Int)≤((2 ^ ps.length:Nat):Int):=Int.natCast_nonneg _
    have hN1:((2 ^ ps.length:Nat):Int)≤16:=by exact_mod_cast hn16
    have hNa: -2 ^ 62≤((2 ^ ps.length:Nat):Int):=Int.le_trans (by decide) hN0
    have hNb:((2 ^ ps.length:Nat):Int) < 2 ^ 62:=Int.lt_of_le_of_lt hN1 (by decide)
    refine ⟨fun σ2 H9=>∃ (mo:Bool) (es:List ((Nat×Nat)×Nat)) (v5 v6 v7 v8:Option V),σ2=[some (.ref S),some (.ref F),some (nat (2 ^ ps.length)),some (nat (t + 1)),some (.bl mo),v5,v6,v7,v8]∧Same H H9∧H9 F=some (.dT (kg kp es))∧FuD es ps os (t + 1)∧(mo=true→t + 1≤16)∧(mo=false→∀ x y,x < 2 ^ ps.length→y < 2 ^ ps.length→¬ M.fu ps os t (x^^^y)),fun σ2 H9 ⟨mo,es,v5,v6,v7,v8,e1,s1,e2,fd2,h1,h2⟩=>⟨_,?_,t + 1,mo,es,v5,v6,v7,v8,rfl,e1,s1,e2,fd2,h1,fun z=>⟨t,rfl,h2 z⟩⟩,?_⟩
    ·rw [if_pos rfl]
     cases mo with
     | true=>rw [if_pos rfl];omega
     | false=>rw [if_neg (by decide)];omega
    ·walk_at "l2"
     intro Fr H3 f3 s3 e3
     have fFr:H Fr=none:=s2.free f3
     have nFF:Fr≠F:=fun z=>by rw [z,eF] at f3;cases f3
     have eF3:=s3.get eF
     have s23:=s2.trans s3
     clear s2 s3 eF f3 hmo ht
     walk_at "l2"
     rw [Int.toNat_natCast]
     refine dP (lo:=0) (n:=2 ^ ps.length) (fun i σ H'=>∃ (qs:List Pr3) (v6 v7:Option V),σ=[some (.ref S),some (.ref F),some (nat (2 ^ ps.length)),some (nat t),some (.bl false),some (.ref Fr),v6,v7,v8]∧Same H H'∧H' F=some (.dT (kg kp es))∧H' Fr=some (.lst (refs qs))∧Prt H' qs∧(prs qs).Nodup∧∀ x y,(x,y)∈prs qs↔M.fu ps os t (x^^^y)∧y < 2 ^ ps.length∧x < i) ⟨[],v6,v7,rfl,s23,eF3,e3,fun _ h=>(by cases h),List.nodup_nil,fun x y=>⟨fun h=>(by cases h),fun h=>absurd h.2.2 (Nat.not_lt_zero _)⟩⟩ ?_ ?_
     ·rintro i σ H4 hi ⟨qs,w6,w7,rfl,s4,eF4,eR4,pt4,nd4,iff4⟩
      rw [Int.zero_add]
      walk_at "l2"
      rw [Int.toNat_natCast]
      refine dP (lo:=0) (n:=2 ^ ps.length) (fun j σ H'=>∃ (qs:List Pr3) (v7:Option V),σ=[some (.ref S),some (.ref F),some (nat (2 ^ ps.length)),some (nat t),some (.bl false),some (.ref Fr),some (nat i),v7,v8]∧Same H H'∧H' F=some (.dT (kg kp es))∧H' Fr=some (.lst (refs qs))∧Prt H' qs∧(prs qs).Nodup∧∀ x y,(x,y)∈prs qs↔M.fu ps os t (x^^^y)∧y < 2 ^ ps.length∧(x < i∨(x=i∧y < j))) ⟨qs,w7,rfl,s4,eF4,eR4,pt4,nd4,fun x y=>by rw [iff4];simp⟩ ?_ ?_
      ·rintro j σ H5 hj ⟨qs,x7,rfl,s5,eF5,eR5,pt5,nd5,iff5⟩
       rw [Int.zero_add]
       walk_at "l2"
       intro tp H6 f6 s6 e6
       have s56:=s5.trans s6
       have eF6:=s6.get eF5
       have eR6:=s6.get eR5
       have pt6:=pt5.same s6
       have stay:¬ M.fu ps os t (i^^^j)→∀ x y,(x,y)∈prs qs↔M.fu ps os t (x^^^y)∧y < 2 ^ ps.length∧(x < i∨(x=i∧y < j + 1)):=fun hno x y=>by
        rw [iff5]
        constructor
        ·rintro ⟨h1,h2,h3⟩;exact ⟨h1,h2,by omega⟩
        ·rintro ⟨h1,h2,h3⟩
         refine ⟨h1,h2,?_⟩
         rcases h3 with h3 | ⟨h3,h4⟩
         ·exact .inl h3
         ·by_cases z:y=j
          ·subst z;subst h3;exact absurd h1 hno
          ·exact .inr ⟨h3,by omega⟩
       walk_at "l2"
       refine LZ (k:=kp (i,j)) eF6 e6 ?_
       by_cases hin:∃ k,((i,j),k)∈es
       ·obtain ⟨k,hk⟩:=hin
        rw [km qH fd.nd hk]
        have hno:¬ M.fu ps os t (i^^^j):=fun z=>by
         have h1:=(fd.iff i j k).mp hk
         have:=M.fu_uniq h1.1 z
         omega
        walk_at "l2"
        exact ⟨qs,_,rfl,s56,eF6,eR6,pt6,nd5,stay hno⟩
       ·rw [mO qH fun k hk=>hin ⟨k,hk⟩]
        walk_at "l2"
        refine ⟨S,F,Ds,ps,os,m,i,j,t,es,rfl,st.same s56,hi,hj,eF6,fd,fun k hk=>hin ⟨k,hk⟩,fun b H7 s7 hb=>?_⟩
        have s57:=s56.trans s7
        have eR7:=s7.get eR6
        cases b with
        | false=>
          walk_at "l2"
          exact ⟨qs,_,rfl,s57,s7.get eF6,eR7,pt6.same s7,nd5,stay fun z=>by cases hb.mpr z⟩
        | true=>
          have hf:=hb.mp rfl
          walk_at "l2"
          intro tq H8 f8 s8 e8
          have eR8:=s8.get eR7
          have lqs:qs.length≤256:=by
           have:=tY (N:=2 ^ ps.length) nd5 fun p hp=>by
            have:=(iff5 p.1 p.2).mp hp
            exact ⟨by omega,this.2.1⟩
           have h2:2 ^ ps.length * 2 ^ ps.length≤16 * 16:=Nat.mul_le_mul hn16 hn16
           rw [bo] at this
           omega
          walk_at "l2"
          refine dU eR8 (by rw [cb];exact cU (by omega)) fun H9 u9=>?_
          have pt8:=(pt6.same s7).same s8
          have tupne:∀ {b:Addr} {l:List V},H8 b=some (.tup l)→b≠Fr:=fun {b l} h z=>by rw [z,eR8] at h;cases h
          refine ⟨qs++[(tq,i,j)],_,rfl,u9.same fFr (s57.trans s8),u9.oth F _ (Ne.symm nFF) (s8.get (s7.get eF6)),by rw [u9.at'];unfold refs;rw [List.map_append];rfl,fun p hp=>?_,?_,fun x y=>?_⟩
          ·rcases List.mem_append.mp hp with h | h
           ·exact u9.oth _ _ (tupne (pt8 p h)) (pt8 p h)
           ·rw [List.mem_singleton.mp h];exact u9.oth _ _ (tupne e8) e8
          ·unfold prs
           rw [List.map_append,List.nodup_append]
           refine ⟨nd5,by simp,fun p hp p2 hp2 z=>?_⟩
           have e2:p2=(i,j):=by simpa using hp2
           rw [z,e2] at hp
           have:=((iff5 i j).mp hp).2.2
           omega
          ·have e:prs (qs++[(tq,i,j)])=prs qs++[(i,j)]:=by unfold prs;rw [List.map_append];rfl
           rw [e,List.mem_append,iff5,List.mem_singleton,Prod.mk.injEq]
           constructor
           ·rintro (⟨h1,h2,h3⟩ | ⟨rfl,rfl⟩)
            ·exact ⟨h1,h2,by omega⟩
            ·exact ⟨hf,hj,.inr ⟨rfl,Nat.lt_succ_self _⟩⟩
           ·rintro ⟨h1,h2,h3⟩
            by_cases z:x=i∧y=j
            ·exact .inr z
            ·exact .inl ⟨h1,h2,by omega⟩
      ·rintro σ H5 ⟨qs,x7,rfl,s5,eF5,eR5,pt5,nd5,iff5⟩
       walk_at "l2"
       refine ⟨qs,_,_,rfl,s5,eF5,eR5,pt5,nd5,fun x y=>?_⟩
       rw [iff5]
       constructor
       ·rintro ⟨h1,h2,h3⟩;exact ⟨h1,h2,by omega⟩
       ·rintro ⟨h1,h2,h3⟩;exact ⟨h1,h2,by omega⟩
     ·rintro σ H4 ⟨qs,w6,w7,rfl,s4,eF4,eR4,pt4,nd4,iff4⟩
      have hall:∀ x y,(x,y)∈prs qs↔M.fu ps os t (x^^^y)∧x < 2 ^ ps.length∧y < 2 ^ ps.length:=fun x y=>by rw [iff4];exact and_congr_right fun _=>And.comm
      have fd2:=fd.more nd4 hall
      have hln:=fd2.len
      have h256:2 ^ ps.length * 2 ^ ps.length≤16 * 16:=Nat.mul_le_mul hn16 hn16
      rw [List.length_append,List.length_map,bo] at hln
      walk_at "l2"
      refine gH (xs:=refs qs) (fun k σ H'=>∃ (v8:Option V),σ=[some (.ref S),some (.ref F),some (nat (2 ^ ps.length)),some (nat t),some (.bl (decide (0 < k))),some (.ref Fr),w6,w7,v8]∧Same H H'∧H' F=some (.dT (kg kp (es++((prs qs).take k).map fun p=>(p,t))))∧H' Fr=some (.lst (refs qs))∧Prt H' qs) ⟨v8,rfl,s4,by simpa using eF4,eR4,pt4⟩ (fun k σ H' _ ⟨_,_,_,_,e,_⟩=>SqL.of e) ?_ ?_
      ·rintro k v σ H5 hv ⟨x8,rfl,s5,eF5,eR5,pt5⟩
       obtain ⟨qq,hq,rfl⟩:=bZ hv
       have et:=pt5 qq (List.mem_of_getElem? hq)
       have hk:=(List.getElem?_eq_some_iff.mp hq).1
       have hp:(prs qs)[k]? =some qq.2:=by unfold prs;rw [List.getElem?_map,hq];rfl
       have htk:(prs qs).take (k + 1)=(prs qs).take k++[qq.2]:=by rw [List.take_add_one,hp];rfl
       have hab:∀ j,(qq.2,j)∉es++((prs qs).take k).map fun p=>(p,t):=fun j hj=>by
        have nd:=fd2.nd
        rw [List.map_append,List.map_map,show ((fun x:(Nat×Nat)×Nat=>x.1) ∘ fun p=>(p,t))=id from rfl,List.map_id] at nd
        rw [← List.take_append_drop k (prs qs),← List.append_assoc,List.nodup_append] at nd
        have hd:qq.2∈(prs qs).drop k:=List.mem_of_getElem? (i:=0) (by rw [List.getElem?_drop];exact hp)
        refine nd.2.2 qq.2 ?_ qq.2 hd rfl
        rcases List.mem_append.mp hj with h | h
        ·exact List.mem_append_left _ (List.mem_map.mpr ⟨_,h,rfl⟩)
        ·obtain ⟨p,hp2,e⟩:=List.mem_map.mp h
         cases e
         exact List.mem_append_right _ hp2
       walk_at "l2"
       refine LY (k:=kp qq.2) eF5 et (by rw [K1,List.length_append,List.length_map,List.length_take,bo];exact cU (by omega)) fun H6 u6=>?_
       walk_at "l2"
       refine ⟨u6.same f1 s5,by rw [u6.at',K0 qH hab,htk,List.map_append,List.append_assoc];rfl,u6.oth Fr _ nFF eR5,fun p hp=>u6.oth _ _ (fun z=>?_) (pt5 p hp)⟩
       have:=pt5 p hp
       rw [z,eF5] at this
       cases this
      ·rintro σ H5 ⟨x8,rfl,s5,eF5,eR5,pt5⟩
       rw [cb,List.take_of_length_le (by rw [bo];exact Nat.le_refl _)] at eF5
       rw [cb]
       walk_at "l2"
       refine ⟨_,_,_,_,_,_,rfl,s5,eF5,fd2,fun z=>?_,fun z x y hx hy hf=>?_⟩
       ·have h0:0 < qs.length:=of_decide_eq_true z
        obtain ⟨p,hp⟩:∃ p,p∈prs qs:=⟨_,List.getElem_mem (l:=prs qs) (n:=0) (by rw [bo];exact h0)⟩
        have h1:=(hall p.1 p.2).mp hp
        have:=M.fu_lt (M.xor_lt_pow h1.2.1 h1.2.2) h1.1
        omega
       ·have h0:¬ 0 < qs.length:=of_decide_eq_false z
        have h1:=(hall x y).mpr ⟨hf,hx,hy⟩
        have h2:=List.length_pos_of_mem h1
        rw [bo] at h2
        exact h0 h2
end
section
variable {P:Program} {w:World} {K:PySem.W.Frag} {mg:Str→Option Value} {base:Heap} {a:Ad}
local macro_rules | `(tactic| walk_at "l2step") =>`(tactic| first | ((with_reducible refine' fN ?e ?_);(case e=>walk_at "l2kind")) | ((with_reducible refine' i3 ?e ?_);(case e=>walk_at "l2kind")) | (with_reducible refine dS ?_) | (with_reducible refine gc ?_))
theorem Ed (T:Tx K mg a):FnOk P w K mg base CX0 3 a.eU a.uJ ["thing","stores","inputs"] Jh:=by
 have i9:FnOk P w K mg base CX0 2 a.dQ a.og ["thing","width"] (A7 K):=pq T
 refine T.oP.ok DN (fun vs H Q E h=>?_) (fun cdv A outer s H vs Q E hr h=>?_)
 ·obtain ⟨t,x,y,n,m,rfl,_⟩:=h;rfl
 ·obtain ⟨t,x,y,n,m,rfl,ht,hx,hy,q⟩:=h
  refine ⟨_,((ae (c7 (PW.pt (xJ (gR (eJ (bD (kF (K:=K) rfl) (by rfl) T.fY PyProof.Rows.boot_isinstance (aa (pv 0) (aa (tH (v:= .ty "tuple") (by rfl) T.BA PyProof.Rows.boot_tuple rfl) ai))))) (tj (aU Bm (bD (cq (K:=K) rfl) (by rfl) T.nN PySem.boot_len (aa (pv 0) ai)) af (a8 _))))) (aj (aM lj)) a7)
   (aj (aM (zm (au i9 (hr.mono (by decide)) (by rfl) T.n0 T.nW T.i6 .nil aV (aa (be (ax (K:=K) rfl) (pv 0) af (fun _ _=>rfl)) (aa (pv 1) ai))) (CL (au i9 (hr.mono (by decide)) (by rfl) T.n0 T.nW T.i6 .nil aV (aa (be (ax (K:=K) rfl) (pv 0) af (fun _ _=>rfl)) (aa (pv 2) ai))))))))),aH (σ':=[some _,some _,some _]) rfl ?_⟩
  walk_at "l2"
  refine ti (bG hx) ?_
  walk_at "l2"
  rw [bG hy]
  exact q
theorem vB (T:Tx K mg a):FnOk P w K mg base CX0 4 a.bN a.jr ["inputs","nexts","outs"] LB:=by
 have i8:FnOk P w K mg base CX0 1 a.cM a.iW ["thing"] (sP K):=mq T
 have IL:=@Ed P w K mg base a T
 refine T.gK.ok vx (fun vs H Q E h=>?_) (fun cdv A outer s H vs Q E hr h=>?_)
 ·obtain ⟨n,o,m,nx,os,rfl,_⟩:=h;rfl
 ·obtain ⟨n,o,m,nx,os,rfl,t,q⟩:=h
  refine ⟨_,((ae (c7 (PW.pt (xJ (gR (eJ (au i8 (hr.mono (by decide)) (by rfl) T.pZ T.pV T.i5 .nil aV (aa (pv 0) ai)))) (xJ (aU Mh (pv 0) af (a8 _)) (tj (aU nI (pv 0) (xV (v:= .int 6) (by rfl) T.yy ⟨_,rfl⟩) (a8 _)))))) (aj (ji PySem.F.excBase_ValueError T.d7 thr0 rfl (by rfl) T.kU (aa dG ai))) a7)
   (ae (c7 (PW.pt (xJ (gR (eJ (bD (kF (K:=K) rfl) (by rfl) T.fY PyProof.Rows.boot_isinstance (aa (pv 1) (aa (tH (v:= .ty "list") (by rfl) T.tZ PyProof.Rows.boot_list rfl) ai))))) (tj (aU nI (bD (cq (K:=K) rfl) (by rfl) T.nN PySem.boot_len (aa (pv 1) ai)) (xV (v:= .int 120) (by rfl) T.yx ⟨_,rfl⟩) (a8 _))))) (aj (ji PySem.F.excBase_ValueError T.d7 thr0 rfl (by rfl) T.kU (aa dG ai))) a7)
   (ae (c7 (PW.pt (xJ (gR (eJ (bD (kF (K:=K) rfl) (by rfl) T.fY PyProof.Rows.boot_isinstance (aa (pv 2) (aa (tH (v:= .ty "list") (by rfl) T.tZ PyProof.Rows.boot_list rfl) ai))))) (tj (aU nI (bD (cq (K:=K) rfl) (by rfl) T.nN PySem.boot_len (aa (pv 2) ai)) (xV (v:= .int 6) (by rfl) T.BQ ⟨_,rfl⟩) (a8 _))))) (aj (ji PySem.F.excBase_ValueError T.d7 thr0 rfl (by rfl) T.kU (aa dG ai))) a7)
   (aj (c7 (gR (eJ (bD (Ie (K:=K) rfl rfl) (by rfl) T.P1 PyProof.Rows.boot_all (aa (tG (osc:=ag cQ) (ON:=["inputs","nexts","outs"]) (N:=["pair","nexts","inputs"]) (n:=1) (fx:=[1,0]) rfl rfl rfl (by decide +kernel) (dy (K:=K) rfl (aw GW (pv 1) (pv 2))) (eM (by decide)) (fun _ _ _ _ _=>⟨(aG (i:=0) (show List.Nodup (["pair","nexts","inputs"]:List Str) from by decide +kernel) rfl (by walk_at "o")),jg,(au IL (hr.mono (by decide)) (by rfl) T.HG T.Hq T.va .nil aV (aa (pv 0) (aa (bD (cq (K:=K) rfl) (by rfl) T.nN PySem.boot_len (aa (pv 1) ai)) (aa (pv 2) ai))))⟩)) ai)))) (aj (ji PySem.F.excBase_ValueError T.d7 thr0 rfl (by rfl) T.kU (aa dG ai))) a7)))))),aH (σ':=[some _,some _,some _]) rfl ?_⟩
  walk_at "l2"
  have m6:=t.m6
  have ln:=t.ln
  have lo:=t.lo
  have hn:=t.n
  have ho:=t.o
  have en:(refs nx).length=nx.length:=List.length_map ..
  have eo:(refs os).length=os.length:=List.length_map ..
  refine o6 (decide_eq_false (by omega)) ?_
  walk_at "l2"
  refine o6 (decide_eq_false (by omega)) ?_
  walk_at "l2"
  refine o6 (decide_eq_false (by omega)) ?_
  walk_at "l2"
  refine L4 hn ho (by rw [sizeLine_eq];omega) fun p H2 f2 s2 e2=>?_
  walk_at "l2"
  intro D hD
  refine oj (xs:=refs nx++refs os) (fun i ys H'=>Cs (fun i ys=>ys=(List.replicate i true).map V.bl) H2 D i ys H') (Cs.zero hD rfl) (fun i ys H' _ c=>SqL.of (c.same.get e2)) (fun i x ys H' hx c=>?_) (fun ys H' c=>?_)
  ·have hx:(refs (nx++os))[i]? =some x:=by unfold refs at hx ⊢;rw [List.map_append];exact hx
   obtain ⟨pr,hpr,rfl⟩:=bZ hx
   have hm:=List.mem_of_getElem? hpr
   have hi:=(List.getElem?_eq_some_iff.mp hpr).1
   rw [List.length_append] at hi
   have hb:=t.bn pr hm
   have ht:H pr.1=some (.tup [nat pr.2.1,nat pr.2.2]):=(List.mem_append.mp hm).elim (t.pn pr) (t.po pr)
   have hn':=c.same.get (s2.get hn)
   walk_at "l2"
   rw [en]
   refine ⟨pr.1,pr.2.1,pr.2.2,nx.length,m,rfl,c.same.get (s2.get ht),hb.1,hb.2,?_⟩
   refine Cs.put hD c.same c.at' c.len (by omega) ?_
   rw [c.pv,List.replicate_succ',List.map_append];rfl
  ·have ec:=c.at'
   rw [c.pv] at ec
   walk_at "l2"
   refine N7 (SqL.of ec) ?_
   walk_at "l2"
   refine o6 (by rw [List.all_replicate];simp) ?_
   walk_at "l2"
   exact q H' (s2.trans c.same)
theorem my (T:Tx K mg a):FnOk P w K mg base CX0 5 a.aI a.fh ["self","inputs","nexts","outs"] (Ly a.ao):=by
 have yY:=@vB P w K mg base a T
 refine T.dh.ok mh (fun vs H Q E h=>?_) (fun cdv A outer s H vs Q E hr h=>?_)
 ·obtain ⟨x,dx,n,o,m,nx,os,rfl,_⟩:=h;rfl
 ·obtain ⟨x,dx,n,o,m,nx,os,rfl,hx,t,q⟩:=h
  refine ⟨_,((ae (bX (au yY (hr.mono (by decide)) (by rfl) T.yw T.yu T.jv .nil aV (aa (pv 1) (aa (pv 2) (aa (pv 3) ai)))))
   (ae (o7 (K:=K) rfl (pv 0) (pv 1) rfl)
   (ae (o7 (K:=K) rfl (pv 0) (nE (uW (K:=K) rfl) (by rfl) T.BA PyProof.Rows.boot_tuple (aa (pv 2) ai)) rfl)
   (aj (o7 (K:=K) rfl (pv 0) (nE (uW (K:=K) rfl) (by rfl) T.BA PyProof.Rows.boot_tuple (aa (pv 3) ai)) rfl)))))),aH (σ':=[some _,some _,some _,some _]) rfl ?_⟩
  walk_at "l2"
  refine ⟨n,o,m,nx,os,rfl,t,fun H1 s1=>?_⟩
  have nnx:=iU t.n hx (by simp)
  have onx:=iU t.o hx (by simp)
  walk_at "l2"
  refine o5 (s1.get hx) T.aF T.dW (by decide) rfl fun H2 u2=>?_
  have hn2:=u2.oth _ _ nnx (s1.get t.n)
  have ho2:=u2.oth _ _ onx (s1.get t.o)
  walk_at "l2"
  intro tn H3 f3 s3 e3
  have tnx:tn≠x:=fun z=>by rw [z,u2.at'] at f3;cases f3
  walk_at "l2"
  refine o5 (s3.get u2.at') T.aF T.cK (by show 1 < 1000;decide) rfl fun H4 u4=>?_
  have ho4:=u4.oth _ _ onx (s3.get ho2)
  have e4:=u4.oth _ _ tnx e3
  walk_at "l2"
  intro to H5 f5 s5 e5
  have tox:to≠x:=fun z=>by rw [z,u4.at'] at f5;cases f5
  walk_at "l2"
  refine o5 (s5.get u4.at') T.aF T.lZ (by show 2 < 1000;decide) rfl fun H6 u6=>?_
  have k:∀ b ob,b≠x→H b=some ob→H6 b=some ob:=fun b ob nb e=>u6.oth _ _ nb (s5.get (u4.oth _ _ nb (s3.get (u2.oth _ _ nb (s1.get e)))))
  walk_at "l2"
  refine q H6 k ⟨⟨dx,tn,to,u6.at',u6.oth _ _ tnx (s5.get e4),u6.oth _ _ tox e5⟩,fun pr h=>k _ _ ?_ (t.pn pr h),fun pr h=>k _ _ ?_ (t.po pr h)⟩
  ·exact iU (t.pn pr h) hx (by simp)
  ·exact iU (t.po pr h) hx (by simp)
theorem fL (T:Tx K mg a):FnOk P w K mg base CX0 1 a.aT a.gv ["self"] (Gq a.ao):=by
 refine T.d0.ok o4 (fun vs H Q E h=>?_) (fun cdv A outer s H vs Q E hr h=>?_)
 ·obtain ⟨p,m,nx,os,rfl,_⟩:=h;rfl
 ·obtain ⟨p,m,nx,os,rfl,ma,q⟩:=h
  obtain ⟨dx,tn,to,ho,hn,ho2⟩:=ma.ho
  refine ⟨_,((aj (aM (bD (cq (K:=K) rfl) (by rfl) T.nN PySem.boot_len (aa (dJ (K:=K) rfl (pv 0) rfl) ai))))),aH (σ':=[some _]) rfl ?_⟩
  walk_at "l2"
  refine dI ho T.aF T.cK rfl ?_
  walk_at "l2"
  unfold refs
  rw [List.length_map]
  exact q
theorem GX (T:Tx K mg a):FnOk P w K mg base CX0 2 a.gI a.yD ["pair","state","row"] Jp:=by
 have C8:=@GY P w K mg base a T
 refine T.sR.ok GE (fun vs H Q E h=>?_) (fun cdv A outer s H vs Q E hr h=>?_)
 ·obtain ⟨t,x1,x2,x,r,rfl,_⟩:=h;rfl
 ·obtain ⟨t,a1,b1,x,r,rfl,ht,ha,hb,q⟩:=h
  refine ⟨_,((aj (aM (iy Bm (au C8 (hr.mono (by decide)) (by rfl) T.HH T.Hr T.AJ .nil aV (aa (aw jD (be (ax (K:=K) rfl) (pv 0) af (fun _ _=>rfl)) (pv 1)) ai)) (au C8 (hr.mono (by decide)) (by rfl) T.HH T.Hr T.AJ .nil aV (aa (aw jD (be (ax (K:=K) rfl) (pv 0) af (fun _ _=>rfl)) (pv 2)) ai)) (a8 _))))),aH (σ':=[some _,some _,some _]) rfl ?_⟩
  walk_at "l2"
  rw [bS]
  refine ⟨a1&&&x,rfl,Nat.lt_of_le_of_lt Nat.and_le_left ha,?_⟩
  walk_at "l2"
  rw [bS]
  refine ⟨b1&&&r,rfl,Nat.lt_of_le_of_lt Nat.and_le_left hb,?_⟩
  walk_at "l2"
  rw [FY]
  exact q
theorem x6 (T:Tx K mg a):FnOk P w K mg base CX0 3 a.cj a.kq ["pairs","state","row"] (Lx K):=by
 have Kz:=@GX P w K mg base a T
 have vm:=@wQ P w K mg base a T
 refine T.iq.ok xE (fun vs H Q E h=>?_) (fun cdv A outer s H vs Q E hr h=>?_)
 ·obtain ⟨r,ps,x,y,rfl,_⟩:=h;rfl
 ·obtain ⟨r,ps,x,y,rfl,hp,pt,hl,hb,q⟩:=h
  refine ⟨_,((aj (aM (au vm (hr.mono (by decide)) (by rfl) T.Ae T.z6 T.oC .nil aV (aa (tG (osc:=ag di) (ON:=["pairs","state","row"]) (N:=["place","pair","state","row"]) (n:=2) (fx:=[1,2]) rfl rfl rfl (by decide +kernel) (JK (K:=K) rfl (by rfl) T.d4 (pv 0)) (HE (kT (eM (by decide)) (kT (eM (by decide)) BP))) (fun _ _ _ _ _=>⟨(Bl (K:=K) (n:=2) rfl rfl (bK (aG (i:=0) (show List.Nodup (["place","pair","state","row"]:List Str) from by decide +kernel) rfl (by walk_at "o")) (bK (aG (i:=1) (show List.Nodup (["place","pair","state","row"]:List Str) from by decide +kernel) rfl (by walk_at "o")) ix))),(GL (eJ (au Kz (hr.mono (by decide)) (by rfl) T.J9 T.J5 T.yN .nil aV (aa (pv 1) (aa (pv 2) (aa (pv 3) ai)))))),(pv 0)⟩)) ai))))),aH (σ':=[some _,some _,some _]) rfl ?_⟩
  walk_at "l2"
  refine .inr ⟨⟨_,hp⟩,?_⟩
  intro D hD
  refine Fg (xs:=refs ps) (fun i ys H'=>Cs (fun i ys=>∃ qs:List Nat,ys=qs.map nat∧(∀ p∈qs,p < i)∧M.xm qs=M.tr2 (prs (ps.take i)) x y) H D i ys H') (Cs.zero hD ⟨[],rfl,fun _ h=>absurd h (by simp),rfl⟩) (fun i ys H' _ c=>Same.tup c.same hp) (fun i v ys H' p H7 hv c fp s7 e7=>?_) (fun ys H' c=>?_)
  ·obtain ⟨pr,hpr,rfl⟩:=bZ hv
   obtain ⟨qs,eqs,hq,exm⟩:=c.pv
   have hm:=List.mem_of_getElem? hpr
   have hi:=(List.getElem?_eq_some_iff.mp hpr).1
   have ht:=s7.get (c.same.get (pt pr hm))
   have ts:=Jd x y hpr
   walk_at "l2"
   refine ⟨pr.1,pr.2.1,pr.2.2,x,y,rfl,ht,(hb pr hm).1,(hb pr hm).2,?_⟩
   cases hod:(M.od (pr.2.1&&&x)^^M.od (pr.2.2&&&y)) with
   | true=>
     rw [hod,if_pos rfl] at ts
     walk_at "l2"
     refine Cs.put hD (c.same.trans s7) (s7.get c.at') c.len (by omega) ⟨qs++[i],?_,fun k hk=>?_,?_⟩
     ·rw [eqs,List.map_append];rfl
     ·rcases List.mem_append.mp hk with h | h
      ·have:=hq k h;omega
      ·rw [List.mem_singleton.mp h];omega
     ·rw [M.xm_snoc,exm,ts]
   | false=>
     rw [hod,if_neg Bool.false_ne_true,Nat.xor_zero] at ts
     walk_at "l2"
     refine Cs.skip (c.same.trans s7) (s7.get c.at') c.len ⟨qs,eqs,fun k hk=>?_,?_⟩
     ·have:=hq k hk;omega
     ·rw [exm,ts]
  ·obtain ⟨qs,eqs,hq,exm⟩:=c.pv
   rw [cb] at hq exm
   have ec:=c.at'
   rw [eqs] at ec
   walk_at "l2"
   refine ⟨D,qs,rfl,ec,fun k hk=>by have:=hq k hk;omega,?_⟩
   rw [exm,List.take_length]
   exact q _ c.same
theorem bj (T:Tx K mg a):FnOk P w K mg base (CX1 P w) 3 a.aB a.dq ["self","state"] (NA K a.ao a.bt):=by
 have i9:=@pq P w K mg base a T
 refine T.cu.okX jM (fun vs H Q E h=>?_) (fun cdv A outer s H vs Q E hr h=>?_)
 ·obtain ⟨p,m,nx,os,x,k,rfl,_⟩:=h;rfl
 ·obtain ⟨p,m,nx,os,x,k,rfl,ma,hk,qQ,qE⟩:=h
  obtain ⟨dx,tn,to,ho,hn,ho2⟩:=ma.ho
  refine ⟨_,((aj (c7 (gR (eJ (au i9 (hr.mono (by decide)) (by rfl) T.n0 T.nW T.i6 .nil aV (aa (pv 1) (aa (bD (cq (K:=K) rfl) (by rfl) T.nN PySem.boot_len (aa (dJ (K:=K) rfl (pv 0) rfl) ai)) ai))))) (aj (ji PySem.F.excBase_ValueError T.iJ cP rfl (by rfl) T.Ai (aa dG ai))) a7))),aH (σ':=[some _,some _]) rfl ?_⟩
  walk_at "l2"
  refine dI ho T.aF T.cK rfl ?_
  walk_at "l2"
  rw [cb]
  cases hm:gi x (nx.length:Int) with
  | false=>
    walk_at "l2"
    exact ⟨by rw [sizeLine_eq];decide,qE hm⟩
  | true=>
    walk_at "l2"
    exact qQ hm
theorem eK (T:Tx K mg a):FnOk P w K mg base (CX1 P w) 4 a.bp a.iE ["self","state","row"] (Ji K a.ao a.bt):=by
 have i9:=@pq P w K mg base a T
 have av:=@bj P w K mg base a T
 have qO:=@x6 P w K mg base a T
 refine T.fV.okX tf (fun vs H Q E h=>?_) (fun cdv A outer s H vs Q E hr h=>?_)
 ·obtain ⟨p,m,nx,os,x,y,kx,ky,rfl,_⟩:=h;rfl
 ·obtain ⟨p,m,nx,os,x,y,kx,ky,rfl,ma,g,hkx,hky,qQ,qE⟩:=h
  obtain ⟨dx,tn,to,ho,hn,ho2⟩:=ma.ho
  have ln:=g.ln
  have lo:=g.lo
  refine ⟨_,((ae (bX (cA (pv 0) T.aF T.aO av (hr.mono (by decide)) T.aE .nil cP (aa (pv 1) ai)))
   (ae (c7 (gR (eJ (au i9 (hr.mono (by decide)) (by rfl) T.n0 T.nW T.i6 .nil aV (aa (pv 2) (aa (dJ (K:=K) rfl (pv 0) rfl) ai))))) (aj (ji PySem.F.excBase_ValueError T.iJ cP rfl (by rfl) T.Ai (aa dG ai))) a7)
   (aj (aM (dF (aa (au qO (hr.mono (by decide)) (by rfl) T.qJ T.qI T.ik .nil aV (aa (dJ (K:=K) rfl (pv 0) rfl) (aa (pv 1) (aa (pv 2) ai)))) (aa (au qO (hr.mono (by decide)) (by rfl) T.qJ T.qI T.ik .nil aV (aa (dJ (K:=K) rfl (pv 0) rfl) (aa (pv 1) (aa (pv 2) ai)))) ai)))))))),aH (σ':=[some _,some _,some _]) rfl ?_⟩
  walk_at "l2"
  refine bL ho rfl ?_
  walk_at "l2"
  refine ⟨p,m,nx,os,x,kx,rfl,ma,hkx,fun hm=>?_,fun hm=>qE (.inl hm)⟩
  walk_at "l2"
  refine dI ho T.aF T.dW rfl ?_
  walk_at "l2"
  cases hm2:gi y (m:Int) with
  | false=>
    walk_at "l2"
    exact ⟨by rw [sizeLine_eq];decide,qE (.inr hm2)⟩
  | true=>
    obtain ⟨a1,rfl,ha⟩:=gG hm
    obtain ⟨b1,rfl,hb⟩:=gG hm2
    walk_at "l2"
    refine dI ho T.aF T.lZ rfl ?_
    walk_at "l2"
    refine ⟨to,os,a1,b1,rfl,SqT.of ho2,ma.hs,by omega,g.b2,fun H2 s2=>?_⟩
    walk_at "l2"
    refine dI (s2.get ho) T.aF T.cK rfl ?_
    walk_at "l2"
    refine ⟨tn,nx,a1,b1,rfl,SqT.of (s2.get hn),ma.hn.same s2,by omega,g.b1,fun H3 s3=>?_⟩
    walk_at "l2"
    intro t H4 f4 s4 e4
    exact qQ a1 b1 rfl rfl ha hb t H4 (s2.trans (s3.trans s4)) e4
theorem pB (T:Tx K mg a):FnOk P w K mg base (CX1 P w) 5 a.aR a.gu ["self","rows","state"] (Jf K a.ao a.bt):=by
 have av:=@bj P w K mg base a T
 have bO:=@eK P w K mg base a T
 refine T.dZ.okX cC (fun vs H Q E h=>?_) (fun cdv A outer s H vs Q E hr h=>?_)
 ·obtain ⟨p,rr,m,nx,os,x,xs,rfl,_⟩:=h;rfl
 ·obtain ⟨p,rr,m,nx,os,x,xs,rfl,ak,qQ,qE⟩:=h
  obtain ⟨dx,tn,to,ho,hn,ho2⟩:=ak.ma.ho
  obtain ⟨kx,hkx⟩:=ak.kx
  have ln:=ak.ln
  have hsq:=ak.sq
  refine ⟨_,((ae (bX (cA (pv 0) T.aF T.aO av (hr.mono (by decide)) T.aE .nil cP (aa (pv 2) ai)))
   (ae (aq (i:=3) cC.nd rfl (by walk_at "o") (eh ai))
   (ae (cW (jj ⟨rfl,rfl⟩) rfl (dy (K:=K) rfl (pv 1)) (aG (i:=4) cC.nd rfl (by walk_at "o")) (ae (aq (i:=5) cC.nd rfl (by walk_at "o") (cA (pv 0) T.aF T.dO bO (hr.mono (by decide)) T.cx .nil cP (aa (pv 2) (aa (pv 4) ai))))
   (ae (bX (jA (K:=K) rfl PySem.F.plainAttrs_list PySem.F.slot_list_append PySem.F.type_list_append cL (pv 3) (aa (be (ax (K:=K) rfl) (pv 5) af (fun _ _=>rfl)) ai)))
   (aj (aq (i:=2) cC.nd rfl (by walk_at "o") (be (ax (K:=K) rfl) (pv 5) af (fun _ _=>rfl)))))))
   (aj (aM (dF (aa (pv 3) (aa (pv 2) ai))))))))),aH (σ':=[some _,some _,some _,none,none,none]) rfl ?_⟩
  walk_at "l2"
  refine bL ho rfl ?_
  walk_at "l2"
  refine ⟨p,m,nx,os,x,kx,rfl,ak.ma,hkx,fun hm=>?_,fun hm=>qE (.inl hm) H (Same.refl _)⟩
  obtain ⟨a0,rfl,ha0⟩:=gG hm
  walk_at "l2"
  intro D H1 f1 s1 e1
  walk_at "l2"
  refine gH (xs:=xs) (fun i σ H'=>∃ (rs:List Nat) (v v':Option V),σ=[some (.ref p),some (.ref rr),some (nat (M.wst (prs nx) a0 rs)),some (.ref D),v,v']∧Same H H'∧H' D=some (.lst ((M.wan (prs nx) (prs os) a0 rs).map nat))∧xs.take i=rs.map nat∧∀ r∈rs,r < 2 ^ m) ⟨[],none,none,rfl,s1,e1,rfl,fun _ h=>absurd h (by simp)⟩ (fun i σ H' _ ⟨_,_,_,_,e,_⟩=>Same.seq e ak.sq) ?_ ?_
  ·rintro i y σ H' hy ⟨rs,v,v',rfl,s6,e6,et,hr6⟩
   obtain ⟨ky,hky⟩:=ak.ks y (List.mem_of_getElem? hy)
   have hi:=(List.getElem?_eq_some_iff.mp hy).1
   have lrs:rs.length=i:=by have:=congrArg List.length et;rw [List.length_take,List.length_map] at this;omega
   have hwst:M.wst (prs nx) a0 rs < 2 ^ nx.length:=by have:=M.wst_lt (ps:=prs nx) (rs:=rs) (x:=a0) (by rw [bo];exact ha0);rwa [bo] at this
   walk_at "l2"
   refine bL (s6.get ho) rfl ?_
   walk_at "l2"
   refine ⟨p,m,nx,os,nat (M.wst (prs nx) a0 rs),y,"int",ky,rfl,ak.ma.same s6,ak.g,rfl,Hl hky s6,fun a1 b1 ea eb ha hb t H7 s7 e7=>?_,fun hbad=>?_⟩
   ·have ea:=cJ ea
    subst ea
    subst eb
    walk_at "l2"
    refine dU (s7.get e6) (by rw [List.length_map,M.wan_len,sizeLine_eq];omega) fun H8 u8=>?_
    have e8:=u8.oth _ _ (iU e7 (s7.get e6) (by simp)) e7
    walk_at "l2"
    refine ⟨rs++[b1],?_⟩
    rw [M.wst_snoc,M.wan_snoc,List.map_append]
    refine ⟨_,_,rfl,fun b o e=>u8.oth _ _ (ar e f1) (s7.get (s6.get e)),u8.at',?_,fun r hr'=>?_⟩
    ·rw [List.take_add_one,et,hy,List.map_append];rfl
    ·rcases List.mem_append.mp hr' with h | h
     ·exact hr6 r h
     ·rw [List.mem_singleton.mp h];exact hb
   ·rcases hbad with h | h
    ·rw [bG hwst] at h;cases h
    ·exact qE (.inr ⟨y,List.mem_of_getElem? hy,h⟩) H' s6
  ·rintro σ H' ⟨rs,v,v',rfl,s6,e6,et,hr6⟩
   rw [List.take_length] at et
   walk_at "l2"
   intro t H7 f7 s7 e7
   exact qQ a0 rs ⟨rfl,et,ha0,hr6⟩ t D H7 f1 (s6.trans s7) e7 (s7.get e6)
theorem rq (T:Tx K mg a):FnOk P w K mg base (CX1 P w) 6 a.bc a.fg ["self","rows","state"] (Js K a.ao a.bt):=by
 have sL:=@pB P w K mg base a T
 refine T.du.okX rf (fun vs H Q E h=>?_) (fun cdv A outer s H vs Q E hr h=>?_)
 ·obtain ⟨p,rr,m,nx,os,x,xs,rfl,_⟩:=h;rfl
 ·obtain ⟨p,rr,m,nx,os,x,xs,rfl,ak,qQ,qE⟩:=h
  obtain ⟨dx,tn,to,ho,hn,ho2⟩:=ak.ma.ho
  refine ⟨_,((aj (aM (be (ax (K:=K) rfl) (cA (pv 0) T.aF T.rM sL (hr.mono (by decide)) T.gC .nil cP (aa (pv 1) (aa (pv 2) ai))) af (fun _ _=>rfl))))),aH (σ':=[some _,some _,some _]) rfl ?_⟩
  walk_at "l2"
  refine bL ho rfl ?_
  walk_at "l2"
  refine ⟨p,rr,m,nx,os,x,xs,rfl,ak,fun a1 rs g t D H2 fD s2 et eD=>?_,qE⟩
  walk_at "l2"
  exact qQ a1 rs g H2 s2
theorem tN (T:Tx K mg a):FnOk P w K mg base (CX1 P w) 4 a.bq a.iF ["self","mask"] (Jj K a.ao a.bt):=by
 have av:=@bj P w K mg base a T
 have vn:=@wR P w K mg base a T
 refine T.fW.okX cD (fun vs H Q E h=>?_) (fun cdv A outer s H vs Q E hr h=>?_)
 ·obtain ⟨p,m,nx,os,x,k,rfl,_⟩:=h;rfl
 ·obtain ⟨p,m,nx,os,x,k,rfl,ma,g,hk,qQ,qE⟩:=h
  obtain ⟨dx,tn,to,ho,hn,ho2⟩:=ma.ho
  have ln:=g.ln
  refine ⟨_,((ae (bX (cA (pv 0) T.aF T.aO av (hr.mono (by decide)) T.aE .nil cP (aa (pv 1) ai)))
   (ae (aq (i:=2) cD.nd rfl (by walk_at "o") af)
   (ae (aq (i:=3) cD.nd rfl (by walk_at "o") af)
   (ae (cW (jj ⟨rfl,rfl⟩) rfl (dy (K:=K) rfl (au vn (hr.mono (by decide)) (by rfl) T.Af T.z7 T.oE .nil aV (aa (pv 1) ai))) (aG (i:=4) cD.nd rfl (by walk_at "o")) (ae (aq (i:=2) cD.nd rfl (by walk_at "o") (aw lX (pv 2) (be (ax (K:=K) rfl) (be (ax (K:=K) rfl) (dJ (K:=K) rfl (pv 0) rfl) (pv 4) (fun _ _=>rfl)) af (fun _ _=>rfl))))
   (aj (aq (i:=3) cD.nd rfl (by walk_at "o") (aw lX (pv 3) (be (ax (K:=K) rfl) (be (ax (K:=K) rfl) (dJ (K:=K) rfl (pv 0) rfl) (pv 4) (fun _ _=>rfl)) af (fun _ _=>rfl)))))))
   (aj (aM (dF (aa (pv 2) (aa (pv 3) ai)))))))))),aH (σ':=[some _,some _,none,none,none]) rfl ?_⟩
  walk_at "l2"
  refine bL ho rfl ?_
  walk_at "l2"
  refine ⟨p,m,nx,os,x,k,rfl,ma,hk,fun hm=>?_,qE⟩
  obtain ⟨a0,rfl,ha0⟩:=gG hm
  walk_at "l2"
  refine ⟨a0,rfl,eg ha0 (by omega),fun D H1 f1 s1 e1=>?_⟩
  rw [M.pl_up ha0 (by omega)] at e1
  generalize hA:nx.map (fun q=>q.2.1)=As at qQ
  generalize hB:nx.map (fun q=>q.2.2)=Bs at qQ
  have lA:As.length=nx.length:=by rw [← hA,List.length_map]
  have lB:Bs.length=nx.length:=by rw [← hB,List.length_map]
  walk_at "l2"
  refine gH (xs:=(M.pl nx.length a0).map nat) (fun i σ H'=>∃ v,σ=[some (.ref p),some (nat a0),some (nat (((M.pl nx.length a0).take i).foldl (fun a p=>a^^^As.getD p 0) 0)),some (nat (((M.pl nx.length a0).take i).foldl (fun a p=>a^^^Bs.getD p 0) 0)),v]∧H'=H1) ⟨none,rfl,rfl⟩ (fun i σ H' _ ⟨_,_,e⟩=>by rw [e];exact SqL.of e1) ?_ ?_
  ·rintro i y σ H' hy ⟨v,rfl,rfl⟩
   obtain ⟨k,hkk,rfl⟩:=bZ hy
   have hkn:k < nx.length:=List.mem_range.mp (List.mem_filter.mp (List.mem_of_getElem? hkk)).1
   obtain ⟨pr,hpr⟩:∃ pr,nx[k]? =some pr:=⟨_,List.getElem?_eq_getElem hkn⟩
   have hat:atI (refs nx) (k:Int)=some (.ref pr.1):=nc (by unfold refs;rw [List.getElem?_map,hpr];rfl)
   have ht:=s1.get (ma.hn pr (List.mem_of_getElem? hpr))
   have hn1:=s1.get hn
   have gA:As.getD k 0=pr.2.1:=by rw [← hA,List.getD_eq_getElem?_getD,List.getElem?_map,hpr];rfl
   have gB:Bs.getD k 0=pr.2.2:=by rw [← hB,List.getD_eq_getElem?_getD,List.getElem?_map,hpr];rfl
   walk_at "l2"
   refine dI (s1.get ho) T.aF T.cK rfl ?_
   walk_at "l2"
   refine dI (s1.get ho) T.aF T.cK rfl ?_
   walk_at "l2"
   refine ⟨some (nat k),?_,rfl⟩
   rw [c6,c6,take_succ hkk,List.foldl_append,List.foldl_append]
   show _=[_,_,some (nat (_^^^As.getD k 0)),some (nat (_^^^Bs.getD k 0)),_]
   rw [gA,gB]
  ·rintro σ H' ⟨v,rfl,rfl⟩
   rw [List.length_map,List.take_length,M.sm_places As a0 (by rw [lA];exact ha0) nx.length (by omega),M.sm_places Bs a0 (by rw [lB];exact ha0) nx.length (by omega)]
   walk_at "l2"
   intro t H2 f2 s2 e2
   exact qQ a0 rfl ha0 t H2 (s1.trans s2) e2
end
section
variable {P:Program} {w:World} {K:PySem.W.Frag} {mg:Str→Option Value} {base:Heap} {a:Ad}
theorem jE (T:Tx K mg a):FnOk P w K mg base CX0 1 a.a9 a.g6 ["self","mask"] (Ny a.aJ):=by
 refine T.fw.ok cV (fun vs H Q E h=>?_) (fun cdv A outer s H vs Q E hr h=>?_)
 ·obtain ⟨p,d,f,n,rows,x,rfl,_⟩:=h;rfl
 ·obtain ⟨p,d,f,n,rows,x,rfl,st,q⟩:=h
  have hu:=vS hr
  obtain ⟨dx,ho⟩:=st.ho
  obtain ⟨es,hd,ht,g,l⟩:=st.he
  refine ⟨_,((ae (aq (i:=2) cV.nd rfl (by walk_at "o") af)
   (ae (kR PassesOwn.never (wI (CN hu (aw lY (j5 (K:=K) rfl PySem.F.plainAttrs_int PySem.F.slot_int_bit_length PySem.F.type_int_bit_length kb (pv 1)) af) (dJ (K:=K) rfl (pv 0) rfl))) (ae (aq (i:=3) cV.nd rfl (by walk_at "o") (tF hu (dJ (K:=K) rfl (pv 0) rfl) (aw lY (j5 (K:=K) rfl PySem.F.plainAttrs_int PySem.F.slot_int_bit_length PySem.F.type_int_bit_length kb (pv 1)) af) (fun _ _=>rfl)))
   (ae (aq (i:=1) cV.nd rfl (by walk_at "o") (aw lX (pv 1) (be (ax (K:=K) rfl) (pv 3) af (fun _ _=>rfl))))
   (aj (aq (i:=2) cV.nd rfl (by walk_at "o") (aw lX (pv 2) (be (ax (K:=K) rfl) (pv 3) af (fun _ _=>rfl))))))))
   (aj (aM (dF (aa (pv 1) (aa (pv 2) ai)))))))),aH (σ':=[some _,some _,none,none]) rfl ?_⟩
  walk_at "l2"
  refine ⟨fun μ σ' H'=>∃ qq v,σ'=[some (.ref p),some (nat (x^^^M.sm rows qq)),some (nat qq),v]∧H'=H∧qq < 2 ^ rows.length∧μ=x^^^M.sm rows qq∧M.Frs rows qq,⟨x,0,none,?_,rfl,Nat.two_pow_pos _,?_,M.Frs.zero _⟩,?_⟩
  ·rw [M.sm_zero,Nat.xor_zero];rfl
  ·rw [M.sm_zero,Nat.xor_zero]
  rintro μ σ' H' ⟨qq,v,rfl,rfl,hq,rfl,hfr⟩
  walk_at "l2"
  refine dI ho T.fB T.c5 rfl ?_
  refine CD hd ?_
  walk_at "l2"
  generalize hm:x^^^M.sm rows qq=m
  refine iteB (fun hc=>?_) (fun hc=>?_)
  ·rcases sU es ((Builtin.Int.intBits (m:Int):Nat) - 1:Int) with ⟨e,he,ez,ev⟩ | ⟨_,hv⟩
   ·have hm0:m≠0:=fun z=>by rw [z,AE] at ez;omega
    have hl2:m.log2=e.m.log2:=by rw [jt hm0] at ez;omega
    have hem:(e.m,e.p)∈es.map (fun e=>(e.m,e.p)):=List.mem_map.mpr ⟨e,he,rfl⟩
    have e0:=g.nz _ hem
    refine ⟨fun σ2 H2=>∃ q2 v,σ2=[some (.ref p),some (nat (x^^^M.sm rows q2)),some (nat q2),v]∧H2=H'∧q2 < 2 ^ rows.length∧x^^^M.sm rows q2 < m∧M.Frs rows q2,fun σ2 H2 ⟨q2,v,h1,h2,h3,h4,h5⟩=>⟨_,h4,q2,v,h1,h2,h3,rfl,h5⟩,?_⟩
    walk_at "l2"
    refine dI ho T.fB T.c5 rfl ?_
    walk_at "l2"
    refine xG hd ev ?_
    have hte:=ht e he
    walk_at "l2"
    refine ⟨qq^^^e.p,some (.ref e.a),?_,rfl,M.xor_lt_pow hq (g.lt _ hem),?_,hfr.xor (g.sub _ hem)⟩
    ·rw [M.sm_xor,g.sm _ hem,← Nat.xor_assoc,hm,c6,c6]
    ·rw [M.sm_xor,g.sm _ hem,← Nat.xor_assoc,hm];exact M.xor_less hm0 e0 hl2
   ·rw [hv] at hc;cases hc
  ·walk_at "l2"
   intro t H2 f2 s2 e2
   subst hm
   refine q t H2 qq f2 s2 e2 hq (fun m0 y hy y0 hl2=>?_) hfr
   rcases sU es ((Builtin.Int.intBits ((x^^^M.sm rows qq:Nat):Int):Nat) - 1:Int) with ⟨e,he,ez,ev⟩ | ⟨h1,hv⟩
   ·rw [ev] at hc;cases hc
   ·obtain ⟨e,he,ee⟩:=g.all y hy y0
    obtain ⟨e',he',rfl⟩:=List.mem_map.mp he
    refine h1 e' he' ?_
    have ee:e'.m.log2=y.log2:=ee
    rw [jt m0,ee,hl2];omega
theorem zD (T:Tx K mg a):FnOk P w K mg base CX0 2 a.bU a.mW ["self","place","row"] (Nz a.aJ):=by
 have h7:=@jE P w K mg base a T
 refine T.jz.ok jZ (fun vs H Q E h=>?_) (fun cdv A outer s H vs Q E hr h=>?_)
 ·obtain ⟨p,d,f,n,rows,r,rfl,_⟩:=h;rfl
 ·obtain ⟨p,d,f,n,rows,r,rfl,st,hl,q⟩:=h
  have hu:=vS hr
  obtain ⟨dx,ho⟩:=st.ho
  refine ⟨_,((ae (aq (i:=3) jZ.nd rfl (by walk_at "o") (xU (pv 0) T.fB T.kc h7 (hr.mono (by decide)) T.fk .nil aV (aa (pv 2) ai)))
   (ae (aq (i:=4) jZ.nd rfl (by walk_at "o") (aw lX (be (ax (K:=K) rfl) (pv 3) af (fun _ _=>rfl)) (aw gX af (pv 1))))
   (aj (c7 (aU iT (be (ax (K:=K) rfl) (pv 3) af (fun _ _=>rfl)) af (a8 _)) (aj (bX (jA (K:=K) rfl PySem.F.plainAttrs_list PySem.F.slot_list_append PySem.F.type_list_append cL (dJ (K:=K) rfl (pv 0) rfl) (aa (pv 4) ai)))) (ae (bX (jA (K:=K) rfl PySem.F.plainAttrs_list PySem.F.slot_list_append PySem.F.type_list_append cL (dJ (K:=K) rfl (pv 0) rfl) (aa (pv 1) ai)))
   (aj (xK hu (dJ (K:=K) rfl (pv 0) rfl) (aw lY (j5 (K:=K) rfl PySem.F.plainAttrs_int PySem.F.slot_int_bit_length PySem.F.type_int_bit_length kb (be (ax (K:=K) rfl) (pv 3) af (fun _ _=>rfl))) af) (dF (aa (be (ax (K:=K) rfl) (pv 3) af (fun _ _=>rfl)) (aa (pv 4) ai))) rfl)))))))),aH (σ':=[some _,some _,some _,none,none]) rfl ?_⟩
  walk_at "l2"
  refine jf ho rfl ?_
  walk_at "l2"
  refine ⟨p,d,f,n,rows,r,rfl,st,fun t H2 qq f2 s2 e2 hq hn hfr=>?_⟩
  walk_at "l2"
  rw [shl1,c6]
  have ho2:=s2.get ho
  have st2:=st.same s2
  have lf:=M.fr_len rows
  refine iteB (fun hc=>?_) (fun hc=>?_)
  ·have hz:r^^^M.sm rows qq=0:=by have:=V.int.inj (of_decide_eq_true hc);omega
   obtain ⟨nms,hnn,gn⟩:=st2.hn
   have ln:=gn.len
   walk_at "l2"
   refine dI ho2 T.fB T.ib rfl ?_
   walk_at "l2"
   refine dU hnn (by rw [List.length_map];exact cU (by omega)) fun H3 u3=>?_
   walk_at "l2"
   exact q H3 (fun b o h1 h2 h3 e=>u3.oth _ _ h3 (s2.get e)) (st2.null hq hz gn hnn u3)
  ·have hz:r^^^M.sm rows qq≠0:=fun z=>by rw [z] at hc;exact absurd hc (by decide)
   obtain ⟨es,hd,ht,g,le⟩:=st2.he
   have hf2:=st2.hf
   walk_at "l2"
   refine dI ho2 T.fB T.gY rfl ?_
   walk_at "l2"
   refine dU st2.hf (by rw [List.length_map];exact cU (by omega)) fun H3 u3=>?_
   have e3:=u3.oth _ _ (iU e2 st2.hf (by simp)) e2
   have ho3:=u3.oth _ _ (iU ho2 st2.hf (by simp)) ho2
   have hd3:=u3.oth _ _ (iU hd st2.hf (by simp)) hd
   walk_at "l2"
   intro t' H4 f4 s4 e4
   walk_at "l2"
   refine dI (s4.get ho3) T.fB T.c5 rfl ?_
   walk_at "l2"
   refine Bg (s4.get hd3) (by unfold nT;rw [List.length_map];exact cU (by omega)) fun H5 u5=>?_
   walk_at "l2"
   refine q H5 (fun b o h1 h2 h3 e=>u5.oth _ _ h1 (s4.get (u3.oth _ _ h2 (s2.get e)))) (st2.more hq hz (hn hz) hfr u3 s4 e4 hd ht g le ?_)
   have ez:(((r^^^M.sm rows qq).log2 + 1:Nat):Int) - 1=(((r^^^M.sm rows qq).log2:Nat):Int):=by omega
   rw [jt hz,ez] at u5
   exact u5
theorem pA (T:Tx K mg a):FnOk P w K mg base CX0 3 a.aQ a.gq ["self","rows"] (Lw a.aJ):=by
 have Cq:=@zD P w K mg base a T
 refine T.dY.ok fG (fun vs H Q E h=>?_) (fun cdv A outer s H vs Q E hr h=>?_)
 ·obtain ⟨x,dx,r,rows,rfl,_⟩:=h;rfl
 ·obtain ⟨x,dx,r,rows,rfl,hw,hl,hx,q⟩:=h
  have hu:=vS hr
  have rx:r≠x:=iU hw hx (by simp)
  refine ⟨_,((ae (o7 (K:=K) rfl (pv 0) CM rfl)
   (ae (o7 (K:=K) rfl (pv 0) (eh ai) rfl)
   (ae (o7 (K:=K) rfl (pv 0) (eh ai) rfl)
   (aj (cW PassesOwn.never rfl (ph (K:=K) rfl (by rfl) T.d4 (pv 1)) (qz rfl (bK (aG (i:=2) fG.nd rfl (by walk_at "o")) (bK (aG (i:=3) fG.nd rfl (by walk_at "o")) ix))) (aj (bX (xU (pv 0) T.fB T.BD Cq (hr.mono (by decide)) T.m9 .nil aV (aa (pv 2) (aa (pv 3) ai))))))))))),aH (σ':=[some _,some _,none,none]) rfl ?_⟩
  walk_at "l2"
  intro d H1 f1 s1 e1
  walk_at "l2"
  have dx1:d≠x:=fun z=>by rw [z,hx] at f1;cases f1
  refine o5 (s1.get hx) T.fB T.c5 (by decide) rfl fun H2 u2=>?_
  walk_at "l2"
  intro f H3 f3 s3 e3
  walk_at "l2"
  have fx1:f≠x:=fun z=>by rw [z,u2.at'] at f3;cases f3
  refine o5 (s3.get u2.at') T.fB T.gY (by show 1 < 1000;decide) rfl fun H4 u4=>?_
  walk_at "l2"
  intro n H5 f5 s5 e5
  walk_at "l2"
  have nx1:n≠x:=fun z=>by rw [z,u4.at'] at f5;cases f5
  refine o5 (s5.get u4.at') T.fB T.ib (by show 2 < 1000;decide) rfl fun H6 u6=>?_
  have k1:∀ b o,b≠x→H b=some o→H2 b=some o:=fun b o nb e=>u2.oth _ _ nb (s1.get e)
  have k2:∀ b o,b≠x→H b=some o→H4 b=some o:=fun b o nb e=>u4.oth _ _ nb (s3.get (k1 b o nb e))
  have k3:∀ b o,b≠x→H b=some o→H6 b=some o:=fun b o nb e=>u6.oth _ _ nb (s5.get (k2 b o nb e))
  have nd:∀ b o,H b=some o→b≠d:=fun b o e=>ar e f1
  have nf:∀ b o,b≠x→H b=some o→b≠f:=fun b o nb e=>ar (k1 b o nb e) f3
  have nn:∀ b o,b≠x→H b=some o→b≠n:=fun b o nb e=>ar (k2 b o nb e) f5
  have e3':=u4.oth _ _ fx1 e3
  have fn:f≠n:=ar e3' f5
  have hd0:H6 d=some (.dK (nT [])):=u6.oth _ _ dx1 (s5.get (u4.oth _ _ dx1 (s3.get (u2.oth _ _ dx1 e1))))
  have hw6:=k3 _ _ rx hw
  walk_at "l2"
  refine sQ (xs:=rows.map nat) (fun i σ H'=>∃ v v',σ=[some (.ref x),some (.ref r),v,v']∧StA H' a.aJ x d f n (rows.take i)∧∀ b o,b≠x→H b=some o→H' b=some o) ?_ ?_ ?_ ?_
  ·refine ⟨none,none,rfl,⟨⟨dx,u6.at'⟩,⟨[],hd0,fun _ h=>absurd h (by simp),M.Ech.nil,rfl⟩,u6.oth _ _ fx1 (s5.get e3'),⟨[],u6.oth _ _ nx1 e5,M.Nul.nil⟩,fn⟩,k3⟩
  ·rintro i σ H' _ ⟨v,v',_,_,k⟩
   exact SqL.of (k _ _ rx hw)
  ·rintro i y σ H' p H7 hy ⟨v,v',rfl,st,k⟩ fp s7 e7
   obtain ⟨ri,hri,rfl⟩:=bZ hy
   obtain ⟨dx7,ho7⟩:=(st.same s7).ho
   walk_at "l2"
   refine jf ho7 rfl ?_
   walk_at "l2"
   have tl:=Cw hri
   refine ⟨x,d,f,n,rows.take i,ri,by rw [tl],st.same s7,by rw [tl];have:=(List.getElem?_eq_some_iff.mp hri).1;omega,fun H8 fr8 st8=>?_⟩
   walk_at "l2"
   refine ⟨_,_,rfl,by rw [take_succ hri];exact st8,fun b o nb e=>fr8 b o (nd b o e) (nf b o nb e) (nn b o nb e) (s7.get (k b o nb e))⟩
  ·rintro σ H' ⟨v,v',rfl,st,k⟩
   rw [List.length_map,List.take_length] at st
   walk_at "l2"
   exact q H' d f n k st
theorem pj (T:Tx K mg a):FnOk P w K mg base CX0 5 a.eN a.uG ["rows","wish"] wz:=by
 have sJ:=@pA P w K mg base a T
 have h7:=@jE P w K mg base a T
 have vp:=@rp P w K mg base a T
 have vn:=@wR P w K mg base a T
 refine T.oM.ok oZ (fun vs H Q E h=>?_) (fun cdv A outer s H vs Q E hr h=>?_)
 ·obtain ⟨r,rows,x,rfl,_⟩:=h;rfl
 ·obtain ⟨r,rows,x,rfl,hw,hl,hr1,hx1,h64,qA,qB⟩:=h
  refine ⟨_,((ae (aq (i:=2) oZ.nd rfl (by walk_at "o") (GR T.M5 sJ (hr.mono (by decide)) (by rfl) T.MD T.gz .nil aV (aa (pv 0) ai)))
   (ae (aq (i:=3) oZ.nd rfl (by walk_at "o") (xU (pv 2) T.fB T.kc h7 (hr.mono (by decide)) T.fk .nil aV (aa (pv 1) ai)))
   (ae (c7 (aU iT (be (ax (K:=K) rfl) (pv 3) af (fun _ _=>rfl)) af (a8 _)) (aj (aM (dF (aa dG (aa (au vn (hr.mono (by decide)) (by rfl) T.Af T.z7 T.oE .nil aV (aa (be (ax (K:=K) rfl) (pv 3) af (fun _ _=>rfl)) ai)) ai))))) a7)
   (aj (aM (dF (aa dG (aa (xU (pv 2) T.fB T.t4 vp (hr.mono (by decide)) T.hX .nil aV (aa (aw lY (j5 (K:=K) rfl PySem.F.plainAttrs_int PySem.F.slot_int_bit_length PySem.F.type_int_bit_length kb (be (ax (K:=K) rfl) (pv 3) af (fun _ _=>rfl))) af) ai)) ai))))))))),aH (σ':=[some _,some _,none,none]) rfl ?_⟩
  walk_at "l2"
  intro p dx H2 f2 s2 e2
  refine ⟨p,dx,r,rows,rfl,s2.get hw,hl,e2,fun H3 d f n k st=>⟨rfl,?_⟩⟩
  obtain ⟨dx3,ho⟩:=st.ho
  have hs:Same H H3:=fun b o e=>k b o (ar e f2) (s2.get e)
  walk_at "l2"
  refine jf ho rfl ?_
  walk_at "l2"
  refine ⟨p,d,f,n,rows,x,rfl,st,fun t H4 qq f4 s4 e4 hq hn hfr=>?_⟩
  walk_at "l2"
  refine iteB (fun hc=>?_) (fun hc=>?_)
  ·have hz:x^^^M.sm rows qq=0:=by have:=V.int.inj (of_decide_eq_true hc);omega
   have hsm:M.sm rows qq=x:=by
    have:=congrArg (x^^^·) hz
    simp only [← Nat.xor_assoc,Nat.xor_self,Nat.zero_xor,Nat.xor_zero] at this
    exact this
   walk_at "l2"
   refine ⟨qq,rfl,Nat.lt_of_lt_of_le hq (Nat.pow_le_pow_right (by decide) hl),fun D H5 f5 s5 e5=>?_⟩
   walk_at "l2"
   intro t' H6 f6 s6 e6
   exact qA t' D H6 qq (kW (hs.trans s4) f5) (hs.trans (s4.trans (s5.trans s6))) e6 (s6.get e5) ⟨hq,hsm,hfr⟩
  ·have hz:x^^^M.sm rows qq≠0:=fun z=>by rw [z] at hc;exact absurd hc (by decide)
   have hx1':x^^^M.sm rows qq < 2 ^ 1000:=M.xor_lt_pow hx1 (M.span_lt hr1 (M.sm_span rows qq))
   have hb1:=M.log2_under hz hx1'
   have hns:¬ M.Span rows x:=fun hsp=>hn hz _ (M.span_xor hsp (M.sm_span rows qq)) hz rfl
   have h64':(M.fr rows).length < 64:=h64.resolve_left hns
   have ez:(((x^^^M.sm rows qq).log2 + 1:Nat):Int) - 1=(((x^^^M.sm rows qq).log2:Nat):Int):=by omega
   walk_at "l2"
   refine jf (s4.get ho) rfl ?_
   walk_at "l2"
   rw [jt hz,ez]
   refine ⟨p,d,f,n,rows,(x^^^M.sm rows qq).log2,rfl,st.same s4,hb1,hr1,h64',hn hz,fun m H5 s5 B=>?_⟩
   walk_at "l2"
   intro t' H6 f6 s6 e6
   refine qB t' H6 m (hs.trans (s4.trans (s5.trans s6))) e6 ⟨hns,⟨M.sm rows qq,M.sm_span _ _,hz,hn hz,B⟩,B.ev,B.odd hz rfl hb1,fun W hW hxW=>B.lt W hW ?_⟩
   exact M.log2_under hz (M.xor_lt_pow hxW (M.span_lt hW (M.sm_span rows qq)))
theorem CQ (T:Tx K mg a):FnOk P w K mg base CX0 6 a.jl a.B3 ["masks"] Jq:=by
 have i7:=@pj P w K mg base a T
 refine T.y3.ok kP (fun vs H Q E h=>?_) (fun cdv A outer s H vs Q E hr h=>?_)
 ·obtain ⟨r,ms,n,rfl,_⟩:=h;rfl
 ·obtain ⟨r,ms,n,rfl,hp,hlen,hn,hb,q⟩:=h
  have hb1:∀ x∈ms,x < 2 ^ 1000:=fun x hx=>G7 hn (hb x hx)
  have hgb:∀ k,ms.getD k 0 < 2 ^ 1000:=fun k=>by
   rw [List.getD_eq_getElem?_getD]
   cases e:ms[k]? with
   | none=>exact Nat.two_pow_pos _
   | some x=>exact hb1 x (List.mem_of_getElem? e)
  have hat:∀ k,k≤n→atI (ms.map nat) ((k:Nat):Int)=some (nat (ms.getD k 0)):=fun k hk=>MU (by omega)
  have h00:=hat 0 (Nat.zero_le n)
  refine ⟨_,((ae (aq (i:=1) kP.nd rfl (by walk_at "o") af)
   (ae (aq (i:=2) kP.nd rfl (by walk_at "o") (au i7 (hr.mono (by decide)) (by rfl) T.nZ T.nV T.i4 .nil aV (aa (eh ai) (aa (be (fQ (K:=K) rfl) (pv 0) af (fun _ _=>rfl)) ai))))
   (ae (kR PassesOwn.never (aU iT (be (ax (K:=K) rfl) (pv 2) af (fun _ _=>rfl)) dG (a8 _)) (ae (aq (i:=1) kP.nd rfl (by walk_at "o") (aw cI (pv 1) af))
   (aj (aq (i:=2) kP.nd rfl (by walk_at "o") (au i7 (hr.mono (by decide)) (by rfl) T.nZ T.nV T.i4 .nil aV (aa (xS (xB (K:=K) rfl) (pv 0) GO (xN (pv 1))) (aa (be (fQ (K:=K) rfl) (pv 0) (pv 1) (fun _ _=>rfl)) ai)))))))
   (ae (o8 (osc:=ag s_chain) (ON:=["masks","place","found","sums"]) (N:=["number"]) (n:=1) (fx:=[]) (i:=3) kP.nd rfl rfl rfl rfl rfl rfl (by decide +kernel) (cc (by rfl) T.d3 (aa (aw lY (pv 1) af) ai)) (eM (by decide)) (fun _ _ _ _ _=>⟨(aG (i:=0) (show List.Nodup (["number"]:List Str) from by decide +kernel) rfl (by walk_at "o")),jg,(eh (aa (aw cI (pv 0) af) ai))⟩))
   (ae (c7 (aU nI (pv 1) af (a8 _)) (aj (bX (jA (K:=K) rfl PySem.F.plainAttrs_list PySem.F.slot_list_append PySem.F.type_list_append cL (pv 3) (aa (be (ax (K:=K) rfl) (pv 2) af (fun _ _=>rfl)) ai)))) a7)
   (aj (aM (dF (aa (xS (xB (K:=K) rfl) (pv 0) GO (xN (pv 1))) (aa (pv 3) ai))))))))))),aH (σ':=[some _,none,none,none]) rfl ?_⟩
  walk_at "l2"
  intro E0 H1 f1 s1 e1
  have hp1:=s1.get hp
  walk_at "l2"
  refine uX (rows:=[]) (x:=ms.getD 0 0) e1 (by decide) (fun _ h=>absurd h (by simp)) (hgb 0) (by decide) fun t0 H2 s2 F0=>?_
  walk_at "l2"
  have hns:∀ {p:Nat},p≤n→(∀ k,k < p→¬ M.Span (ms.take k) (ms.getD k 0))→¬ M.Span (ms.take p) (ms.getD p 0)→p + 1≤n:=fun {p} hp1 h h'=>
   M.chain_short hb (by omega) fun k hk=>if hkp:k < p then h k hkp else by rw [show k=p by omega];exact h'
  refine ⟨fun μ σ' H'=>∃ (p:Nat) (t:Addr),σ'=[some (.ref r),some (nat p),some (.ref t),none]∧Same H H'∧p≤n∧μ=n - p∧FdS H H' t (ms.take p) (ms.getD p 0)∧∀ k,k < p→¬ M.Span (ms.take k) (ms.getD k 0),⟨n,0,t0,rfl,s1.trans s2,Nat.zero_le n,rfl,F0.back s1,fun k h=>absurd h (Nat.not_lt_zero k)⟩,?_⟩
  rintro μ σ' H' ⟨p,t,rfl,s6,hpn,rfl,F,hno⟩
  have hp6:=s6.get hp
  rcases F with ⟨D1,qq,e,e',sd,fD⟩ | ⟨m,e,bd⟩
  ·walk_at "l2"
   intro S hS
   refine kX (fun i ys H7=>∃ rs:List Addr,Cs (fun i ys=>ys=rs.map V.ref) H' S i ys H7∧rs.length=i∧∀ k r,rs[k]? =some r→H7 r=some (.lst [nat (k + 1)])∧r≠S) ⟨[],Cs.zero hS rfl,rfl,fun k r h=>by simp at h⟩ (fun i ys H7 hi ⟨rs,c,lr,hg⟩=>?_) (fun ys H7 ⟨rs,c,lr,hg⟩=>?_)
   ·walk_at "l2"
    intro r2 H8 f8 s8 e8
    have eS:=s8.get c.at'
    have nS:r2≠S:=fun z=>by subst z;rw [c.at'] at f8;cases f8
    have ei:(0:Int) + (i:Int) + 1=((i + 1:Nat):Int):=by push_cast;omega
    rw [ei] at e8
    obtain ⟨a1,a2,a3⟩:=Cs.put (Pv:=fun i ys=>ys=(rs++[r2]).map V.ref) (v:=V.ref r2) hS (c.same.trans s8) eS c.len (by omega) (by rw [c.pv,List.map_append];rfl)
    refine ⟨a1,a2,rs++[r2],a3,by rw [List.length_append,lr];rfl,fun k x hx=>?_⟩
    by_cases hk:k < rs.length
    ·rw [List.getElem?_append_left hk] at hx
     obtain ⟨h1,h2⟩:=hg k x hx
     exact ⟨by rw [aL h2];exact s8.get h1,h2⟩
    ·have hk2:k=rs.length:=by
      have:=(List.getElem?_eq_some_iff.mp hx).1
      rw [List.length_append] at this
      have:k < rs.length + 1:=this
      omega
     subst hk2
     rw [List.getElem?_append_right (Nat.le_refl _),Nat.sub_self] at hx
     cases hx
     exact ⟨by rw [aL nS,lr];exact e8,nS⟩
   ·have eS:=c.at'
    rw [c.pv] at eS
    have el:((p:Int) - 1).toNat=p - 1:=by omega
    rw [el] at lr
    have hp7:=c.same.get hp6
    have e7:=c.same.get e
    have e7':=c.same.get e'
    have s7:=s6.trans c.same
    have fS:H S=none:=s6.free hS
    have nDS:D1≠S:=ar e' hS
    have nrS:r≠S:=ar hp6 hS
    walk_at "l2"
    refine iteB (fun hc=>?_) (fun hc=>?_)
    ·have hp0:0 < p:=by have:=of_decide_eq_true hc;omega
     walk_at "l2"
     refine dU eS (by rw [List.length_map,sizeLine_eq];omega) fun H9 u=>?_
     have s9:Same H H9:=fun b o e=>u.oth b o (ar e fS) (s7.get e)
     have hp9:=u.oth _ _ nrS hp7
     have hS9:H9 S=some (.lst ((rs++[D1]).map V.ref)):=by rw [u.at',List.map_append];rfl
     have hg9:∀ k x,(rs++[D1])[k]? =some x→H9 x=some (.lst ((cps p qq k).map nat)):=fun k x hx=>by
      by_cases hk:k < rs.length
      ·rw [List.getElem?_append_left hk] at hx
       obtain ⟨h1,h2⟩:=hg k x hx
       rw [u.oth _ _ h2 h1]
       unfold cps
       rw [if_pos (by omega)]
       rfl
      ·have hk2:k=rs.length:=by
        have:=(List.getElem?_eq_some_iff.mp hx).1
        rw [List.length_append] at this
        have:k < rs.length + 1:=this
        omega
       subst hk2
       rw [List.getElem?_append_right (Nat.le_refl _),Nat.sub_self] at hx
       cases hx
       rw [u.oth _ _ nDS e7']
       unfold cps
       rw [if_neg (by omega)]
     have lr9:(rs++[D1]).length=p:=by rw [List.length_append,lr];show p - 1 + 1=p;omega
     clear u hg eS lr e7 e7' hp7 hp6 c s7 s6 e e' fD nDS nrS hc hS
     walk_at "l2"
     intro Dm H10 f10 s10 e10
     rw [yE _ _ (by rw [List.length_map];omega),← List.map_take] at e10
     walk_at "l2"
     intro tt H11 f11 s11 e11
     exact q tt Dm S H11 p qq (s9.free f10) fS (fun z=>by subst z;rw [hS9] at f10;cases f10) ((s9.trans s10).trans s11) e11 ⟨⟨by omega,hno,by rw [← sd.sm];exact M.sm_span _ _⟩,sd,s11.get e10,rs++[D1],(ChS.mk hS9 lr9 hg9).same (s10.trans s11)⟩
    ·have hp0:p=0:=by
      have:¬ (0:Int) < (p:Int):=of_decide_eq_false hc
      omega
     subst hp0
     have lr0:rs=[]:=List.eq_nil_of_length_eq_zero lr
     subst lr0
     walk_at "l2"
     intro Dm H10 f10 s10 e10
     rw [yE _ 0 (Nat.zero_le _),← List.map_take] at e10
     walk_at "l2"
     intro tt H11 f11 s11 e11
     exact q tt Dm S H11 0 qq (s7.free f10) fS (fun z=>by subst z;rw [eS] at f10;cases f10) ((s7.trans s10).trans s11) e11 ⟨⟨by omega,hno,by rw [← sd.sm];exact M.sm_span _ _⟩,sd,s11.get e10,[],(ChS.mk eS rfl (fun k x hx=>by simp at hx)).same (s10.trans s11)⟩
  ·have hp1:=hns hpn hno bd.ns
   walk_at "l2"
   refine ⟨fun σ2 H2=>∃ t,σ2=[some (.ref r),some (nat (p + 1)),some (.ref t),none]∧Same H H2∧FdS H H2 t (ms.take (p + 1)) (ms.getD (p + 1) 0),fun σ2 H2 ⟨t2,h1,h2,h3⟩=>⟨n - (p + 1),by omega,p + 1,t2,h1,h2,hp1,rfl,h3,fun k hk=>?_⟩,?_⟩
   ·by_cases h:k < p
    ·exact hno k h
    ·rw [show k=p by omega];exact bd.ns
   ·walk_at "l2"
    have e1:(p:Int) + 1=((p + 1:Nat):Int):=by push_cast;rfl
    rw [e1]
    intro Dm H7 f7 s7 e7
    rw [yE _ _ (by rw [List.length_map];omega),← List.map_take] at e7
    have hp7:=s7.get hp6
    have hat1:=hat (p + 1) hp1
    walk_at "l2"
    refine uX (rows:=ms.take (p + 1)) (x:=ms.getD (p + 1) 0) e7 (by rw [List.length_take];omega) (fun x hx=>hb1 x (List.mem_of_mem_take hx)) (hgb _) (Nat.lt_of_le_of_lt (M.rank_le fun x hx=>hb x (List.mem_of_mem_take hx)) (by omega)) fun t2 H8 s8 F8=>?_
    walk_at "l2"
    exact ⟨(s6.trans s7).trans s8,F8.back (s6.trans s7)⟩
end
section
variable {P:Program} {w:World} {K:PySem.W.Frag} {mg:Str→Option Value} {base:Heap} {a:Ad}
local macro_rules | `(tactic| walk_at "l2step") =>`(tactic| first | ((with_reducible refine' fN ?e ?_);(case e=>walk_at "l2kind")) | ((with_reducible refine' i3 ?e ?_);(case e=>walk_at "l2kind")) | (with_reducible refine dS ?_) | (with_reducible refine gc ?_))
theorem Bn (T:Tx K mg a):FnOk P w K mg base CX0 1 a.dB a.p8 ["whole","width","count"] Gp:=by
 refine T.k6.ok Be (fun vs H Q E h=>?_) (fun cdv A outer s H vs Q E hr h=>?_)
 ·obtain ⟨q,wd,T',rfl,_⟩:=h;rfl
 ·obtain ⟨qq,wd,T',rfl,hw,hT,q⟩:=h
  have hp0:=Nat.two_pow_pos wd
  have e6:(1:Int) * 2 ^ ((wd:Int).toNat) - 1=((2 ^ wd - 1:Nat):Int):=by rw [shl1];omega
  refine ⟨_,((aj (aM (tG (osc:=ag fH) (ON:=["whole","width","count"]) (N:=["place","whole","width"]) (n:=1) (fx:=[0,1]) rfl rfl rfl (by decide +kernel) (cc (by rfl) T.d3 (aa (pv 2) ai)) (eM (by decide)) (fun _ _ _ _ _=>⟨(aG (i:=0) (show List.Nodup (["place","whole","width"]:List Str) from by decide +kernel) rfl (by walk_at "o")),jg,(aw jD (aw GV (pv 1) (aw nH (pv 0) (pv 2))) (aw lY (aw gX af (pv 2)) af))⟩))))),aH (σ':=[some _,some _,some _]) rfl ?_⟩
  walk_at "l2"
  intro D hD
  refine kX (fun i ys H'=>Cs (fun i ys=>ys=((List.range i).map fun t=>(qq>>>(t * wd))&&&(2 ^ wd - 1)).map nat) H D i ys H') (Cs.zero hD rfl) (fun i ys H' hi c=>?_) (fun ys H' c=>?_)
  ·have ec:((0:Int) + (i:Int)) * (wd:Int)=((i * wd:Nat):Int):=by rw [Int.zero_add];push_cast;rfl
   walk_at "l2"
   rw [ec]
   walk_at "l2"
   rw [LK,e6,bS]
   refine Cs.put hD c.same c.at' c.len (by omega) ?_
   rw [c.pv,List.range_succ,List.map_append,List.map_append];rfl
  ·have ec:=c.at'
   rw [c.pv,Int.toNat_natCast] at ec
   exact q D H' hD c.same ec
theorem CP (T:Tx K mg a):FnOk P w K mg base CX0 5 a.jk a.B2 ["machine","turns"] (Jg a.ao):=by
 have bO:=@eK P w K mg base a T
 refine T.yZ.ok kN (fun vs H Q E h=>?_) (fun cdv A outer s H vs Q E hr h=>?_)
 ·obtain ⟨p,m,nx,os,T',rfl,_⟩:=h;rfl
 ·obtain ⟨p,m,nx,os,T',rfl,ma,g,hT,q⟩:=h
  obtain ⟨dx,tn,to,ho,hn,ho2⟩:=ma.ho
  have m6:=g.m6
  have ln:=g.ln
  refine ⟨_,((ae (o8 (osc:=ag j0) (ON:=["machine","turns","states","told","turn"]) (N:=["which","machine"]) (n:=1) (fx:=[0]) (i:=2) kN.nd rfl rfl rfl rfl rfl rfl (by decide +kernel) (cc (by rfl) T.d3 (aa (dJ (K:=K) rfl (pv 0) rfl) ai)) (eM (by decide)) (fun _ _ _ _ _=>⟨(aG (i:=0) (show List.Nodup (["which","machine"]:List Str) from by decide +kernel) rfl (by walk_at "o")),jg,(be (ax (K:=K) rfl) (cA (pv 1) T.aF T.dO bO (hr.mono (by decide)) T.cx .nil thr0 (aa af (aa (aw gX af (pv 0)) ai))) af (fun _ _=>rfl))⟩))
   (ae (aq (i:=3) kN.nd rfl (by walk_at "o") (eh ai))
   (ae (cW PassesOwn.never rfl (cc (by rfl) T.d3 (aa (pv 1) ai)) (aG (i:=4) kN.nd rfl (by walk_at "o")) (ae (aq (i:=3) kN.nd rfl (by walk_at "o") (aw GW (pv 2) (pv 3)))
   (aj (o8 (osc:=ag j0) (ON:=["machine","turns","states","told","turn"]) (N:=["state","machine"]) (n:=1) (fx:=[0]) (i:=2) kN.nd rfl rfl rfl rfl rfl rfl (by decide +kernel) (dy (K:=K) rfl (pv 2)) (eM (by decide)) (fun _ _ _ _ _=>⟨(aG (i:=0) (show List.Nodup (["state","machine"]:List Str) from by decide +kernel) rfl (by walk_at "o")),jg,(be (ax (K:=K) rfl) (cA (pv 1) T.aF T.dO bO (hr.mono (by decide)) T.cx .nil thr0 (aa (pv 0) (aa af ai))) af (fun _ _=>rfl))⟩)))))
   (aj (aM (pv 3))))))),aH (σ':=[some _,some _,none,none,none]) rfl ?_⟩
  walk_at "l2"
  refine dI ho T.aF T.dW rfl ?_
  walk_at "l2"
  intro D hD
  refine kX (fun i ys H'=>Cs (fun i ys=>ys=((List.range i).map fun w=>M.tr2 (prs nx) 0 (2 ^ w)).map nat) H D i ys H') (Cs.zero hD rfl) (fun i ys H' hi c=>?_) (fun ys H1 c=>?_)
  ·have him:i < m:=by omega
   have ei:(0:Int) + (i:Int)=(i:Int):=Int.zero_add _
   walk_at "l2"
   refine bL (c.same.get ho) rfl ?_
   walk_at "l2"
   rw [ei]
   walk_at "l2"
   rw [shl1]
   refine ⟨p,m,nx,os,nat 0,nat (2 ^ i),"int","int",rfl,ma.same c.same,g,rfl,rfl,fun a1 b1 ea eb _ _ t6 H6 s6 e6=>?_,fun bad=>?_⟩
   ·have ea:=cJ ea
    have eb:=cJ eb
    subst ea eb
    walk_at "l2"
    refine Cs.put hD (c.same.trans s6) (s6.get c.at') c.len (by omega) ?_
    rw [c.pv,List.range_succ,List.map_append,List.map_append];rfl
   ·rcases bad with h | h
    ·rw [bG (Nat.two_pow_pos _)] at h;cases h
    ·rw [bG (Nat.pow_lt_pow_right (by decide) him)] at h;cases h
  ·have e1:=c.at'
   rw [c.pv,Int.toNat_natCast] at e1
   have s1:=c.same
   walk_at "l2"
   intro D0 H2 f2 s2 e2
   walk_at "l2"
   refine dP (fun i σ H'=>∃ (v:Option V) (Ds Dt:Addr),σ=[some (.ref p),some (nat T'),some (.ref Ds),some (.ref Dt),v]∧Same H H'∧H' Ds=some (.lst ((M.stj (prs nx) (M.sg0 (prs nx) m) i).map nat))∧H' Dt=some (.lst ((M.rch (prs nx) m i).map nat))∧H Dt=none) ⟨none,D,D0,rfl,s1.trans s2,s2.get e1,e2,kW s1 f2⟩ ?_ ?_
   ·rintro i σ H' hi ⟨v,Ds,Dt,rfl,s6,es,et,ft⟩
    have ls:(M.stj (prs nx) (M.sg0 (prs nx) m) i).length=m:=by rw [M.stj_len,M.sg0_len]
    have lr:=M.rch_len (prs nx) m i
    have hmul:i * m≤100 * 6:=Nat.mul_le_mul (by omega) m6
    walk_at "l2"
    refine L4 es et (by rw [List.length_map,List.length_map,sizeLine_eq];omega) fun D7 H7 f7 s7 e7=>?_
    rw [← List.map_append] at e7
    have es7:=s7.get es
    walk_at "l2"
    intro D8 hD8
    refine oj (xs:=(M.stj (prs nx) (M.sg0 (prs nx) m) i).map nat) (fun j ys H'=>Cs (fun j ys=>ys=(((M.stj (prs nx) (M.sg0 (prs nx) m) i).take j).map fun x=>M.tr2 (prs nx) x 0).map nat) H7 D8 j ys H') (Cs.zero hD8 rfl) (fun j ys H' _ c=>SqL.of (c.same.get es7)) (fun j x ys H' hx c=>?_) (fun ys H' c=>?_)
    ·obtain ⟨x0,hx0,rfl⟩:=bZ hx
     have hj:=(List.getElem?_eq_some_iff.mp hx0).1
     have hxb:=M.stj_lt (prs nx) m i x0 (List.mem_of_getElem? hx0)
     rw [bo] at hxb
     have s08:=s6.trans (s7.trans c.same)
     walk_at "l2"
     refine bL (s08.get ho) rfl ?_
     walk_at "l2"
     refine ⟨p,m,nx,os,nat x0,nat 0,"int","int",rfl,ma.same s08,g,rfl,rfl,fun a1 b1 ea eb _ _ t6 H6 s6' e6=>?_,fun bad=>?_⟩
     ·have ea:=cJ ea
      have eb:=cJ eb
      subst ea eb
      walk_at "l2"
      refine Cs.put hD8 (c.same.trans s6') (s6'.get c.at') c.len (by omega) ?_
      rw [c.pv,take_succ hx0,List.map_append,List.map_append];rfl
     ·rcases bad with h | h
      ·rw [bG hxb] at h;cases h
      ·rw [bG (Nat.two_pow_pos _)] at h;cases h
    ·have ec:=c.at'
     rw [c.pv,List.length_map,List.take_length] at ec
     exact ⟨_,D8,D7,rfl,s6.trans (s7.trans c.same),ec,c.same.get e7,kW s6 f7⟩
   ·rintro σ H' ⟨v,Ds,Dt,rfl,s6,es,et,ft⟩
    rw [Int.toNat_natCast] at et
    walk_at "l2"
    exact q Dt H' ft s6 et
theorem wO (T:Tx K mg a):FnOk P w K mg base CX0 2 a.eP a.uH ["machine","places","turns"] (Gr a.ao):=by
 have vm:=@wQ P w K mg base a T
 have FG:=@Bn P w K mg base a T
 refine T.oN.ok DM (fun vs H Q E h=>?_) (fun cdv A outer s H vs Q E hr h=>?_)
 ·obtain ⟨p,D,m,nx,os,q,T',rfl,_⟩:=h;rfl
 ·obtain ⟨p,D,m,nx,os,qq,T',rfl,ma,g,hD,hq,hT,q⟩:=h
  obtain ⟨dx,tn,to,ho,hn,ho2⟩:=ma.ho
  have m6:=g.m6
  refine ⟨_,((aj (aM (au FG (hr.mono (by decide)) (by rfl) T.ER T.EN T.qj .nil aV (aa (au vm (hr.mono (by decide)) (by rfl) T.Ae T.z6 T.oC .nil aV (aa (pv 1) ai)) (aa (dJ (K:=K) rfl (pv 0) rfl) (aa (pv 2) ai))))))),aH (σ':=[some _,some _,some _]) rfl ?_⟩
  walk_at "l2"
  refine ⟨D,M.pl 1000 qq,rfl,hD,fun x hx=>M.pl_lt hq x hx,?_⟩
  rw [Ph hq]
  walk_at "l2"
  refine dI ho T.aF T.dW rfl ?_
  walk_at "l2"
  exact ⟨qq,m,T',rfl,by omega,hT,q⟩
theorem Ef (T:Tx K mg a):FnOk P w K mg base (CX1 P w) 7 a.eW a.uL ["machine","start","wish","turns"] (DC K a.ao a.bt a.dc):=by
 have i8:=@mq P w K mg base a T
 have i7:=@pj P w K mg base a T
 have Cm:=@CP P w K mg base a T
 have vk:=@wO P w K mg base a T
 have vq:=@rq P w K mg base a T
 have av:=@bj P w K mg base a T
 refine T.oS.okX wB (fun vs H Q E h=>?_) (fun cdv A outer s H vs Q E hr h=>?_)
 ·obtain ⟨p,m,nx,os,x,y,z,rfl,_⟩:=h;rfl
 ·obtain ⟨p,m,nx,os,x,y,z,rfl,ma,g,hl,⟨kx,hkx⟩,⟨ky,hky⟩,⟨kz,hkz⟩,qQ,qM,qR⟩:=h
  obtain ⟨dx,tn,to,ho,hn,ho2⟩:=ma.ho
  have m6:=g.m6
  refine ⟨_,((ae (bX (cA (pv 0) T.aF T.aO av (hr.mono (by decide)) T.aE .nil cP (aa (pv 1) ai)))
   (ae (bX (cA (pv 0) T.aF T.aO av (hr.mono (by decide)) T.aE .nil cP (aa (pv 2) ai)))
   (ae (c7 (PW.pt (xJ (gR (eJ (au i8 (hr.mono (by decide)) (by rfl) T.pZ T.pV T.i5 .nil aV (aa (pv 3) ai)))) (xJ (aU Mh (pv 3) af (a8 _)) (tj (aU nI (pv 3) (xV (v:= .int 40) (by rfl) T.Ah ⟨_,rfl⟩) (a8 _)))))) (aj (ji PySem.F.excBase_ValueError T.nq cP rfl (by rfl) T.Ka (aa dG ai))) a7)
   (ae (aq (i:=4) wB.nd rfl (by walk_at "o") (au i7 (hr.mono (by decide)) (by rfl) T.nZ T.nV T.i4 .nil aV (aa (au Cm (hr.mono (by decide)) (by rfl) T.HF T.Ho T.yM .nil aV (aa (pv 0) (aa (pv 3) ai))) (aa (aw lX (pv 2) (cA (pv 0) T.aF T.t5 vq (hr.mono (by decide)) T.hZ .nil cP (aa (aw Ot (eh (aa af ai)) (pv 3)) (aa (pv 1) ai)))) ai))))
   (ae (c7 (aU iT (be (ax (K:=K) rfl) (pv 4) af (fun _ _=>rfl)) dG (a8 _)) (aj (aM (dF (aa dG (aa (au vk (hr.mono (by decide)) (by rfl) T.Ac T.zZ T.oB .nil aV (aa (pv 0) (aa (be (ax (K:=K) rfl) (pv 4) af (fun _ _=>rfl)) (aa (pv 3) ai)))) ai))))) a7)
   (aj (aM (pv 4))))))))),aH (σ':=[some _,some _,some _,some _,none]) rfl ?_⟩
  walk_at "l2"
  refine bL ho rfl ?_
  walk_at "l2"
  refine ⟨p,m,nx,os,x,kx,rfl,ma,hkx,fun hx=>?_,fun hx=>qM (.inl hx)⟩
  walk_at "l2"
  refine bL ho rfl ?_
  walk_at "l2"
  refine ⟨p,m,nx,os,y,ky,rfl,ma,hky,fun hy=>?_,fun hy=>qM (.inr hy)⟩
  have qZ:=qR hx hy
  obtain ⟨a0,rfl,ha0⟩:=gG hx
  obtain ⟨b0,rfl,hb0⟩:=gG hy
  walk_at "l2"
  cases z with
  | int i=>
    have hkz:kz="int":=hkz
    subst hkz
    walk_at "l2"
    by_cases h0:i < 0
    ·refine ti (decide_eq_true h0) ?_
     walk_at "l2"
     exact ⟨by rw [sizeLine_eq];decide,qZ (CW (.inl h0))⟩
    ·refine o6 (decide_eq_false h0) ?_
     walk_at "l2"
     by_cases h1:40 < i
     ·refine ti (decide_eq_true h1) ?_
      walk_at "l2"
      exact ⟨by rw [sizeLine_eq];decide,qZ (CW (.inr (by omega)))⟩
     ·refine o6 (decide_eq_false h1) ?_
      obtain ⟨T',rfl⟩:=Int.eq_ofNat_of_zero_le (show 0≤i by omega)
      have hT:T'≤40:=by omega
      walk_at "l2"
      refine ⟨p,m,nx,os,T',rfl,ma,g,by omega,fun D1 H1 f1 s1 e1=>?_⟩
      walk_at "l2"
      refine bL (s1.get ho) rfl ?_
      walk_at "l2"
      intro D2 H2 f2 s2 e2
      walk_at "l2"
      refine Pq e2 (by omega) (by omega) (by rw [sizeLine_eq,Int.toNat_natCast];simp;omega) fun D3 H3 f3 s3 e3=>?_
      rw [Int.toNat_natCast,List.flatten_replicate_singleton,show List.replicate T' (V.int 0)=(List.replicate T' 0).map nat from by rw [List.map_replicate];rfl] at e3
      have s13:=s1.trans (s2.trans s3)
      have hz0:∀ r∈List.replicate T' 0,r < 2 ^ m:=fun r hr=>by rw [List.eq_of_mem_replicate hr];exact Nat.two_pow_pos _
      walk_at "l2"
      refine ⟨p,D3,m,nx,os,nat a0,(List.replicate T' 0).map nat,rfl,⟨ma.same s13,g,⟨"int",rfl⟩,SqL.of e3,IK.nats _ _ _,by rw [List.length_map,List.length_replicate];omega⟩,fun a1 rs1 gd H4 s4=>?_,fun bad=>False.elim (Mn ha0 hz0 bad)⟩
      obtain ⟨rfl,rfl⟩:=HD gd
      rw [M.wst_zs]
      have hzs:M.zs (prs nx) a0 T' < 2 ^ nx.length:=by
       have:=M.wst_lt (ps:=prs nx) (rs:=List.replicate T' 0) (x:=a0) (by rw [bo];exact ha0)
       rwa [bo,M.wst_zs] at this
      have s14:=s13.trans s4
      have e14:=s4.get (s3.get (s2.get e1))
      have lr:=M.rch_len (prs nx) m T'
      have hmul:T' * m≤40 * 6:=Nat.mul_le_mul hT m6
      have hlt:∀ r∈M.rch (prs nx) m T',r < 2 ^ nx.length:=fun r hr=>by have:=M.rch_lt (prs nx) m T' r hr;rwa [bo] at this
      have hrk:=M.rank_le hlt
      walk_at "l2"
      rw [c6]
      refine ⟨D1,M.rch (prs nx) m T',b0^^^M.zs (prs nx) a0 T',rfl,e14,by omega,fun r hr=>eg (hlt r hr) (by omega),eg (M.xor_lt_pow hb0 hzs) (by omega),.inr (by omega),fun t D5 H5 qq f5 s5 e5 e5' sd=>?_,fun t H5 mk s5 e5 bd=>?_⟩
      ·walk_at "l2"
       have hq1:qq < 2 ^ 1000:=eg sd.lt (by omega)
       refine ⟨p,D5,m,nx,os,qq,T',rfl,ma.same (s14.trans s5),g,e5',hq1,by omega,fun D6 H6 f6 s6 e6=>?_⟩
       walk_at "l2"
       intro t7 H7 f7 s7 e7
       refine qQ a0 b0 T' rfl rfl rfl ha0 hb0 hT t7 H7 (s14.trans (s5.trans (s6.trans s7))) (fun D hD=>?_) (.inl ⟨D6,qq,e7,s7.get e6,sd⟩)
       rw [e7] at hD
       have:D6=D:=by injection hD with h;injection h with h;injection h with _ h;injection h with h;injection h
       rw [← this]
       exact kW (s14.trans s5) f6
      ·walk_at "l2"
       refine qQ a0 b0 T' rfl rfl rfl ha0 hb0 hT t H5 (s14.trans s5) (fun D hD=>?_) (.inr ⟨mk,e5,bd⟩)
       rw [e5] at hD
       injection hD with h;injection h with h;injection h with h;injection h with h;exact absurd h (by decide)
  | bl b=>have hkz:kz="bool":=hkz;subst hkz;walk_at "l2";exact ⟨by rw [sizeLine_eq];decide,qZ rfl⟩
  | non=>have hkz:kz="NoneType":=hkz;subst hkz;walk_at "l2";exact ⟨by rw [sizeLine_eq];decide,qZ rfl⟩
  | str z=>have hkz:kz="str":=hkz;subst hkz;walk_at "l2";exact ⟨by rw [sizeLine_eq];decide,qZ rfl⟩
  | ref p2=>
    rcases hkz with ⟨rfl,_⟩ | ⟨rfl,_⟩ | ⟨rfl,_⟩<;>walk_at "l2"<;>exact ⟨by rw [sizeLine_eq];decide,qZ rfl⟩
  | _=>exact False.elim hkz
end
section
variable {P:Program} {w:World} {K:PySem.W.Frag} {mg:Str→Option Value} {base:Heap} {a:Ad}
local macro_rules | `(tactic| walk_at "l2step") =>`(tactic| first | ((with_reducible refine' fN ?e ?_);(case e=>walk_at "l2kind")) | ((with_reducible refine' i3 ?e ?_);(case e=>walk_at "l2kind")) | (with_reducible refine dS ?_) | (with_reducible refine gc ?_))
theorem vA (T:Tx K mg a):FnOk P w K mg base CX0 5 a.bM a.jq ["machine","mask"] (Dz a.ao):=by
 have wu:=@tN P w K mg base a T
 have cZ:=@fL P w K mg base a T
 refine T.gJ.ok iw (fun vs H Q E h=>?_) (fun cdv A outer s H vs Q E hr h=>?_)
 ·obtain ⟨p,m,nx,os,d,rfl,_⟩:=h;rfl
 ·obtain ⟨p,m,nx,os,d,rfl,ma,g,hd,q⟩:=h
  obtain ⟨dx,tn,to,ho,hn,ho2⟩:=ma.ho
  have ln:=g.ln
  refine ⟨_,((ae (aq (i:=2) iw.nd rfl (by walk_at "o") (eh (aa (pv 1) ai)))
   (ae (cW PassesOwn.never rfl (cc (by rfl) T.d3 (aa (xT (pv 0) T.aF T.gj cZ (hr.mono (by decide)) T.cX .nil aV) ai)) (aG (i:=3) iw.nd rfl (by walk_at "o")) (aj (bX (jA (K:=K) rfl PySem.F.plainAttrs_list PySem.F.slot_list_append PySem.F.type_list_append cL (pv 2) (aa (be (ax (K:=K) rfl) (cA (pv 0) T.aF T.vJ wu (hr.mono (by decide)) T.iI .nil thr0 (aa (be (fQ (K:=K) rfl) (pv 2) (Me Ga af) (fun _ _=>rfl)) ai)) af (fun _ _=>rfl)) ai)))))
   (aj (aM (pv 2)))))),aH (σ':=[some _,some _,none,none]) rfl ?_⟩
  walk_at "l2"
  intro D H1 f1 s1 e1
  walk_at "l2"
  refine jf (s1.get ho) rfl ?_
  walk_at "l2"
  refine ⟨p,m,nx,os,rfl,ma.same s1,?_⟩
  walk_at "l2"
  refine dP (fun i σ H'=>∃ v,σ=[some (.ref p),some (nat d),some (.ref D),v]∧Same H H'∧H' D=some (.lst ((M.bl (nA nx) d i).map nat))) ⟨none,rfl,s1,e1⟩ ?_ ?_
  ·rintro i σ H' hi ⟨v,rfl,s6,e6⟩
   have ez:(M.bl (nA nx) d i).map nat=((List.range i).map (M.bkI (nA nx) d)).map nat++[nat (M.bkI (nA nx) d i)]:=by unfold M.bl;rw [List.range_succ,List.map_append,List.map_append];rfl
   have hz:=M.bkI_lt (OC g) hd i
   rw [ez] at e6
   have hla:=C6 (((List.range i).map (M.bkI (nA nx) d)).map nat) (nat (M.bkI (nA nx) d i))
   have ma6:=ma.same s6
   have ho6:=s6.get ho
   walk_at "l2"
   refine bL ho6 rfl ?_
   walk_at "l2"
   refine ⟨p,m,nx,os,nat (M.bkI (nA nx) d i),"int",rfl,ma6,g,rfl,fun a1 ea _ t7 H7 s7 e7=>?_,fun bad=>?_⟩
   ·have ea:=cJ ea
    subst ea
    walk_at "l2"
    refine dU (s7.get e6) (by rw [List.length_append,List.length_map,List.length_map,List.length_range,sizeLine_eq];show i + 1 < _;omega) fun H8 u=>?_
    walk_at "l2"
    refine ⟨fun b o e=>u.oth b o (ar e f1) (s7.get (s6.get e)),?_⟩
    rw [u.at',← ez]
    unfold M.bl
    rw [List.range_succ (n:=i + 1),List.map_append,List.map_append]
    rfl
   ·rw [bG hz] at bad;cases bad
  ·rintro σ H' ⟨v,rfl,s6,e6⟩
   walk_at "l2"
   exact q D H' f1 s6 e6
theorem Ee (T:Tx K mg a):FnOk P w K mg base (CX1 P w) 7 a.eV a.uK ["machine","state"] (Gz K a.ao a.bt):=by
 have Cn:=@CQ P w K mg base a T
 have i7:=@pj P w K mg base a T
 have Cm:=@CP P w K mg base a T
 have vk:=@wO P w K mg base a T
 have yX:=@vA P w K mg base a T
 have cZ:=@fL P w K mg base a T
 have av:=@bj P w K mg base a T
 refine T.oR.okX gL (fun vs H Q E h=>?_) (fun cdv A outer s H vs Q E hr h=>?_)
 ·obtain ⟨p,m,nx,os,x,rfl,_⟩:=h;rfl
 ·obtain ⟨p,m,nx,os,x,rfl,ma,g,hl,⟨kx,hkx⟩,qQ,qM⟩:=h
  obtain ⟨dx,tn,to,ho,hn,ho2⟩:=ma.ho
  have m6:=g.m6
  refine ⟨_,((ae (bX (cA (pv 0) T.aF T.aO av (hr.mono (by decide)) T.aE .nil cP (aa (pv 1) ai)))
   (ae (aq (i:=2) gL.nd rfl (by walk_at "o") af)
   (ae (cW (jj ⟨rfl,rfl⟩) rfl (cc (by rfl) T.d3 (aa (aw cI (xT (pv 0) T.aF T.gj cZ (hr.mono (by decide)) T.cX .nil aV) af) ai)) (aG (i:=3) gL.nd rfl (by walk_at "o")) (ae (aq (i:=4) gL.nd rfl (by walk_at "o") (au i7 (hr.mono (by decide)) (by rfl) T.nZ T.nV T.i4 .nil aV (aa (au Cm (hr.mono (by decide)) (by rfl) T.HF T.Ho T.yM .nil aV (aa (pv 0) (aa (pv 3) ai))) (aa (pv 1) ai))))
   (ae (c7 (aU iT (be (ax (K:=K) rfl) (pv 4) af (fun _ _=>rfl)) dG (a8 _)) (aj (aM (dF (aa dG (aa (au vk (hr.mono (by decide)) (by rfl) T.Ac T.zZ T.oB .nil aV (aa (pv 0) (aa (be (ax (K:=K) rfl) (pv 4) af (fun _ _=>rfl)) (aa (pv 3) ai)))) (aa (pv 2) ai)))))) a7)
   (aj (aq (i:=2) gL.nd rfl (by walk_at "o") (be (ax (K:=K) rfl) (pv 4) af (fun _ _=>rfl)))))))
   (ae (aq (i:=5) gL.nd rfl (by walk_at "o") (au Cn (hr.mono (by decide)) (by rfl) T.HJ T.Ht T.yO .nil aV (aa (au yX (hr.mono (by decide)) (by rfl) T.yv T.yt T.ju .nil aV (aa (pv 0) (aa (pv 2) ai))) ai)))
   (aj (aM (dF (aa dG (aa (be (ax (K:=K) rfl) (pv 5) af (fun _ _=>rfl)) (aa (be (ax (K:=K) rfl) (pv 5) af (fun _ _=>rfl)) ai))))))))))),aH (σ':=[some _,some _,none,none,none,none]) rfl ?_⟩
  walk_at "l2"
  refine bL ho rfl ?_
  walk_at "l2"
  refine ⟨p,m,nx,os,x,kx,rfl,ma,hkx,fun hx=>?_,fun hx=>qM hx⟩
  obtain ⟨st,rfl,hst⟩:=gG hx
  have qQ:=qQ st rfl hst
  have hst1:=G7 hl hst
  walk_at "l2"
  refine jf ho rfl ?_
  walk_at "l2"
  refine ⟨p,m,nx,os,rfl,ma,?_⟩
  walk_at "l2"
  refine dP (fun i σ H'=>∃ v1 v2 mk,σ=[some (.ref p),some (nat st),some (nat mk),v1,v2,none]∧Same H H'∧(∀ j,j < i→¬ M.Span (M.rch (prs nx) m j) st)∧((i=0∧mk=0)∨∃ T',i=T' + 1∧Bard (M.rch (prs nx) m T') st mk)) ⟨none,none,0,rfl,Same.refl _,fun j h=>absurd h (Nat.not_lt_zero j),.inl ⟨rfl,rfl⟩⟩ ?_ ?_
  ·rintro i σ H' hi ⟨v1,v2,mk,rfl,s6,hno,hbr⟩
   have hin:i≤nx.length:=by omega
   have ma6:=ma.same s6
   have lrc:=M.rch_len (prs nx) m i
   have hmul:i * m≤60 * 6:=Nat.mul_le_mul (by omega) m6
   walk_at "l2"
   rw [Int.zero_add]
   refine ⟨p,m,nx,os,i,rfl,ma6,g,by omega,fun D1 H7 f7 s7 e7=>?_⟩
   walk_at "l2"
   refine uX (rows:=M.rch (prs nx) m i) (x:=st) e7 (by rw [lrc];omega) (fun r hr=>G7 hl (L8 (os:=os) hl i r hr)) hst1 (Nat.lt_of_le_of_lt (M.rank_le (L8 (os:=os) hl i)) (by omega)) fun t8 H8 s8 F8=>?_
   have s68:=(s6.trans s7).trans s8
   rcases F8 with ⟨D2,qq,e,e',sd,fD2⟩ | ⟨mk2,e,bd⟩
   ·have hqq:qq < 2 ^ 1000:=Nat.lt_of_lt_of_le sd.lt (Nat.pow_le_pow_right (by decide) (by rw [lrc];omega))
    walk_at "l2"
    refine ⟨p,D2,m,nx,os,qq,i,rfl,ma.same s68,g,e',hqq,by omega,fun D3 H9 f9 s9 e9=>?_⟩
    walk_at "l2"
    intro tt H10 f10 s10 e10
    exact qQ tt H10 ((s68.trans s9).trans s10) (.inl ⟨D3,i,qq,mk,⟨e10,s10.get e9,hin,hno,sd,hbr⟩,s68.free f9⟩)
   ·walk_at "l2"
    refine ⟨_,_,mk2,rfl,s68,fun j hj=>?_,.inr ⟨i,rfl,bd⟩⟩
    by_cases h:j < i
    ·exact hno j h
    ·rw [show j=i by omega];exact bd.ns
  ·rintro σ H' ⟨v1,v2,mk,rfl,s6,hno,hbr⟩
   have ma6:=ma.same s6
   have hbd:Bard (M.rch (prs nx) m nx.length) st mk:=by
    rcases hbr with ⟨h,_⟩ | ⟨T',h,hb⟩
    ·omega
    ·have:T'=nx.length:=by omega
     rw [← this];exact hb
   have hmk:=hbd.lt nx.length (L8 (os:=os) hl _) hst
   walk_at "l2"
   refine ⟨p,m,nx,os,mk,rfl,ma6,g,hmk,fun D1 H7 f7 s7 e7=>?_⟩
   walk_at "l2"
   refine ⟨D1,_,nx.length,rfl,e7,M.bl_len _ _ _,hl,M.bl_lt (OC g) hmk,fun t2 D S H8 pp qq fD fS nDS s8 e8 ct=>?_⟩
   walk_at "l2"
   intro tt H9 f9 s9 e9
   exact qQ tt H9 (((s6.trans s7).trans s8).trans s9) (.inr ⟨D,S,mk,pp,qq,⟨e9,fun j hj=>hno j (by omega),hbd,ct.same s9⟩,(s6.trans s7).free fD,(s6.trans s7).free fS,nDS⟩)
end
section
variable {P:Program} {w:World} {K:PySem.W.Frag} {mg:Str→Option Value} {base:Heap} {a:Ad}
local macro_rules | `(tactic| walk_at "l2step") =>`(tactic| first | ((with_reducible refine' fN ?e ?_);(case e=>walk_at "l2kind")) | ((with_reducible refine' i3 ?e ?_);(case e=>walk_at "l2kind")) | (with_reducible refine dS ?_) | (with_reducible refine gc ?_))
theorem mw (T:Tx K mg a):FnOk P w K mg base CX0 3 a.aW a.fc ["_law_steps_here"] (Gw K):=by
 refine T.de.ok aZ (fun vs H Q E h=>?_) (fun cdv A outer s H vs Q E hr h=>?_)
 ·obtain ⟨S,Ds,ps,os,m,rfl,_⟩:=h;rfl
 ·obtain ⟨S,Ds,ps,os,m,rfl,st,hl,hm,q⟩:=h
  have hu1:=j2 hr
  have hu0:=wX hr
  have hu:=vS hr
  refine ⟨_,((ae (aq (i:=1) aZ.nd rfl (by walk_at "o") (GS (CJ af af GM) rfl rfl (by simp) (by decide)))
   (ae (aq (i:=2) aZ.nd rfl (by walk_at "o") (eh (aa af ai)))
   (ae (kR PassesOwn.never (aU (Mg (K:=K) rfl hu0) (pv 2) (eh ai) (a8 _)) (ae (aq (i:=3) aZ.nd rfl (by walk_at "o") (eh ai))
   (ae (cW PassesOwn.never rfl (dy (K:=K) rfl (pv 2)) (aG (i:=4) aZ.nd rfl (by walk_at "o")) (aj (cW PassesOwn.never rfl (dy (K:=K) rfl (be (fQ (K:=K) rfl) (pv 0) (pv 4) (fun _ _=>rfl))) (qz rfl (bK (aG (i:=5) aZ.nd rfl (by walk_at "o")) (bK (aG (i:=6) aZ.nd rfl (by walk_at "o")) ix))) (aj (c7 (wI (tI hu (pv 6) (pv 1))) (ae (xK hu (pv 1) (pv 6) (aw cI (tF hu (pv 1) (pv 4) (fun _ _=>rfl)) af) rfl)
   (aj (bX (jA (K:=K) rfl PySem.F.plainAttrs_list PySem.F.slot_list_append PySem.F.type_list_append cL (pv 3) (aa (pv 6) ai))))) a7)))))
   (aj (aq (i:=2) aZ.nd rfl (by walk_at "o") (pv 3))))))
   (aj (aM (pv 1))))))),aH (σ':=[some _,none,none,none,none,none,none]) rfl ?_⟩
  walk_at "l2"
  intro D H1 f1 s1 e1
  walk_at "l2"
  intro L0 H2 f2 s2 e2
  walk_at "l2"
  have hn16:2 ^ ps.length≤16:=Nat.pow_le_pow_right (n:=2) (by decide) hl
  have hm8:2 ^ m≤8:=Nat.pow_le_pow_right (n:=2) (by decide) hm
  refine ⟨fun μ σ' H'=>∃ (J:Nat) (La:Addr) (line:List Nat) (es:List (Nat×Nat)) (v3 v4 v5 v6:Option V),μ=17 - J∧σ'=[some (.ref S),some (.ref D),some (.ref La),v3,v4,v5,v6]∧Same H H'∧H' La=some (.lst (line.map nat))∧H' D=some (.dK (kg ki es))∧line.length≤16∧(∀ s,s∈line↔M.lin ps m J s)∧LtD es ps m J,
   ⟨17,0,L0,[0],[(0,0)],none,none,none,none,rfl,rfl,s1.trans s2,e2,s2.get e1,by decide,fun s=>by rw [M.lin_zero];simp,⟨by decide,fun s i=>?_⟩⟩,?_⟩
  ·simp only [List.mem_singleton,Prod.mk.injEq]
   constructor
   ·rintro ⟨rfl,rfl⟩;exact ⟨M.lin_zero.mpr rfl,Nat.le_refl _⟩
   ·rintro ⟨h1,h2⟩
    have:i=0:=by omega
    subst this
    exact ⟨M.lin_zero.mp h1,rfl⟩
  clear e1 e2 s1 s2
  rintro μ σ' H3 ⟨J,La,line,es,v3,v4,v5,v6,rfl,rfl,s3,eL,eD,ll,hline,ltd⟩
  walk_at "l2"
  intro L1 H4 f4 s4 e4
  refine LX (SqL.of (s4.get eL)) (SqL.of e4) ?_
  by_cases hne:line=[]
  ·subst hne
   walk_at "l2"
   exact q D H4 _ f1 (s3.trans s4) (s4.get eD) (ltd.ltn fun s hs=>by have:=(hline s).mpr hs;cases this)
  ·have hne2:line.isEmpty=false:=by cases line with
    | nil=>exact absurd rfl hne
    | cons _ _=>rfl
   rw [hne2]
   walk_at "l2"
   have hJ:J < 2 ^ ps.length:=by
    cases line with
    | nil=>exact absurd rfl hne
    | cons x l=>exact M.lin_lt ((hline x).mp List.mem_cons_self)
   refine ⟨fun σ2 H9=>∃ (La:Addr) (ah:List Nat) (v4 v5 v6:Option V),σ2=[some (.ref S),some (.ref D),some (.ref La),some (.ref La),v4,v5,v6]∧Same H H9∧H9 La=some (.lst (ah.map nat))∧H9 D=some (.dK (kg ki (es++ah.map fun s=>(s,J + 1))))∧LtE es ah (fun s=>∃ x∈line,∃ r,r < 2 ^ m∧s=M.tr2 ps x r) (2 ^ ps.length) J,fun σ2 H9 ⟨La,ah,v4,v5,v6,e1,s1,e2,e3,le⟩=>?_,?_⟩
   ·obtain ⟨d1,d2⟩:=le.done ltd hline
    refine ⟨17 - (J + 1),by omega,J + 1,La,ah,_,_,_,_,_,rfl,e1,s1,e2,e3,?_,d2,d1⟩
    have:=le.len
    rw [List.length_append,List.length_map] at this
    omega
   ·have eL4:=s4.get eL
    have eD4:=s4.get eD
    have s14:=s3.trans s4
    walk_at "l2"
    intro La2 H5 f5 s5 e5
    have eL5:=s5.get eL4
    have eD5:=s5.get eD4
    have s15:=s14.trans s5
    have fLa:H La2=none:=by
     cases hh:H La2 with
     | none=>rfl
     | some u=>have:=s14.get hh;rw [f5] at this;cases this
    have nAD:La2≠D:=fun z=>by rw [z,eD4] at f5;cases f5
    have nAL:La2≠La:=fun z=>by rw [z,eL4] at f5;cases f5
    have nLD:La≠D:=fun z=>by rw [z,eD4] at eL4;cases eL4
    clear eL4 eD4 eL eD s4 s5 f4 e4 s3 s14
    walk_at "l2"
    refine gH (xs:=line.map nat) (fun i σ H'=>∃ (ah:List Nat) (v4 v5 v6:Option V),σ=[some (.ref S),some (.ref D),some (.ref La),some (.ref La2),v4,v5,v6]∧Same H H'∧H' La=some (.lst (line.map nat))∧H' La2=some (.lst (ah.map nat))∧H' D=some (.dK (kg ki (es++ah.map fun s=>(s,J + 1))))∧LtE es ah (fun s=>∃ x∈line.take i,∃ r,r < 2 ^ m∧s=M.tr2 ps x r) (2 ^ ps.length) J) ⟨[],v4,v5,v6,rfl,s15,eL5,e5,by simpa using eD5,?_⟩ (fun i σ H' _ ⟨_,_,_,_,_,_,e,_⟩=>SqL.of e) ?_ ?_
    ·refine ⟨by simpa using ltd.nd,fun s=>by simp,fun e he=>?_⟩
     rw [List.map_nil,List.append_nil] at he
     exact M.rin_lt (Nat.two_pow_pos _) ((ltd.iff e.1 e.2).mp he).1.1
    ·rintro i v σ H6 hv ⟨ah,w4,w5,w6,rfl,s6,eL6,eA6,eD6,le⟩
     obtain ⟨x,hx,rfl⟩:=bZ hv
     have hlin:=(hline x).mp (List.mem_of_getElem? hx)
     have hxl:x < 2 ^ ps.length:=M.rin_lt (Nat.two_pow_pos _) hlin.1
     obtain ⟨Dx,qs,gx,hDx,eQ,ptq,prq⟩:=st.row hxl
     have lq:=xv prq
     have gx2:atI (Ds.map V.ref) (x:Int)=some (.ref Dx):=nc gx
     have eS6:=(st.same s6).at_
     have htk:line.take (i + 1)=line.take i++[x]:=by rw [List.take_add_one,hx];rfl
     walk_at "l2"
     refine gH (xs:=refs qs) (fun r σ H'=>∃ (ah:List Nat) (v5 v6:Option V),σ=[some (.ref S),some (.ref D),some (.ref La),some (.ref La2),some (nat x),v5,v6]∧Same H H'∧H' La=some (.lst (line.map nat))∧H' La2=some (.lst (ah.map nat))∧H' D=some (.dK (kg ki (es++ah.map fun s=>(s,J + 1))))∧LtE es ah (fun s=>(∃ x∈line.take i,∃ r,r < 2 ^ m∧s=M.tr2 ps x r)∨∃ r',r' < r∧s=M.tr2 ps x r') (2 ^ ps.length) J) ⟨ah,w5,w6,rfl,s6,eL6,eA6,eD6,⟨le.nd,fun s=>by rw [le.iff];simp,le.lt⟩⟩ (fun r σ H' _ ⟨_,_,_,_,s',_⟩=>SqL.of (s'.get eQ)) ?_ ?_
     ·rintro r v σ H7 hv ⟨ah,v5,v6,rfl,s7,eL7,eA7,eD7,le⟩
      obtain ⟨qq,hq,rfl⟩:=bZ hv
      obtain ⟨hr2,e2⟩:=Cy prq hq
      have et:=s7.get (ptq qq (List.mem_of_getElem? hq))
      rw [e2] at et
      have hsn:∀ y,((∃ x∈line.take i,∃ r,r < 2 ^ m∧y=M.tr2 ps x r)∨∃ r',r' < r + 1∧y=M.tr2 ps x r')↔((∃ x∈line.take i,∃ r,r < 2 ^ m∧y=M.tr2 ps x r)∨∃ r',r' < r∧y=M.tr2 ps x r')∨y=M.tr2 ps x r:=fun y=>by
       rw [or_assoc]
       refine or_congr_right ⟨fun ⟨r',h1,h2⟩=>?_,fun h=>?_⟩
       ·by_cases z:r'=r
        ·exact .inr (by rw [h2,z])
        ·exact .inl ⟨r',by omega,h2⟩
       ·rcases h with ⟨r',h1,h2⟩ | h2
        ·exact ⟨r',by omega,h2⟩
        ·exact ⟨r,by omega,h2⟩
      have hln:=le.len
      walk_at "l2"
      by_cases hn:∀ j,(M.tr2 ps x r,j)∉es++ah.map fun s=>(s,J + 1)
      ·refine xF eD7 ?_
       rw [show valV (kg ki (es++ah.map fun s=>(s,J + 1))) (Sum.inl ((M.tr2 ps x r:Nat):Int))=none from mO wU hn]
       walk_at "l2"
       refine xG eD7 (show valV _ (Sum.inl ((x:Nat):Int))=some (nat J) from km wU le.nd (List.mem_append_left _ ((ltd.iff x J).mpr ⟨hlin,Nat.le_refl _⟩))) ?_
       walk_at "l2"
       refine Bg eD7 (by rw [K1];exact cU (by omega)) fun H8 u8=>?_
       have eA8:=u8.oth La2 _ nAD eA7
       walk_at "l2"
       refine dU eA8 (by rw [List.length_map];rw [List.length_append,List.length_map] at hln;exact cU (by omega)) fun H9 u9=>?_
       refine ⟨ah++[M.tr2 ps x r],_,_,rfl,u9.same fLa (u8.same f1 s7),u9.oth La _ (Ne.symm nAL) (u8.oth La _ nLD eL7),by rw [u9.at',List.map_append];rfl,?_,le.new hsn (M.tr2_lt _ _ _) hn⟩
       rw [u9.oth D _ (Ne.symm nAD) u8.at',List.map_append,List.map_cons,List.map_nil,← List.append_assoc,← K0 wU hn]
       rfl
      ·obtain ⟨j,hj⟩:∃ j,(M.tr2 ps x r,j)∈es++ah.map fun s=>(s,J + 1):=Classical.byContradiction fun z=>hn fun j hj=>z ⟨j,hj⟩
       refine xF eD7 ?_
       rw [show valV (kg ki (es++ah.map fun s=>(s,J + 1))) (Sum.inl ((M.tr2 ps x r:Nat):Int))=some (nat j) from km wU le.nd hj]
       walk_at "l2"
       exact ⟨ah,_,_,rfl,s7,eL7,eA7,eD7,le.old hsn hn⟩
     ·rintro σ H7 ⟨ah,v5,v6,rfl,s7,eL7,eA7,eD7,le⟩
      walk_at "l2"
      refine ⟨ah,_,_,_,rfl,s7,eL7,eA7,eD7,le.nd,fun s=>?_,le.lt⟩
      rw [le.iff,htk,cb,lq]
      refine and_congr_left fun _=>?_
      simp only [List.mem_append,List.mem_singleton,or_and_right,exists_or,exists_eq_left]
    ·rintro σ H6 ⟨ah,w4,w5,w6,rfl,s6,eL6,eA6,eD6,le⟩
     rw [List.length_map,List.take_length] at le
     walk_at "l2"
     exact ⟨_,ah,_,_,_,rfl,s6,eA6,eD6,le⟩
end
section
variable {P:Program} {w:World} {K:PySem.W.Frag} {mg:Str→Option Value} {base:Heap} {a:Ad}
local macro_rules | `(tactic| walk_at "l2step") =>`(tactic| first | ((with_reducible refine' fN ?e ?_);(case e=>walk_at "l2kind")) | ((with_reducible refine' i3 ?e ?_);(case e=>walk_at "l2kind")) | (with_reducible refine dS ?_) | (with_reducible refine gc ?_))
theorem nJ (T:Tx K mg a):FnOk P w K mg base CX0 8 a.bg a.fM ["_law_machine_here","_law_steps_here"] (DB a.ao):=by
 have oI:=@mw P w K mg base a T
 have IM:=@Ee P w K mg base a T
 refine T.dE.ok c8 (fun vs H Q E h=>?_) (fun cdv A outer s H vs Q E hr h=>?_)
 ·obtain ⟨p,S,Ds,m,nx,os,rfl,_⟩:=h;rfl
 ·obtain ⟨p,S,Ds,m,nx,os,rfl,ma,g,st,hl,hm,q⟩:=h
  have hu1:=j2 hr
  have hu0:=wX hr
  have hu:=vS hr
  have hn16:2 ^ nx.length≤16:=Nat.pow_le_pow_right (n:=2) (by decide) hl
  have lD:=st.len
  rw [bo] at lD
  refine ⟨_,((ae (aq (i:=2) c8.nd rfl (by walk_at "o") (au oI (hr.mono (by decide)) (by rfl) T.n6 T.nX T.fi .nil aV (aa (pv 1) ai)))
   (ae (cW PassesOwn.never rfl (cc (by rfl) T.d3 (aa (bD (cq (K:=K) rfl) (by rfl) T.nN PySem.boot_len (aa (pv 1) ai)) ai)) (aG (i:=3) c8.nd rfl (by walk_at "o")) (ae (aq (i:=4) c8.nd rfl (by walk_at "o") (xW IM (hr.mono (by decide)) (by rfl) T.HI T.Hs T.vb .nil thr0 (aa (pv 0) (aa (pv 3) ai))))
   (ae (c7 (PW.pt (qw (wI (CN hu (pv 3) (pv 2))) (j3 (PW.pt (xJ (aU Bm (be (ax (K:=K) rfl) (pv 4) af (fun _ _=>rfl)) dG (a8 _)) (tj (aU Bm (bD (cq (K:=K) rfl) (by rfl) T.nN PySem.boot_len (aa (be (ax (K:=K) rfl) (pv 4) af (fun _ _=>rfl)) ai)) (tF hu (pv 2) (pv 3) (fun _ _=>rfl)) (a8 _)))))))) (aj (aM lj)) a7)
   (aj (c7 (PW.pt (qw (wI (tI hu (pv 3) (pv 2))) (j3 (aU Bm (be (ax (K:=K) rfl) (pv 4) af (fun _ _=>rfl)) dG (a8 _))))) (aj (aM lj)) a7)))))
   (aj (aM lj))))),aH (σ':=[some _,some _,none,none,none]) rfl ?_⟩
  walk_at "l2"
  refine ⟨S,Ds,prs nx,prs os,m,rfl,st,by rw [bo];exact hl,hm,fun D H1 kvs f1 s1 e1 ltn=>?_⟩
  have eS:=(st.same s1).at_
  walk_at "l2"
  rw [List.length_map,lD]
  walk_at "l2"
  rw [Int.toNat_natCast]
  have okm:∀ {y:Nat} {X:Prop},y < 2 ^ nx.length→gi (nat y) nx.length=false→X:=fun {y X} h1 h=>by rw [bG h1] at h;cases h
  refine dP (lo:=0) (n:=2 ^ nx.length) (fun i σ H'=>∃ (v3 v4:Option V),σ=[some (.ref p),some (.ref S),some (.ref D),v3,v4]∧Same H1 H') ⟨none,none,rfl,Same.refl _⟩ ?_ ?_
  ·rintro i σ H2 hi ⟨v3,v4,rfl,s2⟩
   rw [Int.zero_add]
   walk_at "l2"
   refine ⟨p,m,nx,os,nat i,rfl,(ma.same s1).same s2,g,by omega,⟨"int",rfl⟩,fun st1 ex1 _ f H3 s3 cm=>?_,fun bad=>okm hi bad⟩
   have ex1:=cJ ex1
   subst ex1
   have e3:=s3.get (s2.get e1)
   have s23:=s2.trans s3
   walk_at "l2"
   refine CD e3 ?_
   rcases cm with ⟨Dc,T',qq,mk,h,_⟩ | ⟨Dc,Sc,mk,pp,qq,h,_⟩
   ·have hlin:M.lin (prs nx) m T' i:=⟨(M.rin0_iff _ _ _ _).mpr h.in_,fun j hj hr=>h.no j hj ((M.rin0_iff _ _ _ _).mp hr)⟩
    have hv:valV kvs (Sum.inl ((i:Nat):Int))=some (nat T'):=(ltn i).1 T' hlin
    have hlen:=M.upk_len m qq T'
    have ef:=h.f
    have ed:=h.d
    rw [hv]
    walk_at "l2"
    refine xG e3 hv ?_
    rw [List.length_map,hlen]
    walk_at "l2"
    refine o6 (by rw [Bool.not_eq_false'];exact decide_eq_true rfl) ?_
    walk_at "l2"
    refine xF e3 ?_
    rw [hv]
    walk_at "l2"
    exact ⟨_,_,rfl,s23⟩
   ·have hv:valV kvs (Sum.inl ((i:Nat):Int))=none:=(ltn i).2 fun j hj=>by
     obtain ⟨rs,_,_,e⟩:=M.rin_of _ _ _ _ _ hj.1
     exact h.walk g e
    have ef:=h.f
    rw [hv]
    walk_at "l2"
    refine xF e3 ?_
    rw [hv]
    walk_at "l2"
    exact ⟨_,_,rfl,s23⟩
  ·rintro σ H2 ⟨v3,v4,rfl,s2⟩
   walk_at "l2"
   exact q H2 (s1.trans s2)
end
section
variable {P:Program} {w:World} {K:PySem.W.Frag} {mg:Str→Option Value} {base:Heap} {a:Ad}
local macro_rules | `(tactic| walk_at "l2step") =>`(tactic| first | ((with_reducible refine' fN ?e ?_);(case e=>walk_at "l2kind")) | ((with_reducible refine' i3 ?e ?_);(case e=>walk_at "l2kind")) | (with_reducible refine dS ?_) | (with_reducible refine gc ?_))
theorem rm (T:Tx K mg a):FnOk P w K mg base CX0 5 a.bx a.g5 ["machine","state"] (Dw a.ao):=by
 have bO:=@eK P w K mg base a T
 have cZ:=@fL P w K mg base a T
 refine T.fq.ok gb (fun vs H Q E h=>?_) (fun cdv A outer s H vs Q E hr h=>?_)
 ·obtain ⟨p,m,nx,os,d,rfl,_⟩:=h;rfl
 ·obtain ⟨p,m,nx,os,d,rfl,ma,g,hd,q⟩:=h
  obtain ⟨dx,tn,to,ho,hn,ho2⟩:=ma.ho
  have ln:=g.ln
  refine ⟨_,((ae (aq (i:=2) gb.nd rfl (by walk_at "o") (eh (aa (pv 1) ai)))
   (ae (cW PassesOwn.never rfl (cc (by rfl) T.d3 (aa (xT (pv 0) T.aF T.gj cZ (hr.mono (by decide)) T.cX .nil aV) ai)) (aG (i:=3) gb.nd rfl (by walk_at "o")) (aj (bX (jA (K:=K) rfl PySem.F.plainAttrs_list PySem.F.slot_list_append PySem.F.type_list_append cL (pv 2) (aa (be (ax (K:=K) rfl) (cA (pv 0) T.aF T.dO bO (hr.mono (by decide)) T.cx .nil thr0 (aa (be (fQ (K:=K) rfl) (pv 2) (Me Ga af) (fun _ _=>rfl)) (aa af ai))) af (fun _ _=>rfl)) ai)))))
   (aj (aM (pv 2)))))),aH (σ':=[some _,some _,none,none]) rfl ?_⟩
  walk_at "l2"
  intro D H1 f1 s1 e1
  walk_at "l2"
  refine jf (s1.get ho) rfl ?_
  walk_at "l2"
  refine ⟨p,m,nx,os,rfl,ma.same s1,?_⟩
  walk_at "l2"
  refine dP (fun i σ H'=>∃ v,σ=[some (.ref p),some (nat d),some (.ref D),v]∧Same H H'∧H' D=some (.lst ((M.zl (prs nx) d i).map nat))) ⟨none,rfl,s1,e1⟩ ?_ ?_
  ·rintro i σ H' hi ⟨v,rfl,s6,e6⟩
   have ez:(M.zl (prs nx) d i).map nat=((List.range i).map (M.zs (prs nx) d)).map nat++[nat (M.zs (prs nx) d i)]:=by unfold M.zl;rw [List.range_succ,List.map_append,List.map_append];rfl
   have hz:=M.zs_lt (ps:=prs nx) (d:=d) (by rw [bo];exact hd) i
   rw [bo] at hz
   rw [ez] at e6
   have hla:=C6 (((List.range i).map (M.zs (prs nx) d)).map nat) (nat (M.zs (prs nx) d i))
   have ma6:=ma.same s6
   have ho6:=s6.get ho
   walk_at "l2"
   refine bL ho6 rfl ?_
   walk_at "l2"
   refine ⟨p,m,nx,os,nat (M.zs (prs nx) d i),nat 0,"int","int",rfl,ma6,g,rfl,rfl,fun a1 b1 ea eb _ _ t7 H7 s7 e7=>?_,fun bad=>?_⟩
   ·have ea:=cJ ea
    have eb:=cJ eb
    subst ea eb
    walk_at "l2"
    refine dU (s7.get e6) (by rw [List.length_append,List.length_map,List.length_map,List.length_range,sizeLine_eq];show i + 1 < _;omega) fun H8 u=>?_
    walk_at "l2"
    refine ⟨fun b o e=>u.oth b o (ar e f1) (s7.get (s6.get e)),?_⟩
    rw [u.at',← ez]
    unfold M.zl
    rw [List.range_succ (n:=i + 1),List.map_append,List.map_append]
    rfl
   ·rcases bad with h | h
    ·rw [bG hz] at h;cases h
    ·rw [bG (Nat.two_pow_pos _)] at h;cases h
  ·rintro σ H' ⟨v,rfl,s6,e6⟩
   walk_at "l2"
   exact q D H' f1 s6 e6
theorem x5 (T:Tx K mg a):FnOk P w K mg base (CX1 P w) 7 a.cf a.ko ["machine","one","other"] (Jr K a.ao a.bt):=by
 have Cn:=@CQ P w K mg base a T
 have vj:=@rm P w K mg base a T
 have bO:=@eK P w K mg base a T
 have av:=@bj P w K mg base a T
 refine T.ip.okX eG (fun vs H Q E h=>?_) (fun cdv A outer s H vs Q E hr h=>?_)
 ·obtain ⟨p,m,nx,os,x,y,rfl,_⟩:=h;rfl
 ·obtain ⟨p,m,nx,os,x,y,rfl,ma,g,hl,⟨kx,hkx⟩,⟨ky,hky⟩,qQ,qM⟩:=h
  obtain ⟨dx,tn,to,ho,hn,ho2⟩:=ma.ho
  have m6:=g.m6
  refine ⟨_,((ae (bX (cA (pv 0) T.aF T.aO av (hr.mono (by decide)) T.aE .nil cP (aa (pv 1) ai)))
   (ae (bX (cA (pv 0) T.aF T.aO av (hr.mono (by decide)) T.aE .nil cP (aa (pv 2) ai)))
   (ae (aq (i:=3) eG.nd rfl (by walk_at "o") (au Cn (hr.mono (by decide)) (by rfl) T.HJ T.Ht T.yO .nil aV (aa (au vj (hr.mono (by decide)) (by rfl) T.uA T.ux T.hV .nil aV (aa (pv 0) (aa (aw lX (pv 1) (pv 2)) ai))) ai)))
   (ae (cW (jj ⟨rfl,rfl⟩) rfl (ph (K:=K) rfl (by rfl) T.d4 (be (ax (K:=K) rfl) (pv 3) af (fun _ _=>rfl))) (qz rfl (bK (aG (i:=4) eG.nd rfl (by walk_at "o")) (bK (aG (i:=5) eG.nd rfl (by walk_at "o")) ix))) (ae (aq (i:=6) eG.nd rfl (by walk_at "o") (be (ax (K:=K) rfl) (cA (pv 0) T.aF T.dO bO (hr.mono (by decide)) T.cx .nil cP (aa (pv 5) (aa af ai))) af (fun _ _=>rfl)))
   (aj (c7 (aU Bm (pv 6) af (a8 _)) (aj (aM (dF (aa dG (aa (pv 4) (aa (aw lY (j5 (K:=K) rfl PySem.F.plainAttrs_int PySem.F.slot_int_bit_length PySem.F.type_int_bit_length kb (pv 6)) af) ai)))))) a7))))
   (aj (aM (dF (aa dG (aa (be (ax (K:=K) rfl) (pv 3) af (fun _ _=>rfl)) (aa (be (ax (K:=K) rfl) (pv 3) af (fun _ _=>rfl)) ai))))))))))),aH (σ':=[some _,some _,some _,none,none,none,none]) rfl ?_⟩
  walk_at "l2"
  refine bL ho rfl ?_
  walk_at "l2"
  refine ⟨p,m,nx,os,x,kx,rfl,ma,hkx,fun hx=>?_,fun hx=>qM (.inl hx)⟩
  walk_at "l2"
  refine bL ho rfl ?_
  walk_at "l2"
  refine ⟨p,m,nx,os,y,ky,rfl,ma,hky,fun hy=>?_,fun hy=>qM (.inr hy)⟩
  obtain ⟨a0,rfl,ha0⟩:=gG hx
  obtain ⟨b0,rfl,hb0⟩:=gG hy
  have qQ:=qQ a0 b0 rfl rfl ha0 hb0
  have hd:=M.xor_lt_pow ha0 hb0
  walk_at "l2"
  rw [c6]
  refine ⟨p,m,nx,os,a0^^^b0,rfl,ma,g,hd,fun D1 H1 f1 s1 e1=>?_⟩
  walk_at "l2"
  refine ⟨D1,_,nx.length,rfl,e1,M.zl_len _ _ _,hl,fun z hz=>?_,fun t2 D S H2 pl qq fD fS nDS s2 e2 ct=>?_⟩
  ·have:=M.zl_lt (ps:=prs nx) (by rw [bo];exact hd) z hz
   rwa [bo] at this
  have s12:=s1.trans s2
  have hpl:pl≤nx.length:=by have:=ct.fs.lt;rw [M.zl_len] at this;omega
  have ed:=ct.d
  walk_at "l2"
  refine sQ (xs:=((M.zl (prs nx) (a0^^^b0) nx.length).take pl).map nat) (fun i σ H'=>∃ v1 v2 v3,σ=[some (.ref p),some (nat a0),some (nat b0),some (.ref t2),v1,v2,v3]∧Same H2 H'∧∀ j,j < i→M.tr2 (prs os) (M.zs (prs nx) (a0^^^b0) j) 0=0) ⟨none,none,none,rfl,Same.refl _,fun j h=>absurd h (Nat.not_lt_zero j)⟩ (fun i σ H' _ ⟨_,_,_,_,s,_⟩=>SqL.of (s.get ed)) ?_ ?_
  ·rintro i y σ H' pt H6 hy ⟨v1,v2,v3,rfl,s5,hq⟩ fp sp ep
   obtain ⟨z,hz,rfl⟩:=bZ hy
   have hip:i < pl:=by
    have:=(List.getElem?_eq_some_iff.mp hz).1
    rw [List.length_take] at this
    omega
   rw [List.getElem?_take_of_lt hip,M.zl_get (by omega)] at hz
   cases hz
   have s16:=s12.trans (s5.trans sp)
   have hzl:=M.zs_lt (ps:=prs nx) (d:=a0^^^b0) (by rw [bo];exact hd) i
   rw [bo] at hzl
   walk_at "l2"
   refine bL (s16.get ho) rfl ?_
   walk_at "l2"
   refine ⟨p,m,nx,os,nat (M.zs (prs nx) (a0^^^b0) i),nat 0,"int","int",rfl,ma.same s16,g,rfl,rfl,fun a1 b1 ea eb _ _ t7 H7 s7 e7=>?_,fun bad=>?_⟩
   ·have ea:=cJ ea
    have eb:=cJ eb
    subst ea eb
    walk_at "l2"
    generalize hans:M.tr2 (prs os) (M.zs (prs nx) (a0^^^b0) i) 0=ans at e7 ⊢
    refine iteB (fun hc=>?_) (fun hc=>?_)
    ·have h0:ans≠0:=fun z=>by subst z;exact absurd hc (by decide)
     walk_at "l2"
     rw [jt h0,show ((ans.log2 + 1:Nat):Int) - 1=((ans.log2:Nat):Int) by omega]
     intro tt H8 f8 s8 e8
     exact qQ tt H8 ((s16.trans s7).trans s8) (.inl ⟨i,ans,e8,by omega,hans.symm,h0,hq⟩)
    ·have h0:ans=0:=by
      by_cases z:ans=0
      ·exact z
      ·exfalso
       have:(!decide (nat ans=nat 0))=false:=hc
       rw [decide_eq_false (fun w=>z (cJ w))] at this
       cases this
     subst h0
     walk_at "l2"
     refine ⟨_,_,_,rfl,(s5.trans sp).trans s7,fun j hj=>?_⟩
     by_cases hji:j < i
     ·exact hq j hji
     ·rw [show j=i by omega];exact hans
   ·rcases bad with h | h
    ·rw [bG hzl] at h;cases h
    ·rw [bG (Nat.two_pow_pos _)] at h;cases h
  ·rintro σ H' ⟨v1,v2,v3,rfl,s5,hq⟩
   have e5:=s5.get e2
   have lz:(((M.zl (prs nx) (a0^^^b0) nx.length).take pl).map nat).length=pl:=by rw [List.length_map,List.length_take,M.zl_len];omega
   rw [lz] at hq
   walk_at "l2"
   intro tt H8 f8 s8 e8
   exact qQ tt H8 (s12.trans (s5.trans s8)) (.inr ⟨D,S,pl,qq,e8,s1.free fD,s1.free fS,nDS,ct.same (s5.trans s8),hq⟩)
end
section
variable {P:Program} {w:World} {K:PySem.W.Frag} {mg:Str→Option Value} {base:Heap} {a:Ad}
local macro_rules | `(tactic| walk_at "l2step") =>`(tactic| first | ((with_reducible refine' fN ?e ?_);(case e=>walk_at "l2kind")) | ((with_reducible refine' i3 ?e ?_);(case e=>walk_at "l2kind")) | (with_reducible refine dS ?_) | (with_reducible refine gc ?_))
theorem mx (T:Tx K mg a):FnOk P w K mg base CX0 8 a.aX a.ff ["_law_machine_here","_law_unlike","_law_one","_law_other"] (A8 a.ao):=by
 have AU:=@x5 P w K mg base a T
 refine T.df.ok gP (fun vs H Q E h=>?_) (fun cdv A outer s H vs Q E hr h=>?_)
 ·obtain ⟨p,F,kvs,m,x,y,nx,os,rfl,_⟩:=h;rfl
 ·obtain ⟨p,F,kvs,m,x,y,nx,os,rfl,ma,g,eF,uf,hl,hx,hy,q⟩:=h
  have hu1:=j2 hr
  have hu0:=wX hr
  have hu:=vS hr
  have okm:∀ {y:Nat} {X:Prop},y < 2 ^ nx.length→gi (nat y) nx.length=false→X:=fun {y X} h1 h=>by rw [bG h1] at h;cases h
  refine ⟨_,((ae (aq (i:=4) gP.nd rfl (by walk_at "o") (xW AU (hr.mono (by decide)) (by rfl) T.Ab T.zY T.kH .nil thr0 (aa (pv 0) (aa (pv 2) (aa (pv 3) ai)))))
   (ae (c7 (wI (CN hu (dF (aa (pv 2) (aa (pv 3) ai))) (pv 1))) (aj (aM (zm (iy iT (be (ax (K:=K) rfl) (pv 4) af (fun _ _=>rfl)) dG (a8 _)) (CL (iy iT (be (ax (K:=K) rfl) (pv 4) af (fun _ _=>rfl)) (tF hu (pv 1) (dF (aa (pv 2) (aa (pv 3) ai))) (fun _ _=>rfl)) (a8 _)))))) a7)
   (aj (aM (iy iT (be (ax (K:=K) rfl) (pv 4) af (fun _ _=>rfl)) dG (a8 _))))))),aH (σ':=[some _,some _,some _,some _,none]) rfl ?_⟩
  walk_at "l2"
  refine ⟨p,m,nx,os,nat x,nat y,rfl,ma,g,by omega,⟨"int",rfl⟩,⟨"int",rfl⟩,fun x1 y1 ex1 ey1 _ _ f H1 s1 ap=>?_,fun bad=>bad.elim (okm hx) (okm hy)⟩
  have ex1:=cJ ex1
  have ey1:=cJ ey1
  subst ex1
  subst ey1
  walk_at "l2"
  intro tp H2 f2 s2 e2
  have eF2:=s2.get (s1.get eF)
  have s12:=s1.trans s2
  walk_at "l2"
  refine N0 (k:=kp (x,y)) eF2 e2 ?_
  have uxy:=uf x y (by rw [bo];exact hx) (by rw [bo];exact hy)
  rcases Apt.of ap with ⟨k,ans,h⟩ | ⟨Da,Sa,pp,qq,h,_⟩
  ·have hf:M.fu (prs nx) (prs os) k (x^^^y):=⟨by rw [← h.an];exact h.ne,h.qu⟩
   have ef:=s2.get h.f
   rw [uxy.1 k hf]
   walk_at "l2"
   intro tp2 H3 f3 s3 e3
   refine L3 (k:=kp (x,y)) (s3.get eF2) e3 (uxy.1 k hf) ?_
   walk_at "l2"
   rw [decide_eq_true rfl]
   exact q _ (s12.trans s3)
  ·have hn:∀ i,¬ M.fu (prs nx) (prs os) i (x^^^y):=fun i hf=>hf.1 (M.zs_quiet h.ct.fs h.qu i)
   have ef:=s2.get h.f
   rw [uxy.2 hn]
   walk_at "l2"
   rw [decide_eq_true rfl]
   exact q _ s12
end
section
variable {P:Program} {w:World} {K:PySem.W.Frag} {mg:Str→Option Value} {base:Heap} {a:Ad}
local macro_rules | `(tactic| walk_at "l2step") =>`(tactic| first | ((with_reducible refine' fN ?e ?_);(case e=>walk_at "l2kind")) | ((with_reducible refine' i3 ?e ?_);(case e=>walk_at "l2kind")) | (with_reducible refine dS ?_) | (with_reducible refine gc ?_))
theorem j7 (T:Tx K mg a):FnOk P w K mg base CX0 8 a.aK a.dM ["_law_machine_here","_law_steps_here","_law_one","_law_other","_law_turns"] (Gy a.ao):=by
 have IP:=@Ef P w K mg base a T
 refine T.cB.ok aN (fun vs H Q E h=>?_) (fun cdv A outer s H vs Q E hr h=>?_)
 ·obtain ⟨p,S,Ds,m,x,y,t,nx,os,rfl,_⟩:=h;rfl
 ·obtain ⟨p,S,Ds,m,x,y,t,nx,os,rfl,ma,g,st,hl,hm,hx,hy,ht,q⟩:=h
  have hu1:=j2 hr
  have hu0:=wX hr
  have hu:=vS hr
  have hn16:2 ^ nx.length≤16:=Nat.pow_le_pow_right (n:=2) (by decide) hl
  have okm:∀ {y:Nat} {X:Prop},y < 2 ^ nx.length→gi (nat y) nx.length=false→X:=fun {y X} h1 h=>by rw [bG h1] at h;cases h
  refine ⟨_,((ae (aq (i:=5) aN.nd rfl (by walk_at "o") (GS (CJ (pv 2) lj GM) rfl rfl (by simp) (by decide)))
   (ae (cW PassesOwn.never rfl (cc (by rfl) T.d3 (aa (pv 4) ai)) (aG (i:=6) aN.nd rfl (by walk_at "o")) (ae (aq (i:=7) aN.nd rfl (by walk_at "o") CM)
   (ae (cW PassesOwn.never rfl (Md (pv 5)) (aG (i:=8) aN.nd rfl (by walk_at "o")) (aj (cW PassesOwn.never rfl (dy (K:=K) rfl (be (fQ (K:=K) rfl) (pv 1) (pv 8) (fun _ _=>rfl))) (qz rfl (bK (aG (i:=9) aN.nd rfl (by walk_at "o")) (bK (aG (i:=10) aN.nd rfl (by walk_at "o")) ix))) (aj (xK hu (pv 7) (pv 10) lj rfl)))))
   (aj (aq (i:=5) aN.nd rfl (by walk_at "o") (pv 7))))))
   (aj (aM (iy iT (iy iT (be (ax (K:=K) rfl) (xW IP (hr.mono (by decide)) (by rfl) T.HK T.Hu T.vc .nil thr0 (aa (pv 0) (aa (pv 2) (aa (pv 3) (aa (pv 4) ai))))) af (fun _ _=>rfl)) dG (a8 _)) (Oo (CN hu (pv 3) (pv 5))) (a8 _))))))),aH (σ':=[some _,some _,some _,some _,some _,none,none,none,none,none,none]) rfl ?_⟩
  walk_at "l2"
  intro D f1
  refine ⟨_,rfl,?_⟩
  refine ⟨bf,[(Sum.inl ((x:Nat):Int),.bl true)],rfl,Nat.le_of_ble_eq_true rfl,?_⟩
  obtain ⟨H1,hH1⟩:∃ H1,H1=upd (upd H D (.dK [])) D (.dK (cy [x])):=⟨_,rfl⟩
  show BS 5 (V.ref D) _ (upd (upd H D (.dK [])) D (.dK (cy [x]))) _
  rw [← hH1]
  have s1:Same H H1:=fun b u e=>by rw [hH1,aL (ar e f1),aL (ar e f1)];exact e
  have e1:H1 D=some (.dK (cy [x])):=by rw [hH1];exact bf
  clear hH1
  walk_at "l2"
  rw [Int.toNat_natCast]
  refine dP (lo:=0) (n:=t) (fun k σ H'=>∃ (D:Addr) (ks:List Nat) (v6 v7 v8 v9 v10:Option V),σ=[some (.ref p),some (.ref S),some (nat x),some (nat y),some (nat t),some (.ref D),v6,v7,v8,v9,v10]∧Same H H'∧H D=none∧H' D=some (.dK (cy ks))∧ks.Nodup∧∀ s,s∈ks↔M.rin (prs nx) m x k s) ⟨D,[x],none,none,none,none,none,rfl,s1,f1,e1,by simp,fun s=>by rw [List.mem_singleton];rfl⟩ ?_ ?_
  ·clear e1 s1 f1 D H1
   rintro k σ H2 hk ⟨D,ks,v6,v7,v8,v9,v10,rfl,s2,fD,eD,nd,hks⟩
   rw [Int.zero_add]
   walk_at "l2"
   intro D2 H3 f3 s3 e3
   have e3:H3 D2=some (.dK (cy [])):=e3
   have s23:=s2.trans s3
   have f2:=s2.free f3
   have nDD:D≠D2:=ar eD f3
   have eD3:=s3.get eD
   walk_at "l2"
   refine LS ?_
   walk_at "l2"
   refine ⟨D,_,rfl,.inl eD3,fun o H4 e4 k4=>?_⟩
   have s4:Same H H4:=fun b ob e=>by rw [k4 b (ar e fD)];exact s23.get e
   have e24:H4 D2=some (.dK (cy [])):=by rw [k4 D2 (Ne.symm nDD)];exact e3
   clear eD3 s23 e3 s3 eD s2 k4
   refine Kc (kvs:=cy ks) (fun i σ H'=>∃ (k2:List Nat) (v8 v9 v10:Option V),σ=[some (.ref p),some (.ref S),some (nat x),some (nat y),some (nat t),some (.ref D),some (nat k),some (.ref D2),v8,v9,v10]∧Same H H'∧H' D=some (.frz o (.dK (cy ks)))∧H' D2=some (.dK (cy k2))∧k2.Nodup∧∀ s,s∈k2↔∃ z∈ks.take i,∃ r,r < 2 ^ m∧s=M.tr2 (prs nx) z r) ⟨[],v8,v9,v10,rfl,s4,e4,e24,List.nodup_nil,fun s=>by simp⟩ (fun i σ H' _ ⟨_,_,_,_,_,_,e,_⟩=>e) ?_ ?_
   ·rintro i kk vv σ H5 hkv ⟨k2,w8,w9,w10,rfl,s5,eD5,e25,nd2,hk2⟩
    unfold cy at hkv
    rw [List.getElem?_map,Option.map_eq_some_iff] at hkv
    obtain ⟨z,hz,ez⟩:=hkv
    cases ez
    have hzr:=(hks z).mp (List.mem_of_getElem? hz)
    have hzl:z < 2 ^ (prs nx).length:=M.rin_lt (by rw [bo];exact hx) hzr
    obtain ⟨Dx,qs,gx,hDx,eQ,ptq,prq⟩:=st.row hzl
    have lq:=xv prq
    have gx2:atI (Ds.map V.ref) (z:Int)=some (.ref Dx):=nc gx
    have eS5:=(st.same s5).at_
    have htk:ks.take (i + 1)=ks.take i++[z]:=by rw [List.take_add_one,hz];rfl
    show BS 8 (nat z) _ _ _
    walk_at "l2"
    refine gH (xs:=refs qs) (fun r σ H'=>∃ (k2:List Nat) (v9 v10:Option V),σ=[some (.ref p),some (.ref S),some (nat x),some (nat y),some (nat t),some (.ref D),some (nat k),some (.ref D2),some (nat z),v9,v10]∧Same H H'∧H' D=some (.frz o (.dK (cy ks)))∧H' D2=some (.dK (cy k2))∧k2.Nodup∧∀ s,s∈k2↔(∃ z∈ks.take i,∃ r,r < 2 ^ m∧s=M.tr2 (prs nx) z r)∨∃ r',r' < r∧s=M.tr2 (prs nx) z r') ⟨k2,w9,w10,rfl,s5,eD5,e25,nd2,fun s=>by rw [hk2];simp⟩ (fun r σ H' _ ⟨_,_,_,_,s',_⟩=>SqL.of (s'.get eQ)) ?_ ?_
    ·rintro r v σ H6 hv ⟨k2,x9,x10,rfl,s6,eD6,e26,nd6,hk6⟩
     obtain ⟨qq,hq,rfl⟩:=bZ hv
     obtain ⟨hr2,e2⟩:=Cy prq hq
     have et:=s6.get (ptq qq (List.mem_of_getElem? hq))
     rw [e2] at et
     have hln:k2.length≤16:=by
      have:=M.nodup_le (2 ^ nx.length) k2 nd6 fun s hs=>by
       rcases (hk6 s).mp hs with ⟨_,_,_,_,e⟩ | ⟨_,_,e⟩
       ·rw [e,← bo];exact M.tr2_lt _ _ _
       ·rw [e,← bo];exact M.tr2_lt _ _ _
      omega
     walk_at "l2"
     refine Bg e26 (by unfold cy;rw [List.length_map];exact cU (by omega)) fun H7 u7=>?_
     have hsn:∀ k3:List Nat,(∀ s,s∈k3↔s∈k2∨s=M.tr2 (prs nx) z r)→∀ s,s∈k3↔(∃ z∈ks.take i,∃ r,r < 2 ^ m∧s=M.tr2 (prs nx) z r)∨∃ r',r' < r + 1∧s=M.tr2 (prs nx) z r':=fun k3 h s=>by
      rw [h,hk6,or_assoc]
      refine or_congr_right ⟨fun h=>?_,fun ⟨r',h1,h2⟩=>?_⟩
      ·rcases h with ⟨r',h1,h2⟩ | h2
       ·exact ⟨r',by omega,h2⟩
       ·exact ⟨r,by omega,h2⟩
      ·by_cases w:r'=r
       ·exact .inr (by rw [h2,w])
       ·exact .inl ⟨r',by omega,h2⟩
     by_cases hin:M.tr2 (prs nx) z r∈k2
     ·refine ⟨k2,_,_,rfl,u7.same f2 s6,u7.oth D _ nDD eD6,u7.at'.trans (congrArg (fun l=>some (HO.dK l)) (Od hin)),nd6,hsn k2 fun s=>⟨.inl,fun h=>h.elim id fun e=>by rw [e];exact hin⟩⟩
     ·refine ⟨k2++[M.tr2 (prs nx) z r],_,_,rfl,u7.same f2 s6,u7.oth D _ nDD eD6,u7.at'.trans (congrArg (fun l=>some (HO.dK l)) (JG hin)),?_,hsn _ fun s=>by rw [List.mem_append,List.mem_singleton]⟩
      rw [List.nodup_append]
      exact ⟨nd6,by simp,fun a ha b hb e=>hin (by rw [← List.mem_singleton.mp hb,← e];exact ha)⟩
    ·rintro σ H6 ⟨k2,x9,x10,rfl,s6,eD6,e26,nd6,hk6⟩
     walk_at "l2"
     refine ⟨k2,_,_,_,rfl,s6,eD6,e26,nd6,fun s=>?_⟩
     rw [hk6,htk,cb,lq]
     simp only [List.mem_append,List.mem_singleton,or_and_right,exists_or,exists_eq_left]
   ·rintro σ H5 ⟨k2,w8,w9,w10,rfl,s5,eD5,e25,nd2,hk2⟩
    rw [show (cy ks).length=ks.length from List.length_map _,List.take_length] at hk2
    walk_at "l2"
    refine ⟨D2,k2,_,_,_,_,_,rfl,s5,f2,e25,nd2,fun s=>(hk2 s).trans ?_⟩
    constructor
    ·rintro ⟨z,hz,r,hr3,e⟩;exact ⟨z,r,(hks z).mp hz,hr3,e⟩
    ·rintro ⟨z,r,hz,hr3,e⟩;exact ⟨z,(hks z).mpr hz,r,hr3,e⟩
  ·rintro σ H2 ⟨D,ks,v6,v7,v8,v9,v10,rfl,s2,fD,eD,nd,hks⟩
   walk_at "l2"
   refine ⟨p,m,nx,os,nat x,nat y,nat t,rfl,ma.same s2,g,by omega,⟨"int",rfl⟩,⟨"int",rfl⟩,⟨"int",rfl⟩,fun x1 y1 t1 ex1 ey1 et1 _ _ _ f H3 s3 _ br=>?_,fun bad=>bad.elim (okm hx) (okm hy),fun _ _ bad=>?_⟩
   ·have ex1:=cJ ex1
    have ey1:=cJ ey1
    have et1:=cJ et1
    subst ex1
    subst ey1
    subst et1
    have eD3:=s3.get eD
    have hin:=(hks y).trans (M.rin_iff (prs nx) m x t y)
    rcases br with ⟨Dr,qq,ef,_,sd⟩ | ⟨mk,ef,bd⟩
    ·have hy2:y∈ks:=hin.mpr (by rw [← sd.sm];exact M.sm_span _ _)
     walk_at "l2"
     refine CD eD3 ?_
     rw [sN,decide_eq_true hy2,decide_eq_true rfl]
     walk_at "l2"
     exact q _ (s2.trans s3)
    ·have hy2:y∉ks:=fun z=>bd.ns (hin.mp z)
     walk_at "l2"
     refine CD eD3 ?_
     rw [sN,decide_eq_false hy2,decide_eq_false (by intro z;cases z)]
     walk_at "l2"
     exact q _ (s2.trans s3)
   ·rw [show idxB (nat t) 41=true by show (decide ((0:Int)≤(t:Int))&&decide ((t:Int) < ((41:Nat):Int)))=true;rw [decide_eq_true (by omega),decide_eq_true (by omega)];rfl] at bad
    cases bad
end
section
variable {P:Program} {w:World} {K:PySem.W.Frag} {mg:Str→Option Value} {base:Heap} {a:Ad}
theorem zB (T:Tx K mg a):FnOk P w K mg base CX0 1 a.cR a.mU ["_law_script","_law_k"] (CC K):=by
 refine T.jx.ok zf (fun vs H Q E h=>?_) (fun cdv A outer s H vs Q E hr h=>?_)
 ·obtain ⟨a,ns,k,rfl,_⟩:=h;rfl
 ·obtain ⟨p,ns,k,rfl,hS,h0,q⟩:=h
  refine ⟨_,((ae (c7 (aU Mh (pv 1) (bD (cq (K:=K) rfl) (by rfl) T.nN PySem.boot_len (aa (pv 0) ai)) (a8 _)) (aj (aM (be (fQ (K:=K) rfl) (pv 0) (pv 1) (fun _ _=>rfl)))) a7)
   (aj (aM (aw cI (aw nH af (pv 1)) af))))),aH (σ':=[some _,some _]) rfl ?_⟩
  walk_at "l2"
  rw [List.length_map]
  unfold cell at q
  refine ite2 (fun hc=>?_) (fun hc=>?_)
  ·have hc:=of_decide_eq_true hc
   have ha:atI (ns.map V.int) k=some (.int (ns.getD k.toNat 0)):=by
    obtain ⟨j,rfl⟩:=Int.eq_ofNat_of_zero_le h0
    have hj:j < ns.length:=by omega
    exact nc (by rw [List.getElem?_map,List.getElem?_eq_getElem hj,List.getD_eq_getElem?_getD,Int.toNat_natCast,List.getElem?_eq_getElem hj];rfl)
   rw [if_pos hc] at q
   walk_at "l2"
   exact q
  ·have hc:¬ k < ns.length:=fun z=>hc (decide_eq_true z)
   rw [if_neg hc] at q
   walk_at "l2"
   exact q
theorem mr (T:Tx K mg a):FnOk P w K mg base CX0 1 a.dD a.qc ["_law_cell_here","_law_k"] KL:=by
 refine T.k9.ok mf (fun vs H Q E h=>?_) (fun cdv A outer s H vs Q E hr h=>?_)
 ·obtain ⟨c,k,rfl,_⟩:=h;rfl
 ·obtain ⟨c,k,rfl,h0,h1,q⟩:=h
  refine ⟨_,((ae (aq (i:=2) mf.nd rfl (by walk_at "o") (aw c9 (aw cI (aw cI (aw nH (aw c9 (pv 0) af) af) (aw nH af (pv 1))) af) af))
   (ae (aq (i:=2) mf.nd rfl (by walk_at "o") (aw c9 (aw nH (pv 2) (pv 2)) af))
   (aj (aM (aw c9 (aw nH (pv 2) (aw cI (aw cI (pv 2) (aw nH af (pv 1))) af)) af)))))),aH (σ':=[some _,some _,none]) rfl ?_⟩
  walk_at "l2"
  show Q (.int _) H
  generalize hx:(_:Int) * (_ + 48271 * k + 7)=x
  have r1:0≤x % 2147483587:=Int.emod_nonneg _ (by decide)
  have r2:x % 2147483587 < 2147483587:=Int.emod_lt_of_pos _ (by decide)
  obtain ⟨j,hj⟩:=Int.eq_ofNat_of_zero_le r1
  rw [hj] at r2 ⊢
  exact q j (by omega)
local macro_rules | `(tactic| walk_at "l2step") =>`(tactic| first | ((with_reducible refine' Im ?e ?a ?_);(case e=>walk_at "l2hp");(case a=>walk_at "l2side")) | ((with_reducible refine' OW ?a ?b ?_);(case a=>walk_at "l2side");(case b=>walk_at "l2side");(with_reducible intro _ _)))
local macro_rules | `(tactic| walk_at "l2step") =>`(tactic| first | (with_reducible refine Pj ?_))
theorem yb (T:Tx K mg a):FnOk P w K mg base CX0 2 a.cn a.ku ["_law_cell_here","_law_start","_law_many","_law_width","_law_digits"] Gv:=by
 have cO:=@mr P w K mg base a T
 refine T.iu.ok eI (fun vs H Q E h=>?_) (fun cdv A outer s H vs Q E hr h=>?_)
 ·obtain ⟨c,st,n,wd,dg,rfl,_⟩:=h;rfl
 ·obtain ⟨c,st,n,wd,dg,rfl,hst,hn,hw,q⟩:=h
  have hnw:n * wd≤1024:=Nat.le_trans (Nat.mul_le_mul hn hw) (by decide)
  have hpow:(1:Int) * 2 ^ ((wd:Int).toNat)=((2 ^ wd:Nat):Int):=shl1 wd
  have hp0:=Nat.two_pow_pos wd
  have hp16:2 ^ wd≤2 ^ 16:=Nat.pow_le_pow_right (by decide) hw
  have ec:(n:Int) * (wd:Int) + 1=((n * wd + 1:Nat):Int):=by push_cast;rfl
  have hpow2:(1:Int) * 2 ^ (((n * wd + 1:Nat):Int).toNat)=((2 ^ (n * wd + 1):Nat):Int):=shl1 _
  have hp2:=Nat.two_pow_pos (n * wd + 1)
  refine ⟨_,((ae (aq (i:=5) eI.nd rfl (by walk_at "o") (eh ai))
   (ae (aq (i:=6) eI.nd rfl (by walk_at "o") (aw iB (aw c9 (pv 0) (aw gX af (aw cI (aw nH (pv 2) (pv 3)) af))) af))
   (ae (cW PassesOwn.never rfl (cc (by rfl) T.d3 (aa (pv 2) ai)) (aG (i:=7) eI.nd rfl (by walk_at "o")) (aj (c7 (eJ (pv 4)) (ae (bX (jA (K:=K) rfl PySem.F.plainAttrs_list PySem.F.slot_list_append PySem.F.type_list_append cL (pv 5) (aa (aw c9 (pv 6) (aw gX af (pv 3))) ai)))
   (aj (aq (i:=6) eI.nd rfl (by walk_at "o") (aw iB (pv 6) (aw gX af (pv 3)))))) (aj (bX (jA (K:=K) rfl PySem.F.plainAttrs_list PySem.F.slot_list_append PySem.F.type_list_append cL (pv 5) (aa (aw c9 (au cO (hr.mono (by decide)) (by rfl) T.dA T.dz T.cN .nil aV (aa (pv 0) (aa (aw cI (pv 1) (pv 7)) ai))) (aw gX af (pv 3))) ai)))))))
   (aj (aM (pv 5))))))),aH (σ':=[some _,some _,some _,some _,some _,none,none,none]) rfl ?_⟩
  walk_at "l2"
  intro D H1 f1 s1 e1
  walk_at "l2"
  rw [ec]
  walk_at "l2"
  rw [hpow2]
  walk_at "l2"
  refine dP (fun i σ H'=>∃ (l:Int) (v:Option V) (ms:List Nat),σ=[some (.int c),some (nat st),some (nat n),some (nat wd),some (.bl dg),some (.ref D),some (.int l),v]∧Same H H'∧H' D=some (.lst (ms.map nat))∧ms.length=i∧∀ x∈ms,x < 2 ^ wd) ⟨_,none,[],rfl,s1,e1,rfl,fun _ h=>absurd h (by simp)⟩ ?_ ?_
  ·rintro i σ H' hi ⟨l,v,ms,rfl,s6,e6,el,hb⟩
   have hi':i < n:=by omega
   clear hpow2 hp2 ec
   cases dg with
   | true=>
     walk_at "l2"
     rw [hpow]
     obtain ⟨k,hk,hkl⟩:=jm (c:=l) (m:=((2 ^ wd:Nat):Int)) (by omega)
     walk_at "l2"
     rw [hk]
     refine dU e6 (by rw [List.length_map,sizeLine_eq];omega) fun H7 u7=>?_
     walk_at "l2"
     rw [hpow]
     walk_at "l2"
     refine ⟨_,_,ms++[k],rfl,fun b o e=>u7.oth _ _ (ar e f1) (s6.get e),?_,by rw [List.length_append,el];rfl,fun x hx=>?_⟩
     ·rw [u7.at',List.map_append];rfl
     ·rcases List.mem_append.mp hx with h | h
      ·exact hb x h
      ·rw [List.mem_singleton.mp h];omega
   | false=>
     walk_at "l2"
     rename_i r hr'
     rw [hpow]
     obtain ⟨k,hk,hkl⟩:=jm (c:=(r:Int)) (m:=((2 ^ wd:Nat):Int)) (by omega)
     walk_at "l2"
     rw [hk]
     refine dU e6 (by rw [List.length_map,sizeLine_eq];omega) fun H7 u7=>?_
     walk_at "l2"
     refine ⟨_,_,ms++[k],rfl,fun b o e=>u7.oth _ _ (ar e f1) (s6.get e),?_,by rw [List.length_append,el];rfl,fun x hx=>?_⟩
     ·rw [u7.at',List.map_append];rfl
     ·rcases List.mem_append.mp hx with h | h
      ·exact hb x h
      ·rw [List.mem_singleton.mp h];omega
  ·rintro σ H' ⟨l,v,ms,rfl,s6,e6,el,hb⟩
   walk_at "l2"
   exact q D H' ms f1 s6 e6 (by omega) hb
theorem tL (T:Tx K mg a):FnOk P w K mg base CX0 2 a.bE a.iC ["_law_masks_here","_law_cell_here","_law_start","_law_way"] Jk:=by
 have cO:=@mr P w K mg base a T
 refine T.fT.ok bT (fun vs H Q E h=>?_) (fun cdv A outer s H vs Q E hr h=>?_)
 ·obtain ⟨r,ms,c,st,wy,wd,rfl,_⟩:=h;rfl
 ·obtain ⟨r,ms,c,st,wy,wd,rfl,hp,hst,hw,hl,hb,q⟩:=h
  refine ⟨_,((ae (aq (i:=4) bT.nd rfl (by walk_at "o") (eh ai))
   (ae (cW PassesOwn.never rfl (ph (K:=K) rfl (by rfl) T.d4 (pv 0)) (qz rfl (bK (aG (i:=5) bT.nd rfl (by walk_at "o")) (bK (aG (i:=6) bT.nd rfl (by walk_at "o")) ix))) (jh (c7 (aU iT (pv 3) af (a8 _)) (aj (aq (i:=6) bT.nd rfl (by walk_at "o") (aw jD (pv 6) (au cO (hr.mono (by decide)) (by rfl) T.dA T.dz T.cN .nil aV (aa (pv 1) (aa (aw cI (pv 2) (pv 5)) ai)))))) a7)
   (jh (c7 (PW.pt (qw (aU iT (pv 3) af (a8 _)) (j3 (aU nI (pv 5) af (a8 _))))) (aj (aq (i:=6) bT.nd rfl (by walk_at "o") (aw gX af (aw lY (pv 5) af)))) a7)
   (jh (c7 (aU iT (pv 3) af (a8 _)) (aj (aq (i:=6) bT.nd rfl (by walk_at "o") (aw jD (pv 6) (be (fQ (K:=K) rfl) (eh (aa af (aa af ai))) (aw c9 (pv 5) af) (fun _ _=>rfl))))) a7)
   (aj (bX (jA (K:=K) rfl PySem.F.plainAttrs_list PySem.F.slot_list_append PySem.F.type_list_append cL (pv 4) (aa (pv 6) ai))))))))
   (aj (aM (pv 4)))))),aH (σ':=[some _,some _,some _,some _,none,none,none]) rfl ?_⟩
  walk_at "l2"
  intro D H1 f1 s1 e1
  walk_at "l2"
  refine sQ (xs:=ms.map nat) (fun i σ H'=>∃ (v v':Option V) (ms2:List Nat),σ=[some (.ref r),some (.int c),some (nat st),some (nat wy),some (.ref D),v,v']∧Same H H'∧H' D=some (.lst (ms2.map nat))∧ms2.length=i∧∀ x∈ms2,x < 2 ^ wd) ⟨none,none,[],rfl,s1,e1,rfl,fun _ h=>absurd h (by simp)⟩ (fun i σ H' _ ⟨_,_,_,_,e,_⟩=>SqL.of (e.get hp)) ?_ ?_
  ·rintro i y σ H' p H7 hy ⟨v,v',ms2,rfl,s6,e6,el,hb2⟩ fp s7 e7
   obtain ⟨x,hx,rfl⟩:=bZ hy
   have hi:=(List.getElem?_eq_some_iff.mp hx).1
   have hxb:=hb x (List.mem_of_getElem? hx)
   have eD7:=s7.get e6
   walk_at "l2"
   refine xH (fun σ H2=>H7=H2∧∃ x:Nat,x < 2 ^ wd∧σ=[some (.ref r),some (.int c),some (nat st),some (nat wy),some (.ref D),some (nat i),some (nat x)]) ?_ ?_
   ·walk_at "l2"
    refine iteB (fun hc=>?_) (fun hc=>?_)
    ·walk_at "l2"
     rw [bS]
     exact ⟨_,Nat.lt_of_le_of_lt Nat.and_le_left hxb,rfl⟩
    ·walk_at "l2"
     exact ⟨_,hxb,rfl⟩
   ·rintro σ H2 ⟨rfl,x2,hx2,rfl⟩
    walk_at "l2"
    refine xH (fun σ H2=>H7=H2∧∃ x:Nat,x < 2 ^ wd∧σ=[some (.ref r),some (.int c),some (nat st),some (nat wy),some (.ref D),some (nat i),some (nat x)]) ?_ ?_
    ·walk_at "l2"
     refine iteB (fun hc=>?_) (fun hc=>?_)
     ·walk_at "l2"
      refine iteB (fun hc2=>?_) (fun hc2=>?_)
      ·have hi0:0 < i:=by have:=of_decide_eq_true hc2;omega
       have e1:(i:Int) - 1=((i - 1:Nat):Int):=by omega
       walk_at "l2"
       rw [e1]
       walk_at "l2"
       rw [shl1]
       exact ⟨_,Nat.pow_lt_pow_right (by decide) (show i - 1 < wd by omega),rfl⟩
      ·walk_at "l2"
       exact ⟨_,hx2,rfl⟩
     ·walk_at "l2"
      exact ⟨_,hx2,rfl⟩
    ·rintro σ H2 ⟨rfl,x3,hx3,rfl⟩
     walk_at "l2"
     refine xH (fun σ H2=>Same H7 H2∧∃ x:Nat,x < 2 ^ wd∧σ=[some (.ref r),some (.int c),some (nat st),some (nat wy),some (.ref D),some (nat i),some (nat x)]) ?_ ?_
     ·walk_at "l2"
      refine iteB (fun hc=>?_) (fun hc=>?_)
      ·walk_at "l2"
       intro D8 H8 f8 s8 e8
       have key:∃ k:Nat,atI [V.int 43690,.int 21845] ((i:Int) % 2)=some (nat k):=by
        rcases Int.emod_two_eq (i:Int) with h | h<;>rw [h]
        ·exact ⟨43690,rfl⟩
        ·exact ⟨21845,rfl⟩
       obtain ⟨k,hk⟩:=key
       walk_at "l2"
       rw [bS]
       exact ⟨s8,_,Nat.lt_of_le_of_lt Nat.and_le_left hx3,rfl⟩
      ·walk_at "l2"
       exact ⟨Same.refl _,_,hx3,rfl⟩
     ·rintro σ H2 ⟨s8,x4,hx4,rfl⟩
      walk_at "l2"
      refine dU (s8.get eD7) (by rw [List.length_map,sizeLine_eq];omega) fun H9 u9=>?_
      walk_at "l2"
      refine ⟨_,_,ms2++[x4],rfl,fun b o e=>u9.oth _ _ (ar e f1) (s8.get (s7.get (s6.get e))),?_,by rw [List.length_append,el];rfl,fun z hz=>?_⟩
      ·rw [u9.at',List.map_append];rfl
      ·rcases List.mem_append.mp hz with h | h
       ·exact hb2 z h
       ·rw [List.mem_singleton.mp h];exact hx4
  ·rintro σ H' ⟨v,v',ms2,rfl,s6,e6,el,hb2⟩
   rw [List.length_map] at el
   walk_at "l2"
   exact q D H' ms2 f1 s6 e6 el hb2
theorem tM (T:Tx K mg a):FnOk P w K mg base CX0 3 a.bF a.iD ["_law_script","_law_start","_law_most"] (Jm K):=by
 have dr:=@zB P w K mg base a T
 have cO:=@mr P w K mg base a T
 have il:=@yb P w K mg base a T
 have wo:=@tL P w K mg base a T
 refine T.fU.ok ay (fun vs H Q E h=>?_) (fun cdv A outer s H vs Q E hr h=>?_)
 ·obtain ⟨p,ns,st,mo,rfl,_⟩:=h;rfl
 ·obtain ⟨p,ns,st,mo,rfl,hS,hst,hmo,q⟩:=h
  refine ⟨_,((ae (aq (i:=3) ay.nd rfl (by walk_at "o") (au dr (hr.mono (by decide)) (by rfl) T.dn T.dm T.cw .nil aV (aa (pv 0) (aa (pv 1) ai))))
   (ae (aq (i:=4) ay.nd rfl (by walk_at "o") (aw c9 (aw iB (pv 3) af) (aw cI (pv 2) af)))
   (jh (c7 (aU iT (aw c9 (aw iB (pv 3) af) af) af (a8 _)) (aj (aq (i:=4) ay.nd rfl (by walk_at "o") (aw c9 (aw iB (pv 3) af) af))) a7)
   (ae (aq (i:=5) ay.nd rfl (by walk_at "o") (aw c9 (au cO (hr.mono (by decide)) (by rfl) T.dA T.dz T.cN .nil aV (aa (pv 3) (aa af ai))) af))
   (ae (aq (i:=6) ay.nd rfl (by walk_at "o") (aw c9 (au cO (hr.mono (by decide)) (by rfl) T.dA T.dz T.cN .nil aV (aa (pv 3) (aa af ai))) af))
   (jh (c7 (aU iT (aw c9 (aw iB (pv 3) af) af) af (a8 _)) (ae (aq (i:=5) ay.nd rfl (by walk_at "o") (aw c9 (au cO (hr.mono (by decide)) (by rfl) T.dA T.dz T.cN .nil aV (aa (pv 3) (aa af ai))) af))
   (aj (aq (i:=6) ay.nd rfl (by walk_at "o") (aw c9 (au cO (hr.mono (by decide)) (by rfl) T.dA T.dz T.cN .nil aV (aa (pv 3) (aa af ai))) af)))) a7)
   (ae (aq (i:=7) ay.nd rfl (by walk_at "o") (iy iT (aw c9 (pv 3) af) af (a8 _)))
   (ae (aq (i:=8) ay.nd rfl (by walk_at "o") (aw c9 (au cO (hr.mono (by decide)) (by rfl) T.dA T.dz T.cN .nil aV (aa (pv 3) (aa af ai))) af))
   (ae (aq (i:=9) ay.nd rfl (by walk_at "o") (au il (hr.mono (by decide)) (by rfl) T.ig T.ie T.eA .nil aV (aa (au dr (hr.mono (by decide)) (by rfl) T.dn T.dm T.cw .nil aV (aa (pv 0) (aa (aw cI (pv 1) af) ai))) (aa af (aa (pv 4) (aa (pv 4) (aa (pv 7) ai)))))))
   (ae (aq (i:=10) ay.nd rfl (by walk_at "o") (au il (hr.mono (by decide)) (by rfl) T.ig T.ie T.eA .nil aV (aa (au dr (hr.mono (by decide)) (by rfl) T.dn T.dm T.cw .nil aV (aa (pv 0) (aa (aw cI (pv 1) af) ai))) (aa af (aa (pv 4) (aa (pv 5) (aa (pv 7) ai)))))))
   (jh (c7 (gR (eJ (pv 7))) (ae (aq (i:=9) ay.nd rfl (by walk_at "o") (au wo (hr.mono (by decide)) (by rfl) T.vT T.vQ T.iG .nil aV (aa (pv 9) (aa (au dr (hr.mono (by decide)) (by rfl) T.dn T.dm T.cw .nil aV (aa (pv 0) (aa (aw cI (pv 1) af) ai))) (aa af (aa (pv 8) ai))))))
   (aj (c7 (aU nI (pv 8) af (a8 _)) (aj (o8 (osc:=ag bC) (ON:=["_law_script","_law_start","_law_most","_law_cell_here","_law_stores","_law_inputs","_law_outputs","_law_digits","_law_way","_law_one","_law_other","_law_shown","_law_straight"]) (N:=["_law_k","_law_mask","_law_script","_law_start"]) (n:=2) (fx:=[0,1]) (i:=10) ay.nd rfl rfl rfl rfl rfl rfl (by decide +kernel) (ph (K:=K) rfl (by rfl) T.d4 (pv 10)) (HE (kT (eM (by decide)) (kT (eM (by decide)) BP))) (fun _ _ _ _ _=>⟨(Bl (K:=K) (n:=2) rfl rfl (bK (aG (i:=0) (show List.Nodup (["_law_k","_law_mask","_law_script","_law_start"]:List Str) from by decide +kernel) rfl (by walk_at "o")) (bK (aG (i:=1) (show List.Nodup (["_law_k","_law_mask","_law_script","_law_start"]:List Str) from by decide +kernel) rfl (by walk_at "o")) ix))),jg,(aw jD (pv 1) (au cO (hr.mono (by decide)) (by rfl) T.dA T.dz T.cN .nil aV (aa (au dr (hr.mono (by decide)) (by rfl) T.dn T.dm T.cw .nil aV (aa (pv 2) (aa (aw cI (pv 3) af) ai))) (aa (aw cI af (pv 0)) ai))))⟩))) a7))) a7)
   (ae (aq (i:=11) ay.nd rfl (by walk_at "o") (au il (hr.mono (by decide)) (by rfl) T.ig T.ie T.eA .nil aV (aa (au dr (hr.mono (by decide)) (by rfl) T.dn T.dm T.cw .nil aV (aa (pv 0) (aa (aw cI (pv 1) af) ai))) (aa af (aa (pv 6) (aa (pv 4) (aa (pv 7) ai)))))))
   (ae (aq (i:=12) ay.nd rfl (by walk_at "o") (au il (hr.mono (by decide)) (by rfl) T.ig T.ie T.eA .nil aV (aa (au dr (hr.mono (by decide)) (by rfl) T.dn T.dm T.cw .nil aV (aa (pv 0) (aa (aw cI (pv 1) af) ai))) (aa af (aa (pv 6) (aa (pv 5) (aa (pv 7) ai)))))))
   (jh (c7 (PW.pt (qw (gR (eJ (pv 7))) (j3 (aU nI (pv 8) af (a8 _))))) (aj (o8 (osc:=ag bC) (ON:=["_law_script","_law_start","_law_most","_law_cell_here","_law_stores","_law_inputs","_law_outputs","_law_digits","_law_way","_law_one","_law_other","_law_shown","_law_straight"]) (N:=["_law_k","_law_mask","_law_script","_law_start"]) (n:=2) (fx:=[0,1]) (i:=11) ay.nd rfl rfl rfl rfl rfl rfl (by decide +kernel) (ph (K:=K) rfl (by rfl) T.d4 (pv 11)) (HE (kT (eM (by decide)) (kT (eM (by decide)) BP))) (fun _ _ _ _ _=>⟨(Bl (K:=K) (n:=2) rfl rfl (bK (aG (i:=0) (show List.Nodup (["_law_k","_law_mask","_law_script","_law_start"]:List Str) from by decide +kernel) rfl (by walk_at "o")) (bK (aG (i:=1) (show List.Nodup (["_law_k","_law_mask","_law_script","_law_start"]:List Str) from by decide +kernel) rfl (by walk_at "o")) ix))),jg,(aw jD (pv 1) (au cO (hr.mono (by decide)) (by rfl) T.dA T.dz T.cN .nil aV (aa (au dr (hr.mono (by decide)) (by rfl) T.dn T.dm T.cw .nil aV (aa (pv 2) (aa (aw cI (pv 3) af) ai))) (aa (aw cI af (pv 0)) ai))))⟩))) a7)
   (jh (c7 (PW.pt (qw (gR (eJ (pv 7))) (j3 (aU nI (pv 8) af (a8 _))))) (aj (o8 (osc:=ag bC) (ON:=["_law_script","_law_start","_law_most","_law_cell_here","_law_stores","_law_inputs","_law_outputs","_law_digits","_law_way","_law_one","_law_other","_law_shown","_law_straight"]) (N:=["_law_mask"]) (n:=1) (fx:=[]) (i:=12) ay.nd rfl rfl rfl rfl rfl rfl (by decide +kernel) (dy (K:=K) rfl (pv 12)) (eM (by decide)) (fun _ _ _ _ _=>⟨(aG (i:=0) (show List.Nodup (["_law_mask"]:List Str) from by decide +kernel) rfl (by walk_at "o")),jg,af⟩))) a7)
   (aj (aM (dF (aa (pv 5) (aa (wJ (K:=K) rfl rfl (by rfl) (by rfl) T.tZ T.Mp (pv 9) (pv 10)) (aa (wJ (K:=K) rfl rfl (by rfl) (by rfl) T.tZ T.Mp (pv 11) (pv 12)) ai)))))))))))))))))))))),aH (σ':=[some _,some _,some _,none,none,none,none,none,none,none,none,none,none]) rfl ?_⟩
  walk_at "l2"
  obtain ⟨S0,eS,lS⟩:=jm (c:=cell ns (st:Int) / 2) (m:=(mo:Int) + 1) (by omega)
  rw [eS]
  generalize cell ns (st:Int)=c
  refine xH (fun σ H2=>H=H2∧∃ S:Nat,S≤16∧σ=[some (.ref p),some (nat st),some (nat mo),some (.int c),some (nat S),none,none,none,none,none,none,none,none]) ?_ ?_
  ·walk_at "l2"
   refine iteB (fun hc=>?_) (fun hc=>?_)
   ·walk_at "l2"
    obtain ⟨k,hk,hkl⟩:=jm (c:=c / 512) (m:=17) (by decide)
    rw [hk]
    exact ⟨_,by omega,rfl⟩
   ·walk_at "l2"
    exact ⟨_,by omega,rfl⟩
  ·rintro σ H2 ⟨rfl,S,hS16,rfl⟩
   clear eS lS
   walk_at "l2"
   rename_i r1 h1 r2 h2
   have ei:(r1:Int) % 4=((r1 % 4:Nat):Int):=by omega
   have eo:(r2:Int) % 4=((r2 % 4:Nat):Int):=by omega
   rw [ei,eo]
   refine xH (fun σ H2=>H=H2∧∃ I O:Nat,(I≤6∧O≤6)∧σ=[some (.ref p),some (nat st),some (nat mo),some (.int c),some (nat S),some (nat I),some (nat O),none,none,none,none,none,none]) ?_ ?_
   ·walk_at "l2"
    refine iteB (fun hc=>?_) (fun hc=>?_)
    ·walk_at "l2"
     rename_i r3 h3 r4 h4
     have ei:(r3:Int) % 7=((r3 % 7:Nat):Int):=by omega
     have eo:(r4:Int) % 7=((r4 % 7:Nat):Int):=by omega
     rw [ei,eo]
     exact ⟨_,_,⟨by omega,by omega⟩,rfl⟩
    ·walk_at "l2"
     exact ⟨_,_,⟨by omega,by omega⟩,rfl⟩
   ·rintro σ H2 ⟨rfl,I,O,⟨hI,hO⟩,rfl⟩
    clear ei eo h1 h2
    walk_at "l2"
    rename_i r5 h5
    have ew:(r5:Int) % 5=((r5 % 5:Nat):Int):=by omega
    rw [ew]
    generalize hwy:r5 % 5=wy
    have hwy5:wy < 5:=by omega
    generalize hdg:decide (V.int (c % 2)=V.int 0)=dg
    clear ew hwy hdg h5
    refine ⟨_,100,S,S,dg,rfl,by decide,by omega,hS16,fun D1 H1 ms1 f1 s1 e1 l1 b1=>?_⟩
    have hS1:=Same.seq s1 hS
    walk_at "l2"
    refine ⟨_,140,S,I,dg,rfl,by decide,by omega,by omega,fun D2 H2 ms2 f2 s2 e2 l2 b2=>?_⟩
    have hS2:=Same.seq s2 hS1
    have e1':=s2.get e1
    walk_at "l2"
    refine xH (fun σ H3=>∃ (D1 D2:Addr) (ms1 ms2:List Nat),σ=[some (.ref p),some (nat st),some (nat mo),some (.int c),some (nat S),some (nat I),some (nat O),some (.bl dg),some (nat wy),some (.ref D1),some (.ref D2),none,none]∧Same H H3∧H3 D1=some (.lst (ms1.map nat))∧H3 D2=some (.lst (ms2.map nat))∧ms1.length=S∧ms2.length=S∧(∀ x∈ms1,x < 2 ^ S)∧∀ x∈ms2,x < 2 ^ I) ?_ ?_
    ·walk_at "l2"
     cases dg with
     | true=>
       walk_at "l2"
       exact ⟨D1,D2,ms1,ms2,rfl,s1.trans s2,e1',e2,l1,l2,b1,b2⟩
     | false=>
       walk_at "l2"
       refine ⟨D1,ms1,_,180,wy,S,rfl,e1',by decide,hS16,by omega,b1,fun D3 H3 ms3 f3 s3 e3 l3 b3=>?_⟩
       have e23:=s3.get e2
       have hS3:=Same.seq s3 hS2
       walk_at "l2"
       refine iteB (fun hc=>?_) (fun hc=>?_)
       ·walk_at "l2"
        intro D hD
        refine xa (xs:=ms2.map nat) (fun i ys H'=>Cs (fun i ys=>∃ qs:List Nat,ys=qs.map nat∧qs.length=i∧∀ x∈qs,x < 2 ^ I) H3 D i ys H') (Cs.zero hD ⟨[],rfl,rfl,fun _ h=>absurd h (by simp)⟩) (fun i ys H' _ c=>SqL.of (c.same.get e23)) (fun i v ys H' p' H7 hv c' fp s7 e7=>?_) (fun ys H' c'=>?_)
        ·obtain ⟨x,hx,rfl⟩:=bZ hv
         obtain ⟨qs,eqs,lqs,bqs⟩:=c'.pv
         have hi:=(List.getElem?_eq_some_iff.mp hx).1
         have hS7:=Same.seq s7 (Same.seq c'.same hS3)
         walk_at "l2"
         rw [bS]
         refine Cs.put hD (c'.same.trans s7) (s7.get c'.at') c'.len (by omega) ⟨qs++[_],by rw [eqs,List.map_append];rfl,by rw [List.length_append,lqs];rfl,fun z hz=>?_⟩
         rcases List.mem_append.mp hz with h | h
         ·exact bqs z h
         ·rw [List.mem_singleton.mp h];exact Nat.lt_of_le_of_lt Nat.and_le_left (b2 x (List.mem_of_getElem? hx))
        ·obtain ⟨qs,eqs,lqs,bqs⟩:=c'.pv
         rw [List.length_map] at lqs
         have ec:=c'.at'
         rw [eqs] at ec
         exact ⟨D3,D,ms3,qs,rfl,s1.trans (s2.trans (s3.trans c'.same)),c'.same.get e3,ec,by omega,by omega,b3,bqs⟩
       ·walk_at "l2"
        exact ⟨D3,D2,ms3,ms2,rfl,s1.trans (s2.trans s3),e3,e23,by omega,l2,b3,b2⟩
    ·rintro σ H3 ⟨D1,D2,ms1,ms2,rfl,s3,e1,e2,l1,l2,b1,b2⟩
     have hS3:=Same.seq s3 hS
     walk_at "l2"
     refine ⟨_,260,O,S,dg,rfl,by decide,by omega,hS16,fun D4 H4 ms4 f4 s4 e4 l4 b4=>?_⟩
     have hS4:=Same.seq s4 hS3
     walk_at "l2"
     refine ⟨_,280,O,I,dg,rfl,by decide,by omega,by omega,fun D5 H5 ms5 f5 s5 e5 l5 b5=>?_⟩
     have hS5:=Same.seq s5 hS4
     have e45:=s5.get e4
     walk_at "l2"
     refine xH (fun σ H6=>∃ (D4:Addr) (ms4:List Nat),σ=[some (.ref p),some (nat st),some (nat mo),some (.int c),some (nat S),some (nat I),some (nat O),some (.bl dg),some (nat wy),some (.ref D1),some (.ref D2),some (.ref D4),some (.ref D5)]∧Same H5 H6∧H6 D4=some (.lst (ms4.map nat))∧ms4.length=O∧∀ x∈ms4,x < 2 ^ S) ?_ ?_
     ·walk_at "l2"
      refine iteB (fun hc=>?_) (fun hc=>?_)
      ·walk_at "l2"
       refine iteB (fun hc=>?_) (fun hc=>?_)
       ·walk_at "l2"
        intro D hD
        refine xa (xs:=ms4.map nat) (fun i ys H'=>Cs (fun i ys=>∃ qs:List Nat,ys=qs.map nat∧qs.length=i∧∀ x∈qs,x < 2 ^ S) H5 D i ys H') (Cs.zero hD ⟨[],rfl,rfl,fun _ h=>absurd h (by simp)⟩) (fun i ys H' _ c=>SqL.of (c.same.get e45)) (fun i v ys H' p' H7 hv c' fp s7 e7=>?_) (fun ys H' c'=>?_)
        ·obtain ⟨x,hx,rfl⟩:=bZ hv
         obtain ⟨qs,eqs,lqs,bqs⟩:=c'.pv
         have hi:=(List.getElem?_eq_some_iff.mp hx).1
         have hS7:=Same.seq s7 (Same.seq c'.same hS5)
         walk_at "l2"
         rw [bS]
         refine Cs.put hD (c'.same.trans s7) (s7.get c'.at') c'.len (by omega) ⟨qs++[_],by rw [eqs,List.map_append];rfl,by rw [List.length_append,lqs];rfl,fun z hz=>?_⟩
         rcases List.mem_append.mp hz with h | h
         ·exact bqs z h
         ·rw [List.mem_singleton.mp h];exact Nat.lt_of_le_of_lt Nat.and_le_left (b4 x (List.mem_of_getElem? hx))
        ·obtain ⟨qs,eqs,lqs,bqs⟩:=c'.pv
         rw [List.length_map] at lqs
         have ec:=c'.at'
         rw [eqs] at ec
         exact ⟨D,qs,rfl,c'.same,ec,by omega,bqs⟩
       ·walk_at "l2"
        exact ⟨D4,ms4,rfl,Same.refl _,e45,l4,b4⟩
      ·walk_at "l2"
       exact ⟨D4,ms4,rfl,Same.refl _,e45,l4,b4⟩
     ·rintro σ H6 ⟨D4,ms4,rfl,s6,e4,l4,b4⟩
      have e56:=s6.get e5
      have e16:=s6.get (s5.get (s4.get e1))
      have e26:=s6.get (s5.get (s4.get e2))
      have s06:=s3.trans (s4.trans (s5.trans s6))
      clear hS1 hS2 hS3 hS4 hS5 e45
      walk_at "l2"
      refine xH (fun σ H7=>∃ (D5:Addr) (ms5:List Nat),σ=[some (.ref p),some (nat st),some (nat mo),some (.int c),some (nat S),some (nat I),some (nat O),some (.bl dg),some (nat wy),some (.ref D1),some (.ref D2),some (.ref D4),some (.ref D5)]∧Same H6 H7∧H7 D5=some (.lst (ms5.map nat))∧ms5.length=O∧∀ x∈ms5,x < 2 ^ I) ?_ ?_
      ·walk_at "l2"
       refine iteB (fun hc=>?_) (fun hc=>?_)
       ·walk_at "l2"
        refine iteB (fun hc=>?_) (fun hc=>?_)
        ·walk_at "l2"
         intro D hD
         refine oj (xs:=ms5.map nat) (fun i ys H'=>Cs (fun i ys=>ys=(List.replicate i 0).map nat) H6 D i ys H') (Cs.zero hD rfl) (fun i ys H' _ c=>SqL.of (c.same.get e56)) (fun i v ys H' hv c'=>?_) (fun ys H' c'=>?_)
         ·have hi:=(List.getElem?_eq_some_iff.mp hv).1
          rw [List.length_map] at hi
          walk_at "l2"
          refine Cs.put hD c'.same c'.at' c'.len (by omega) ?_
          rw [c'.pv,List.replicate_succ',List.map_append];rfl
         ·have ec:=c'.at'
          rw [c'.pv,List.length_map] at ec
          refine ⟨D,List.replicate ms5.length 0,rfl,c'.same,ec,by rw [List.length_replicate];exact l5,fun x hx=>?_⟩
          rw [List.eq_of_mem_replicate hx];exact Nat.two_pow_pos _
        ·walk_at "l2"
         exact ⟨D5,ms5,rfl,Same.refl _,e56,l5,b5⟩
       ·walk_at "l2"
        exact ⟨D5,ms5,rfl,Same.refl _,e56,l5,b5⟩
      ·rintro σ H7 ⟨D5,ms5,rfl,s7,e5,l5,b5⟩
       walk_at "l2"
       refine ⟨D1,D2,ms1.map nat,ms2.map nat,rfl,rfl,SqL.of (s7.get e16),SqL.of (s7.get e26),by rw [List.length_map,List.length_map];omega,fun Dn pn H8 f8 s8 e8 lp8 t8=>?_⟩
       obtain ⟨nx,rn,ptn,lnx,mn⟩:=FR (by omega) lp8 t8
       rw [← rn] at e8
       walk_at "l2"
       refine ⟨D4,D5,ms4.map nat,ms5.map nat,rfl,rfl,SqL.of (s8.get (s7.get e4)),SqL.of (s8.get e5),by rw [List.length_map,List.length_map];omega,fun Do po H9 f9 s9 e9 lp9 t9=>?_⟩
       obtain ⟨os,ro,pto,los,mo'⟩:=FR (by omega) lp9 t9
       rw [← ro] at e9
       walk_at "l2"
       intro t H10 f10 s10 e10
       have s07:=s06.trans s7
       refine q t Dn Do H10 I nx os (s07.trans (s8.trans (s9.trans s10))) (kW s07 f8) (kW (s07.trans s8) f9) ⟨e10,hI,s10.get (s9.get e8),s10.get e9,(ptn.same s9).same s10,pto.same s10,by omega,by omega,fun pr hpr=>?_⟩ (by omega)
       rw [lnx,l1]
       rcases List.mem_append.mp hpr with h | h
       ·exact ⟨b1 _ (mn pr h).1,b2 _ (mn pr h).2⟩
       ·exact ⟨b4 _ (mo' pr h).1,b5 _ (mo' pr h).2⟩
end
local macro_rules | `(tactic| walk_at "l2step") =>`(tactic| first | ((with_reducible refine' Im ?e ?a ?_);(case e=>walk_at "l2hp");(case a=>walk_at "l2side")) | ((with_reducible refine' OW ?a ?b ?_);(case a=>walk_at "l2side");(case b=>walk_at "l2side");(with_reducible intro _ _)))
section
variable {P:Program} {w:World} {K:PySem.W.Frag} {mg:Str→Option Value} {base:Heap} {a:Ad}
local macro_rules | `(tactic| walk_at "l2step") =>`(tactic| first | ((with_reducible refine' fN ?e ?_);(case e=>walk_at "l2kind")) | ((with_reducible refine' i3 ?e ?_);(case e=>walk_at "l2kind")) | (with_reducible refine dS ?_) | (with_reducible refine gc ?_))
theorem dflt {H:Hp} {t n o z:Addr} (et:H t=some (.tup [.int 0,.ref n,.ref o])) (en:H n=some (.lst [])) (eo:H o=some (.lst [.ref z])) (ez:H z=some (.tup [.int 0,.int 0])):TabT H t n o 0 [] [(z,0,0)]:=
 ⟨et,by
  refine ⟨by decide,en,eo,fun q h=>(by cases h),fun q h=>?_,Nat.zero_le _,Nat.le_of_ble_eq_true rfl,fun q h=>?_⟩
  ·rw [List.mem_singleton.mp h];exact ez
  ·rw [List.nil_append] at h
   rw [List.mem_singleton.mp h];exact ⟨Nat.one_pos,Nat.one_pos⟩⟩
theorem Ov (T:Tx K mg a):FnOk P w K mg base CX0 12 a.An a.ML ["_law_script"] (CB K):=by
 have wt:=@tM P w K mg base a T
 have AV:=@ya P w K mg base a T
 have nk:=@lC P w K mg base a T
 have qt:=@nJ P w K mg base a T
 have oJ:=@mx P w K mg base a T
 have lU:=@j7 P w K mg base a T
 have oK:=@my P w K mg base a T
 refine T.KA.ok nv (fun vs H Q E h=>?_) (fun cdv A outer s H vs Q E hr h=>?_)
 ·obtain ⟨p,ns,rfl,_⟩:=h;rfl
 ·obtain ⟨p0,ns,rfl,hS,hlen,q⟩:=h
  have hu1:=j2 hr
  refine ⟨_,((ae (aq (i:=1) nv.nd rfl (by walk_at "o") (au wt (hr.mono (by decide)) (by rfl) T.vU T.vR T.iH .nil aV (aa (pv 0) (aa af (aa af ai)))))
   (jh (c7 (PW.pt (xJ (aU nI (bD (cq (K:=K) rfl) (by rfl) T.nN PySem.boot_len (aa (be (ax (K:=K) rfl) (pv 1) af (fun _ _=>rfl)) ai)) af (a8 _)) (tj (aU nI (be (ax (K:=K) rfl) (pv 1) af (fun _ _=>rfl)) af (a8 _))))) (aj (aq (i:=1) nv.nd rfl (by walk_at "o") (dF (aa af (aa (eh ai) (aa (eh (aa (dF (aa af (aa af ai))) ai)) ai)))))) a7)
   (ae (aq (i:=2) nv.nd rfl (by walk_at "o") (GR T.II oK (hr.mono (by decide)) (by rfl) T.HL T.fm .nil aV (aa (be (ax (K:=K) rfl) (pv 1) af (fun _ _=>rfl)) (aa (nE (xr (K:=K) rfl) (by rfl) T.tZ PyProof.Rows.boot_list (aa (be (ax (K:=K) rfl) (pv 1) af (fun _ _=>rfl)) ai)) (aa (nE (xr (K:=K) rfl) (by rfl) T.tZ PyProof.Rows.boot_list (aa (be (ax (K:=K) rfl) (pv 1) af (fun _ _=>rfl)) ai)) ai)))))
   (ae (aq (i:=3) nv.nd rfl (by walk_at "o") (au AV (hr.mono (by decide)) (by rfl) T.Ag T.z8 T.kI .nil aV (aa (pv 1) ai)))
   (ae (aq (i:=4) nv.nd rfl (by walk_at "o") (au nk (hr.mono (by decide)) (by rfl) T.mQ T.mP T.d6 .nil aV (aa (pv 3) ai)))
   (ae (c7 (gR (eJ (au qt (hr.mono (by decide)) (by rfl) T.p3 T.pW T.fO .nil aV (aa (pv 2) (aa (pv 3) ai))))) (aj (aM lj)) a7)
   (ae (cW PassesOwn.never rfl (dy (K:=K) rfl (aw GW (xS (xB (K:=K) rfl) (pv 0) (xN af) (xN af)) (eh (aa af ai)))) (aG (i:=5) nv.nd rfl (by walk_at "o")) (ae (aq (i:=6) nv.nd rfl (by walk_at "o") (aw c9 (aw iB (pv 5) af) (bD (cq (K:=K) rfl) (by rfl) T.nN PySem.boot_len (aa (pv 3) ai))))
   (ae (aq (i:=7) nv.nd rfl (by walk_at "o") (aw c9 (aw iB (pv 5) af) (bD (cq (K:=K) rfl) (by rfl) T.nN PySem.boot_len (aa (pv 3) ai))))
   (ae (c7 (gR (eJ (au oJ (hr.mono (by decide)) (by rfl) T.n8 T.nY T.fj .nil aV (aa (pv 2) (aa (pv 4) (aa (pv 6) (aa (pv 7) ai))))))) (aj (aM lj)) a7)
   (aj (c7 (gR (eJ (au lU (hr.mono (by decide)) (by rfl) T.lL T.lK T.dN .nil aV (aa (pv 2) (aa (pv 3) (aa (pv 6) (aa (pv 7) (aa (aw c9 (pv 5) af) ai)))))))) (aj (aM lj)) a7))))))
   (aj (aM lj)))))))))),aH (σ':=[some _,none,none,none,none,none,none,none]) rfl ?_⟩
  walk_at "l2"
  refine ⟨p0,ns,0,4,rfl,hS,by decide,by decide,fun t n o H1 m nx os s1 fn fo tt hl=>?_⟩
  have hS1:=Same.seq s1 hS
  have e0:=tt.t
  have en:=tt.tab.n
  walk_at "l2"
  refine xH (fun σ H9=>∃ (t n o:Addr) (m:Nat) (nx os:List Pr3),Same H H9∧TabT H9 t n o m nx os∧nx.length≤4∧m≤3∧σ=[some (.ref p0),some (.ref t),none,none,none,none,none,none]) ?_ ?_
  ·walk_at "l2"
   by_cases hc:4 < nx.length
   ·refine ti (decide_eq_true (by rw [cb];omega)) ?_
    walk_at "l2"
    intro Ln H2 f2 s2 e2
    walk_at "l2"
    intro tz H3 f3 s3 e3
    walk_at "l2"
    intro Lo H4 f4 s4 e4
    walk_at "l2"
    intro tn H5 f5 s5 e5
    walk_at "l2"
    have s25:=(s3.trans s4).trans s5
    exact ⟨tn,Ln,Lo,0,[],[(tz,0,0)],(s1.trans s2).trans s25,dflt e5 (s25.get e2) (s5.get e4) ((s4.trans s5).get e3),by decide,by decide,rfl⟩
   ·refine o6 (decide_eq_false (by rw [cb];omega)) ?_
    walk_at "l2"
    by_cases hc2:3 < m
    ·refine ti (decide_eq_true (by omega)) ?_
     walk_at "l2"
     intro Ln H2 f2 s2 e2
     walk_at "l2"
     intro tz H3 f3 s3 e3
     walk_at "l2"
     intro Lo H4 f4 s4 e4
     walk_at "l2"
     intro tn H5 f5 s5 e5
     walk_at "l2"
     have s25:=(s3.trans s4).trans s5
     exact ⟨tn,Ln,Lo,0,[],[(tz,0,0)],(s1.trans s2).trans s25,dflt e5 (s25.get e2) (s5.get e4) ((s4.trans s5).get e3),by decide,by decide,rfl⟩
    ·refine o6 (decide_eq_false (by omega)) ?_
     walk_at "l2"
     exact ⟨t,n,o,m,nx,os,s1,tt,by omega,by omega,rfl⟩
  ·clear tt e0 en fn fo hl hS1 s1 t n o m nx os
   rintro σ H2 ⟨t,n,o,m,nx,os,s2,tt,hl,hm,rfl⟩
   have hS2:=Same.seq s2 hS
   have e0:=tt.t
   have en:=tt.tab.n
   have eo:=tt.tab.o
   have m6:=tt.tab.m6
   walk_at "l2"
   intro Dn H3 f3 s3 e3
   have eo3:=s3.get eo
   walk_at "l2"
   intro Do H4 f4 s4 e4
   walk_at "l2"
   intro x dx H5 f5 s5 e5
   have s35:=s4.trans s5
   have s25:=s3.trans s35
   refine ⟨x,dx,Dn,Do,m,nx,os,rfl,e5,⟨m6,s35.get e3,s5.get e4,tt.tab.pn.same s25,tt.tab.po.same s25,tt.tab.ln,tt.tab.lo,tt.tab.bn⟩,fun H6 k ma=>⟨rfl,?_⟩⟩
   have s26:Same H2 H6:=fun b ob e=>k b ob (ar (s4.get (s3.get e)) f5) (s25.get e)
   have tt6:=tt.same s26
   have hS6:=Same.seq s26 hS2
   have g:=tt6.tab.g
   clear k s25 s35 e5 s5 f5 e4 s4 f4 eo3 e3 s3 f3 eo en e0 tt hS2 s26 s2
   walk_at "l2"
   refine ⟨t,n,o,m,nx,os,rfl,tt6,hl,hm,fun S Ds H7 f7 s7 st=>?_⟩
   walk_at "l2"
   refine ⟨S,Ds,prs nx,prs os,m,rfl,st,by rw [bo];exact hl,hm,fun F H8 kvs f8 s8 e8 uf=>?_⟩
   have st8:=st.same s8
   have ma8:=(ma.same s7).same s8
   have hS8:=Same.seq s8 (Same.seq s7 hS6)
   clear tt6 hS6 st ma s7 s8 f7 f8
   walk_at "l2"
   refine ⟨x,S,Ds,m,nx,os,rfl,ma8,g,st8,hl,hm,fun H9 s9=>?_⟩
   have st9:=st8.same s9
   have ma9:=ma8.same s9
   have hS9:=Same.seq s9 hS8
   have e9:=s9.get e8
   clear st8 ma8 hS8 e8 s9
   walk_at "l2"
   obtain ⟨zs,hzs,lzs⟩:∃ zs:List Int,cutV (ns.map V.int) (some 5) (some 11)=zs.map V.int∧zs.length≤63:=by
    have hl:=uN (ns.map V.int) (some 5) (some 11)
    have:∃ zs:List Int,cutV (ns.map V.int) (some 5) (some 11)=zs.map V.int:=by
     unfold cutV
     rw [← List.map_drop,← List.map_take]
     exact ⟨_,rfl⟩
    obtain ⟨zs,e⟩:=this
    rw [e,List.length_map,List.length_map] at hl
    exact ⟨zs,e,by omega⟩
   rw [hzs]
   intro La H10 f10 s10 e10
   walk_at "l2"
   intro Lb H11 f11 s11 e11
   walk_at "l2"
   refine L4 (s11.get e10) e11 (by rw [List.length_map];exact Nat.le_of_lt (cU (by show zs.length + 1≤1000;omega))) fun Lc H12 f12 s12 e12=>?_
   have e12:H12 Lc=some (.lst ((zs++[1]).map V.int)):=by rw [e12,List.map_append];rfl
   have s912:=(s10.trans s11).trans s12
   have st12:=st9.same s912
   have ma12:=ma9.same s912
   have eF12:=s912.get e9
   clear st9 ma9 hS9 e9 s912 s12 s11 s10 e10 e11 f10 f11 f12
   have hn16:2 ^ nx.length≤16:=Nat.pow_le_pow_right (n:=2) (by decide) hl
   have hN0:(0:Int) < ((2 ^ nx.length:Nat):Int):=by exact_mod_cast Nat.two_pow_pos nx.length
   have lD:=st12.len
   rw [bo] at lD
   refine ⟨Lc,rfl,⟨_,SqL.of e12⟩,?_⟩
   refine gH (xs:=(zs++[1]).map V.int) (fun i σ H'=>∃ (v5 v6 v7:Option V),σ=[some (.ref p0),some (.ref t),some (.ref x),some (.ref S),some (.ref F),v5,v6,v7]∧Same H12 H') ⟨none,none,none,rfl,Same.refl _⟩ (fun i σ H' _ ⟨_,_,_,_,s'⟩=>SqL.of (s'.get e12)) ?_ ?_
   ·rintro i v σ H13 hv ⟨v5,v6,v7,rfl,s13⟩
    obtain ⟨c,hc,rfl⟩:=bZ hv
    have st13:=st12.same s13
    have eS13:=st13.at_
    have ma13:=ma12.same s13
    have eF13:=s13.get eF12
    obtain ⟨k1,h1,l1⟩:=jm (c:=c / 8) (m:=((2 ^ nx.length:Nat):Int)) hN0
    obtain ⟨k2,h2,l2⟩:=jm (c:=c / 256) (m:=((2 ^ nx.length:Nat):Int)) hN0
    obtain ⟨k3,h3,l3⟩:=jm (c:=c) (m:=8) (by decide)
    have l1:k1 < 2 ^ nx.length:=by exact_mod_cast l1
    have l2:k2 < 2 ^ nx.length:=by exact_mod_cast l2
    walk_at "l2"
    rw [List.length_map,lD]
    walk_at "l2"
    rw [List.length_map,lD]
    walk_at "l2"
    rw [h1,h2]
    refine ⟨x,F,kvs,m,k1,k2,nx,os,rfl,ma13,g,eF13,uf,hl,l1,l2,fun H14 s14=>?_⟩
    walk_at "l2"
    rw [h3]
    refine ⟨x,S,Ds,m,k1,k2,k3,nx,os,rfl,ma13.same s14,g,st13.same s14,hl,hm,l1,l2,by omega,fun H15 s15=>?_⟩
    walk_at "l2"
    exact ⟨_,_,_,rfl,(s13.trans s14).trans s15⟩
   ·rintro σ H13 ⟨v5,v6,v7,rfl,s13⟩
    walk_at "l2"
    exact q _
end
open PySem.W in
theorem all_mk {l:OpenLaw} {w:World} {K:Frag} {h:Heap} {mg:Str→Option Value} {fa:Addr} (X:K.In h) (G:h.Ns mainGlobals mg) (hfa:mg "law"=some (.ref fa))
  {Bq Ce:Option Addr} {Bb:Array (Option Value)} {Bx BJ BY Bi uT B5:Value} {cM:Addr}
  {Ek Fu:Option Addr} {DH:Array (Option Value)} {Eu EJ E2 DX xl Fb:Value} {dQ:Addr}
  {Ml MV:Option Addr} {LJ:Array (Option Value)} {Mm Mu MJ Mb Ic MM:Value} {n9:Addr}
  {Eo Fx:Option Addr} {DK:Array (Option Value)} {Ey EM E5 D9 xp Fe:Value} {eZ:Addr}
  {Ei Fs:Option Addr} {DF:Array (Option Value)} {Es EH EY DV xj E8:Value} {eR:Addr}
  {Bp Cd:Option Addr} {Ba:Array (Option Value)} {Bw BI BX Bh uS B4:Value} {dB:Addr}
  {pD qm:Option Addr} {oW:Array (Option Value)} {pH pR p5 pd iY qe:Value} {aQ:Addr}
  {rB sE:Option Addr} {qX:Array (Option Value)} {rF r6 sh rh jI so:Value} {a9:Addr}
  {zG AM:Option Addr} {ze:Array (Option Value)} {zJ zW Aq zi qN Av:Value} {bU:Addr}
  {rC sF:Option Addr} {qY:Array (Option Value)} {rG r8 si rj jJ su:Value} {bb:Addr}
  {Eg Fp:Option Addr} {DD:Array (Option Value)} {Ep EF EW DT xh E6:Value} {eN:Addr}
  {JP Kv:Option Addr} {Jv:Array (Option Value)} {JR J3 Km JI C4 Ko:Value} {jl:Addr}
  {JO Ku:Option Addr} {Ju:Array (Option Value)} {JQ J2 Kl JH C3 Kn:Value} {jk:Addr}
  {Eh Fq:Option Addr} {DE:Array (Option Value)} {Er EG EX DU xi E7:Value} {eP:Addr}
  {rA sD:Option Addr} {qW:Array (Option Value)} {rE rZ sg rg jH sk:Value} {bx:Addr}
  {vC wg:Option Addr} {vt:Array (Option Value)} {vE vO vW vy l0 vY:Value} {bM:Addr}
  {El Fv:Option Addr} {DI:Array (Option Value)} {Ew EK E3 DY xn Fc:Value} {eV:Addr}
  {yc yP:Option Addr} {xy:Array (Option Value)} {yg yo yz xO om yF:Value} {cf:Addr}
  {Em Fw:Option Addr} {DJ:Array (Option Value)} {Ex EL E4 DZ xo Fd:Value} {eW:Addr}
  {Ej Ft:Option Addr} {DG:Array (Option Value)} {Et EI EZ DW xk E9:Value} {eU:Addr}
  {vD wj:Option Addr} {vw:Array (Option Value)} {vF vP vX vz l6 vZ:Value} {bN:Addr}
  {G1 Iv:Option Addr} {GC:Array (Option Value)} {G2 Hk HX GP Ay Ib:Value} {gI:Addr}
  {yd yQ:Option Addr} {xA:Array (Option Value)} {yh yp yA xP oq yG:Value} {cj:Addr}
  {mC ni:Option Addr} {me:Array (Option Value)} {mF mM mT ml hU mZ:Value} {aI:Addr}
  {pF qp:Option Addr} {oY:Array (Option Value)} {pJ pU p7 pf i0 qg:Value} {aT:Addr}
  {jO jV:Option Addr} {jL:Array (Option Value)} {jP jS jT jN fC jU:Value} {aB:Addr}
  {tR vf:Option Addr} {sX:Array (Option Value)} {tV uu uE tD kD uQ:Value} {bp:Addr}
  {pE qo:Option Addr} {oX:Array (Option Value)} {pI pS p6 pe iZ qf:Value} {aR:Addr}
  {kK:Addr} {qU:Value} {qT:Option Addr} {qS:Nat} {qP:Array (Option Value)} {jF:Tok}
  {rD sG:Option Addr} {q0:Array (Option Value)} {rH r9 sj rl jK sv:Value} {bc:Addr}
  {tS vg:Option Addr} {sY:Array (Option Value)} {tW uv uF tE kE uR:Value} {bq:Addr}
  {zE AK:Option Addr} {zc:Array (Option Value)} {zH zU Ao zg qK Ar:Value} {cR:Addr}
  {Bv Cg:Option Addr} {Bd:Array (Option Value)} {Bz BL B0 Bk uV B7:Value} {dD:Addr}
  {yf yS:Option Addr} {xD:Array (Option Value)} {yj yr yC xR ou yI:Value} {cn:Addr}
  {tP vd:Option Addr} {sV:Array (Option Value)} {tT uq uC tu kB uO:Value} {bE:Addr}
  {tQ ve:Option Addr} {sW:Array (Option Value)} {tU ur uD tw kC uP:Value} {bF:Addr}
  {Bu Cf:Option Addr} {Bc:Array (Option Value)} {By BK BZ Bj uU B6:Value} {dC:Addr}
  {zF AL:Option Addr} {zd:Array (Option Value)} {zI zV Ap zh qL Au:Value} {cS:Addr}
  {ye yR:Option Addr} {xC:Array (Option Value)} {yi yq yB xQ ot yH:Value} {ck:Addr}
  {mz ng:Option Addr} {l9:Array (Option Value)} {mD mK mR mi g8 mX:Value} {aW:Addr}
  {lE lQ:Option Addr} {lg:Array (Option Value)} {lF lJ lM lh gE lN:Value} {aP:Addr}
  {pC ql:Option Addr} {oV:Array (Option Value)} {pG pQ p4 o9 iX qd:Value} {bu:Addr}
  {nK oF:Option Addr} {nu:Array (Option Value)} {nL nU oa nC ij oh:Value} {bg:Addr}
  {mB nh:Option Addr} {md:Array (Option Value)} {mE mL mS mj g9 mY:Value} {aX:Addr}
  {j8 kJ:Option Addr} {jY:Array (Option Value)} {j9 kl kn j4 fZ kA:Value} {aK:Addr}
  {Oy O1:Option Addr} {NC:Array (Option Value)} {Oz OE OS Oh K8 OU:Value} {An:Addr}
  {aJ:Addr} (MZ:nsIn K mainGlobals "Steps"=some (some (.ref aJ)))
  {ao:Addr} (IF:nsIn K mainGlobals "Machine"=some (some (.ref ao)))
  (Fz:nsIn K mainGlobals "is_whole"=some (some (.ref cM)))
  (EC:K.lookup cM=some ⟨Bx,Bq,.func (fnOf "is_whole" "is_whole" (aC gM) (az gM) (ag gM) .none BJ BY Bi Ce uT B5),Bb⟩)
  (Fk:codeIn K uT "is_whole"=true)
  (wL:keepIn K (.ref cM)=true)
  (IB:nsIn K mainGlobals "is_mask"=some (some (.ref dQ)))
  (Hg:K.lookup dQ=some ⟨Eu,Ek,.func (fnOf "is_mask" "is_mask" (aC iP) (az iP) (ag iP) .none EJ E2 DX Fu xl Fb),DH⟩)
  (Ik:codeIn K xl "is_mask"=true)
  (zw:keepIn K (.ref dQ)=true)
  (O4:nsIn K mainGlobals "even"=some (some (.ref n9)))
  (OD:K.lookup n9=some ⟨Mm,Ml,.func (fnOf "even" "even" (aC wC) (az wC) (ag wC) .none Mu MJ Mb MV Ic MM),LJ⟩)
  (OX:codeIn K Ic "even"=true)
  (KW:keepIn K (.ref n9)=true)
  (IE:nsIn K mainGlobals "bits_of"=some (some (.ref eZ)))
  (Hj:K.lookup eZ=some ⟨Ey,Eo,.func (fnOf "bits_of" "bits_of" (aC gQ) (az gQ) (ag gQ) .none EM E5 D9 Fx xp Fe),DK⟩)
  (Ip:codeIn K xp "bits_of"=true)
  (zA:keepIn K (.ref eZ)=true)
  (Iz:nsIn K mainGlobals "mask_of"=some (some (.ref eR)))
  (He:K.lookup eR=some ⟨Es,Ei,.func (fnOf "mask_of" "mask_of" (aC iN) (az iN) (ag iN) .none EH EY DV Fs xj E8),DF⟩)
  (Ii:codeIn K xj "mask_of"=true)
  (zu:keepIn K (.ref eR)=true)
  (Fy:nsIn K mainGlobals "unpacked"=some (some (.ref dB)))
  (EB:K.lookup dB=some ⟨Bw,Bp,.func (fnOf "unpacked" "unpacked" (aC fH) (az fH) (ag fH) .none BI BX Bh Cd uS B4),Ba⟩)
  (Fj:codeIn K uS "unpacked"=true)
  (wK:keepIn K (.ref dB)=true)
  (FI:findIn K (.ref aJ) "__init__"=some (some (.ref aQ)))
  (rW:K.lookup aQ=some ⟨pH,pD,.func (fnOf "__init__" "Steps.__init__" (aC b7) (az b7) (ag b7) .none pR p5 pd qm iY qe),oW⟩)
  (sy:codeIn K iY "Steps.__init__"=true)
  (jC:keepIn K (.ref aQ)=true)
  (FZ:findIn K (.ref aJ) "lowered"=some (some (.ref a9)))
  (uk:K.lookup a9=some ⟨rF,rB,.func (fnOf "lowered" "Steps.lowered" (aC cF) (az cF) (ag cF) .none r6 sh rh sE jI so),qX⟩)
  (uZ:codeIn K jI "Steps.lowered"=true)
  (gT:keepIn K (.ref a9)=true)
  (Lq:findIn K (.ref aJ) "lay"=some (some (.ref bU)))
  (BH:K.lookup bU=some ⟨zJ,zG,.func (fnOf "lay" "Steps.lay" (aC fK) (az fK) (ag fK) .none zW Aq zi AM qN Av),ze⟩)
  (Ca:codeIn K qN "Steps.lay"=true)
  (mm:keepIn K (.ref bU)=true)
  (F1:findIn K (.ref aJ) "barring"=some (some (.ref bb)))
  (um:K.lookup bb=some ⟨rG,rC,.func (fnOf "barring" "Steps.barring" (aC cG) (az cG) (ag cG) .none r8 si rj sF jJ su),qY⟩)
  (u0:codeIn K jJ "Steps.barring"=true)
  (gU:keepIn K (.ref bb)=true)
  (Iw:nsIn K mainGlobals "sum_for"=some (some (.ref eN)))
  (Hc:K.lookup eN=some ⟨Ep,Eg,.func (fnOf "sum_for" "sum_for" (aC iL) (az iL) (ag iL) .none EF EW DT Fp xh E6),DD⟩)
  (Ig:codeIn K xh "sum_for"=true)
  (zq:keepIn K (.ref eN)=true)
  (MY:nsIn K mainGlobals "chain"=some (some (.ref jl)))
  (Mt:K.lookup jl=some ⟨JR,JP,.func (fnOf "chain" "chain" (aC s_chain) (az s_chain) (ag s_chain) .none J3 Km JI Kv C4 Ko),Jv⟩)
  (MP:codeIn K C4 "chain"=true)
  (GU:keepIn K (.ref jl)=true)
  (MX:nsIn K mainGlobals "reach"=some (some (.ref jk)))
  (Ms:K.lookup jk=some ⟨JQ,JO,.func (fnOf "reach" "reach" (aC j0) (az j0) (ag j0) .none J2 Kl JH Ku C3 Kn),Ju⟩)
  (MO:codeIn K C3 "reach"=true)
  (GT:keepIn K (.ref jk)=true)
  (Iy:nsIn K mainGlobals "rows_at"=some (some (.ref eP)))
  (Hd:K.lookup eP=some ⟨Er,Eh,.func (fnOf "rows_at" "rows_at" (aC iM) (az iM) (ag iM) .none EG EX DU Fq xi E7),DE⟩)
  (Ih:codeIn K xi "rows_at"=true)
  (zr:keepIn K (.ref eP)=true)
  (vh:nsIn K mainGlobals "states_behind"=some (some (.ref bx)))
  (uj:K.lookup bx=some ⟨rE,rA,.func (fnOf "states_behind" "states_behind" (aC cE) (az cE) (ag cE) .none rZ sg rg sD jH sk),qW⟩)
  (uY:codeIn K jH "states_behind"=true)
  (j6:keepIn K (.ref bx)=true)
  (yT:nsIn K mainGlobals "masks_ahead"=some (some (.ref bM)))
  (ym:K.lookup bM=some ⟨vE,vC,.func (fnOf "masks_ahead" "masks_ahead" (aC dw) (az dw) (ag dw) .none vO vW vy wg l0 vY),vt⟩)
  (yK:codeIn K l0 "masks_ahead"=true)
  (nF:keepIn K (.ref bM)=true)
  (IC:nsIn K mainGlobals "come_to"=some (some (.ref eV)))
  (Hh:K.lookup eV=some ⟨Ew,El,.func (fnOf "come_to" "come_to" (aC iQ) (az iQ) (ag iQ) .none EK E3 DY Fv xn Fc),DI⟩)
  (Il:codeIn K xn "come_to"=true)
  (zy:keepIn K (.ref eV)=true)
  (AN:nsIn K mainGlobals "told_apart"=some (some (.ref cf)))
  (zQ:K.lookup cf=some ⟨yg,yc,.func (fnOf "told_apart" "told_apart" (aC d8) (az d8) (ag d8) .none yo yz xO yP om yF),xy⟩)
  (AA:codeIn K om "told_apart"=true)
  (qC:keepIn K (.ref cf)=true)
  (ID:nsIn K mainGlobals "brought"=some (some (.ref eW)))
  (Hi:K.lookup eW=some ⟨Ex,Em,.func (fnOf "brought" "brought" (aC iR) (az iR) (ag iR) .none EL E4 DZ Fw xo Fd),DJ⟩)
  (Io:codeIn K xo "brought"=true)
  (zz:keepIn K (.ref eW)=true)
  (IA:nsIn K mainGlobals "is_pair"=some (some (.ref eU)))
  (Hf:K.lookup eU=some ⟨Et,Ej,.func (fnOf "is_pair" "is_pair" (aC iO) (az iO) (ag iO) .none EI EZ DW Ft xk E9),DG⟩)
  (Ij:codeIn K xk "is_pair"=true)
  (zv:keepIn K (.ref eU)=true)
  (yU:nsIn K mainGlobals "check_table"=some (some (.ref bN)))
  (yn:K.lookup bN=some ⟨vF,vD,.func (fnOf "check_table" "check_table" (aC cQ) (az cQ) (ag cQ) .none vP vX vz wj l6 vZ),vw⟩)
  (yL:codeIn K l6 "check_table"=true)
  (nG:keepIn K (.ref bN)=true)
  (Kw:nsIn K mainGlobals "is_odd"=some (some (.ref gI)))
  (J0:K.lookup gI=some ⟨G2,G1,.func (fnOf "is_odd" "is_odd" (aC kQ) (az kQ) (ag kQ) .none Hk HX GP Iv Ay Ib),GC⟩)
  (Ks:codeIn K Ay "is_odd"=true)
  (CO:keepIn K (.ref gI)=true)
  (AO:nsIn K mainGlobals "odd_places"=some (some (.ref cj)))
  (zR:K.lookup cj=some ⟨yh,yd,.func (fnOf "odd_places" "odd_places" (aC di) (az di) (ag di) .none yp yA xP yQ oq yG),xA⟩)
  (AB:codeIn K oq "odd_places"=true)
  (qD:keepIn K (.ref cj)=true)
  (Cr:findIn K (.ref ao) "__init__"=some (some (.ref aI)))
  (nR:K.lookup aI=some ⟨mF,mC,.func (fnOf "__init__" "Machine.__init__" (aC bJ) (az bJ) (ag bJ) .none mM mT ml ni hU mZ),me⟩)
  (oz:codeIn K hU "Machine.__init__"=true)
  (ia:keepIn K (.ref aI)=true)
  (FK:findIn K (.ref ao) "stores"=some (some (.ref aT)))
  (rY:K.lookup aT=some ⟨pJ,pF,.func (fnOf "stores" "Machine.stores" (aC b9) (az b9) (ag b9) .none pU p7 pf qp i0 qg),oY⟩)
  (sC:codeIn K i0 "Machine.stores"=true)
  (gh:keepIn K (.ref aT)=true)
  (y6:findIn K (.ref ao) "check_state"=some (some (.ref aB)))
  (kj:K.lookup aB=some ⟨jP,jO,.func (fnOf "check_state" "Machine.check_state" (aC bw) (az bw) (ag bw) .none jS jT jN jV fC jU),jL⟩)
  (kG:codeIn K fC "Machine.check_state"=true)
  (dk:keepIn K (.ref aB)=true)
  (IU:findIn K (.ref ao) "step"=some (some (.ref bp)))
  (vM:K.lookup bp=some ⟨tV,tR,.func (fnOf "step" "Machine.step" (aC c3) (az c3) (ag c3) .none uu uE tD vf kD uQ),sX⟩)
  (wc:codeIn K kD "Machine.step"=true)
  (iz:keepIn K (.ref bp)=true)
  (FJ:findIn K (.ref ao) "walked"=some (some (.ref aR)))
  (rX:K.lookup aR=some ⟨pI,pE,.func (fnOf "walked" "Machine.walked" (aC b8) (az b8) (ag b8) .none pS p6 pe qo iZ qf),oX⟩)
  (sA:codeIn K iZ "Machine.walked"=true)
  (gf:keepIn K (.ref aR)=true)
  (F2:findIn K (.ref ao) "after"=some (some (.ref bc)))
  (uo:K.lookup bc=some ⟨rH,rD,.func (fnOf "after" "Machine.after" (aC cH) (az cH) (ag cH) (.ref kK) r9 sj rl sG jK sv),q0⟩)
  (rT:K.lookup kK=some ⟨qU,qT,.seq #[.int 0 jF] qS,qP⟩)
  (u1:codeIn K jK "Machine.after"=true)
  (gW:keepIn K (.ref bc)=true)
  (IV:findIn K (.ref ao) "back"=some (some (.ref bq)))
  (vN:K.lookup bq=some ⟨tW,tS,.func (fnOf "back" "Machine.back" (aC c4) (az c4) (ag c4) .none uv uF tE vg kE uR),sY⟩)
  (we:codeIn K kE "Machine.back"=true)
  (iA:keepIn K (.ref bq)=true)
  (Ci:nsIn K mainGlobals "_law_cell"=some (some (.ref cR)))
  (BF:K.lookup cR=some ⟨zH,zE,.func (fnOf "_law_cell" "_law_cell" (aC fI) (az fI) (ag fI) .none zU Ao zg AK qK Ar),zc⟩)
  (B8:codeIn K qK "_law_cell"=true)
  (tJ:keepIn K (.ref cR)=true)
  (FC:nsIn K mainGlobals "_law_mix"=some (some (.ref dD)))
  (EE:K.lookup dD=some ⟨Bz,Bv,.func (fnOf "_law_mix" "_law_mix" (aC gO) (az gO) (ag gO) .none BL B0 Bk Cg uV B7),Bd⟩)
  (Fn:codeIn K uV "_law_mix"=true)
  (wN:keepIn K (.ref dD)=true)
  (AR:nsIn K mainGlobals "_law_masks"=some (some (.ref cn)))
  (zT:K.lookup cn=some ⟨yj,yf,.func (fnOf "_law_masks" "_law_masks" (aC d9) (az d9) (ag d9) .none yr yC xR yS ou yI),xD⟩)
  (AD:codeIn K ou "_law_masks"=true)
  (qG:keepIn K (.ref cn)=true)
  (wk:nsIn K mainGlobals "_law_thinned"=some (some (.ref bE)))
  (vK:K.lookup bE=some ⟨tT,tP,.func (fnOf "_law_thinned" "_law_thinned" (aC c2) (az c2) (ag c2) .none uq uC tu vd kB uO),sV⟩)
  (wa:codeIn K kB "_law_thinned"=true)
  (lV:keepIn K (.ref bE)=true)
  (wm:nsIn K mainGlobals "_law_machine"=some (some (.ref bF)))
  (vL:K.lookup bF=some ⟨tU,tQ,.func (fnOf "_law_machine" "_law_machine" (aC bC) (az bC) (ag bC) .none ur uD tw ve kC uP),sW⟩)
  (wb:codeIn K kC "_law_machine"=true)
  (lW:keepIn K (.ref bF)=true)
  (FA:nsIn K mainGlobals "_law_odd"=some (some (.ref dC)))
  (ED:K.lookup dC=some ⟨By,Bu,.func (fnOf "_law_odd" "_law_odd" (aC gN) (az gN) (ag gN) .none BK BZ Bj Cf uU B6),Bc⟩)
  (Fl:codeIn K uU "_law_odd"=true)
  (wM:keepIn K (.ref dC)=true)
  (Cj:nsIn K mainGlobals "_law_bits"=some (some (.ref cS)))
  (BG:K.lookup cS=some ⟨zI,zF,.func (fnOf "_law_bits" "_law_bits" (aC fJ) (az fJ) (ag fJ) .none zV Ap zh AL qL Au),zd⟩)
  (B9:codeIn K qL "_law_bits"=true)
  (tK:keepIn K (.ref cS)=true)
  (AQ:nsIn K mainGlobals "_law_steps"=some (some (.ref ck)))
  (zS:K.lookup ck=some ⟨yi,ye,.func (fnOf "_law_steps" "_law_steps" (aC dj) (az dj) (ag dj) .none yq yB xQ yR ot yH),xC⟩)
  (AC:codeIn K ot "_law_steps"=true)
  (qF:keepIn K (.ref ck)=true)
  (oG:nsIn K mainGlobals "_law_least_turns"=some (some (.ref aW)))
  (nP:K.lookup aW=some ⟨mD,mz,.func (fnOf "_law_least_turns" "_law_least_turns" (aC bH) (az bH) (ag bH) .none mK mR mi ng g8 mX),l9⟩)
  (ox:codeIn K g8 "_law_least_turns"=true)
  (h8:keepIn K (.ref aW)=true)
  (nj:nsIn K mainGlobals "_law_first_unlike"=some (some (.ref aP)))
  (mJ:K.lookup aP=some ⟨lF,lE,.func (fnOf "_law_first_unlike" "_law_first_unlike" (aC bB) (az bB) (ag bB) .none lJ lM lh lQ gE lN),lg⟩)
  (m8:codeIn K gE "_law_first_unlike"=true)
  (gS:keepIn K (.ref aP)=true)
  (sH:nsIn K mainGlobals "_law_is_unlike"=some (some (.ref bu)))
  (rV:K.lookup bu=some ⟨pG,pC,.func (fnOf "_law_is_unlike" "_law_is_unlike" (aC b6) (az b6) (ag b6) .none pQ p4 o9 ql iX qd),oV⟩)
  (sx:codeIn K iX "_law_is_unlike"=true)
  (jB:keepIn K (.ref bu)=true)
  (qr:nsIn K mainGlobals "_law_come_right"=some (some (.ref bg)))
  (pP:K.lookup bg=some ⟨nL,nK,.func (fnOf "_law_come_right" "_law_come_right" (aC bQ) (az bQ) (ag bQ) .none nU oa nC oF ij oh),nu⟩)
  (qi:codeIn K ij "_law_come_right"=true)
  (iS:keepIn K (.ref bg)=true)
  (oH:nsIn K mainGlobals "_law_apart_right"=some (some (.ref aX)))
  (nQ:K.lookup aX=some ⟨mE,mB,.func (fnOf "_law_apart_right" "_law_apart_right" (aC bI) (az bI) (ag bI) .none mL mS mj nh g9 mY),md⟩)
  (oy:codeIn K g9 "_law_apart_right"=true)
  (h9:keepIn K (.ref aX)=true)
  (lR:nsIn K mainGlobals "_law_brought_right"=some (some (.ref aK)))
  (lI:K.lookup aK=some ⟨j9,j8,.func (fnOf "_law_brought_right" "_law_brought_right" (aC bA) (az bA) (ag bA) .none kl kn j4 kJ fZ kA),jY⟩)
  (lP:codeIn K fZ "_law_brought_right"=true)
  (gD:keepIn K (.ref aK)=true)
  (O3:nsIn K mainGlobals "law"=some (some (.ref An)))
  (P2:K.lookup An=some ⟨Oz,Oy,.func (fnOf "law" "law" (aC DQ) (az DQ) (ag DQ) .none OE OS Oh O1 K8 OU),NC⟩)
  (P4:codeIn K K8 "law"=true)
  (Os:keepIn K (.ref An)=true)
  (CI:plainGet K aJ Str.empty=true)
  (CH:hasDictIn K aJ=true)
  (CG:plainOver K aJ=true)
  (CF:findIn K (.ref aJ) "__setattr__"=some (some (.builtin "object.__setattr__")))
  (JF:findIn K (.ref aJ) "__class__"=some (some (.builtin "object.__class__")))
  (JE:mroIn K aJ (.type "object")=some true)
  (Ki:makesIn K aJ=true)
  (Kh:findIn K (.ref aJ) "__init__"=some (some (.ref aQ)))
  (Kg:isFn K (.ref aQ)=true)
  (Kf:keepIn K (.ref aJ)=true)
  (rQ:findIn K (.ref aJ) "lowered"=some (some (.ref a9)))
  (rN:isFn K (.ref a9)=true)
  (zO:findIn K (.ref aJ) "lay"=some (some (.ref bU)))
  (zN:isFn K (.ref bU)=true)
  (rR:findIn K (.ref aJ) "barring"=some (some (.ref bb)))
  (rO:isFn K (.ref bb)=true)
  (vH:findIn K (.ref aJ) "by_top"=some none)
  (mG:findIn K (.ref aJ) "free_places"=some none)
  (vG:findIn K (.ref aJ) "inputs"=some none)
  (yk:findIn K (.ref aJ) "nexts"=some none)
  (nM:findIn K (.ref aJ) "null_masks"=some none)
  (zK:findIn K (.ref aJ) "outs"=some none)
  (wH:plainGet K ao Str.empty=true)
  (wG:hasDictIn K ao=true)
  (wF:plainOver K ao=true)
  (wD:findIn K (.ref ao) "__setattr__"=some (some (.builtin "object.__setattr__")))
  (DS:findIn K (.ref ao) "__class__"=some (some (.builtin "object.__class__")))
  (DR:mroIn K ao (.type "object")=some true)
  (EV:makesIn K ao=true)
  (EU:findIn K (.ref ao) "__init__"=some (some (.ref aI)))
  (ET:isFn K (.ref aI)=true)
  (ES:keepIn K (.ref ao)=true)
  (pO:findIn K (.ref ao) "stores"=some (some (.ref aT)))
  (pM:isFn K (.ref aT)=true)
  (jR:findIn K (.ref ao) "check_state"=some (some (.ref aB)))
  (jQ:isFn K (.ref aB)=true)
  (ud:findIn K (.ref ao) "step"=some (some (.ref bp)))
  (ub:isFn K (.ref bp)=true)
  (pN:findIn K (.ref ao) "walked"=some (some (.ref aR)))
  (pL:isFn K (.ref aR)=true)
  (rS:findIn K (.ref ao) "after"=some (some (.ref bc)))
  (rP:isFn K (.ref bc)=true)
  (ue:findIn K (.ref ao) "back"=some (some (.ref bq)))
  (uc:isFn K (.ref bq)=true)
  (rK:findIn K (.ref ao) "by_top"=some none)
  (ka:findIn K (.ref ao) "free_places"=some none)
  (rJ:findIn K (.ref ao) "inputs"=some none)
  (tX:findIn K (.ref ao) "nexts"=some none)
  (lG:findIn K (.ref ao) "null_masks"=some none)
  (vI:findIn K (.ref ao) "outs"=some none)
  (w1:specialIn K (.builtin "object.__class__") "__get__"=some (some (.builtin "getset_descriptor.__get__")))
  (w2:takesIn K (.builtin "object.__class__")=some true)
  {bt:Addr} (IG:nsIn K mainGlobals "BadMask"=some (some (.ref bt)))
  {bR:Addr} (FD:nsIn K mainGlobals "BadTable"=some (some (.ref bR)))
  {dc:Addr} (Ky:nsIn K mainGlobals "BadRow"=some (some (.ref dc)))
  (iJ:excIn K bt [.type "ValueError",.type "Exception",.type "BaseException",.type "object"] "ValueError.__new__"=true)
  (Di:isClsIn K bt=true)
  (Dh:findIn K (.ref bt) "__getattribute__"=some (some (.builtin "BaseException.__getattribute__")))
  (Dg:findIn K (.ref bt) "__getattr__"=some none)
  (Df:findIn K (.ref bt) "__class__"=some (some (.builtin "object.__class__")))
  (De:mroIn K bt (.type "object")=some true)
  (Dd:mroIn K bt (.type "BaseException")=some true)
  (d7:excIn K bR [.type "ValueError",.type "Exception",.type "BaseException",.type "object"] "ValueError.__new__"=true)
  (A4:isClsIn K bR=true)
  (A3:findIn K (.ref bR) "__getattribute__"=some (some (.builtin "BaseException.__getattribute__")))
  (A2:findIn K (.ref bR) "__getattr__"=some none)
  (A1:findIn K (.ref bR) "__class__"=some (some (.builtin "object.__class__")))
  (AZ:mroIn K bR (.type "object")=some true)
  (AY:mroIn K bR (.type "BaseException")=some true)
  (nq:excIn K dc [.type "ValueError",.type "Exception",.type "BaseException",.type "object"] "ValueError.__new__"=true)
  (FX:isClsIn K dc=true)
  (FW:findIn K (.ref dc) "__getattribute__"=some (some (.builtin "BaseException.__getattribute__")))
  (FV:findIn K (.ref dc) "__getattr__"=some none)
  (FU:findIn K (.ref dc) "__class__"=some (some (.builtin "object.__class__")))
  (FT:mroIn K dc (.type "object")=some true)
  (FS:mroIn K dc (.type "BaseException")=some true)
  {jd:Tok} (yW:nsIn K mainGlobals "MOST_INPUTS"=some (some (.int 6 jd)))
  {l7:Tok} (Ck:nsIn K mainGlobals "MOST_OUTS"=some (some (.int 6 l7)))
  {jc:Tok} (yV:nsIn K mainGlobals "MOST_STORES"=some (some (.int 120 jc)))
  {jW:Tok} (AS:nsIn K mainGlobals "MOST_TURNS"=some (some (.int 40 jW)))
  (Pg:nsIn K mainGlobals "all"=some none)
  (Nb:nsIn K mainGlobals "bool"=some none)
  (AX:nsIn K mainGlobals "enumerate"=some none)
  (Pf:nsIn K mainGlobals "int"=some none)
  (y4:nsIn K mainGlobals "isinstance"=some none)
  (Pe:nsIn K mainGlobals "len"=some none)
  (Na:nsIn K mainGlobals "list"=some none)
  (Lh:nsIn K mainGlobals "range"=some none)
  (IZ:nsIn K mainGlobals "sorted"=some none)
  (Lg:nsIn K mainGlobals "tuple"=some none)
  (Pd:nsIn K mainGlobals "zip"=some none):
  ∃ fd:FuncData,(∀ (s:Shared) (v:Value),BindsTo s fd ⟨[v],[]⟩ [("_law_script",v)])∧∀ base:Heap,K.In base→base.Ns mainGlobals mg→FnOk l.prog w K mg base CX0 12 fa fd ["_law_script"] (CB K):=by
 have e:=hfa.symm.trans (mg_of X G O3)
 cases e
 have k7:=bh (st:=gM) EC Fk wL
 have i5:=k7.binds (ps:=["thing"]) fun _ _ _ _ _ _ us hl=>match us,hl with | [_],_=>rfl
 have oQ:=bh (st:=iP) Hg Ik zw
 have i6:=oQ.binds (ps:=["thing","width"]) fun _ _ _ _ _ _ us hl=>match us,hl with | [_,_],_=>rfl
 have C9:=bh (st:=wC) OD OX KW
 have AJ:=C9.binds (ps:=["number"]) fun _ _ _ _ _ _ us hl=>match us,hl with | [_],_=>rfl
 have oU:=bh (st:=gQ) Hj Ip zA
 have oE:=oU.binds (ps:=["mask"]) fun _ _ _ _ _ _ us hl=>match us,hl with | [_],_=>rfl
 have oO:=bh (st:=iN) He Ii zu
 have oC:=oO.binds (ps:=["places"]) fun _ _ _ _ _ _ us hl=>match us,hl with | [_],_=>rfl
 have k6:=bh (st:=fH) EB Fj wK
 have qj:=k6.binds (ps:=["whole","width","count"]) fun _ _ _ _ _ _ us hl=>match us,hl with | [_,_,_],_=>rfl
 have dY:=bh (st:=b7) rW sy jC
 have gz:=dY.binds (ps:=["self","rows"]) fun _ _ _ _ _ _ us hl=>match us,hl with | [_,_],_=>rfl
 have fw:=bh (st:=cF) uk uZ gT
 have fk:=fw.binds (ps:=["self","mask"]) fun _ _ _ _ _ _ us hl=>match us,hl with | [_,_],_=>rfl
 have jz:=bh (st:=fK) BH Ca mm
 have m9:=jz.binds (ps:=["self","place","row"]) fun _ _ _ _ _ _ us hl=>match us,hl with | [_,_,_],_=>rfl
 have fA:=bh (st:=cG) um u0 gU
 have hX:=fA.binds (ps:=["self","bit"]) fun _ _ _ _ _ _ us hl=>match us,hl with | [_,_],_=>rfl
 have oM:=bh (st:=iL) Hc Ig zq
 have i4:=oM.binds (ps:=["rows","wish"]) fun _ _ _ _ _ _ us hl=>match us,hl with | [_,_],_=>rfl
 have y3:=bh (st:=s_chain) Mt MP GU
 have yO:=y3.binds (ps:=["masks"]) fun _ _ _ _ _ _ us hl=>match us,hl with | [_],_=>rfl
 have yZ:=bh (st:=j0) Ms MO GT
 have yM:=yZ.binds (ps:=["machine","turns"]) fun _ _ _ _ _ _ us hl=>match us,hl with | [_,_],_=>rfl
 have oN:=bh (st:=iM) Hd Ih zr
 have oB:=oN.binds (ps:=["machine","places","turns"]) fun _ _ _ _ _ _ us hl=>match us,hl with | [_,_,_],_=>rfl
 have fq:=bh (st:=cE) uj uY j6
 have hV:=fq.binds (ps:=["machine","state"]) fun _ _ _ _ _ _ us hl=>match us,hl with | [_,_],_=>rfl
 have gJ:=bh (st:=dw) ym yK nF
 have ju:=gJ.binds (ps:=["machine","mask"]) fun _ _ _ _ _ _ us hl=>match us,hl with | [_,_],_=>rfl
 have oR:=bh (st:=iQ) Hh Il zy
 have vb:=oR.binds (ps:=["machine","state"]) fun _ _ _ _ _ _ us hl=>match us,hl with | [_,_],_=>rfl
 have ip:=bh (st:=d8) zQ AA qC
 have kH:=ip.binds (ps:=["machine","one","other"]) fun _ _ _ _ _ _ us hl=>match us,hl with | [_,_,_],_=>rfl
 have oS:=bh (st:=iR) Hi Io zz
 have vc:=oS.binds (ps:=["machine","start","wish","turns"]) fun _ _ _ _ _ _ us hl=>match us,hl with | [_,_,_,_],_=>rfl
 have oP:=bh (st:=iO) Hf Ij zv
 have va:=oP.binds (ps:=["thing","stores","inputs"]) fun _ _ _ _ _ _ us hl=>match us,hl with | [_,_,_],_=>rfl
 have gK:=bh (st:=cQ) yn yL nG
 have jv:=gK.binds (ps:=["inputs","nexts","outs"]) fun _ _ _ _ _ _ us hl=>match us,hl with | [_,_,_],_=>rfl
 have sR:=bh (st:=kQ) J0 Ks CO
 have yN:=sR.binds (ps:=["pair","state","row"]) fun _ _ _ _ _ _ us hl=>match us,hl with | [_,_,_],_=>rfl
 have iq:=bh (st:=di) zR AB qD
 have ik:=iq.binds (ps:=["pairs","state","row"]) fun _ _ _ _ _ _ us hl=>match us,hl with | [_,_,_],_=>rfl
 have dh:=bh (st:=bJ) nR oz ia
 have fm:=dh.binds (ps:=["self","inputs","nexts","outs"]) fun _ _ _ _ _ _ us hl=>match us,hl with | [_,_,_,_],_=>rfl
 have d0:=bh (st:=b9) rY sC gh
 have cX:=d0.binds (ps:=["self"]) fun _ _ _ _ _ _ us hl=>match us,hl with | [_],_=>rfl
 have cu:=bh (st:=bw) kj kG dk
 have aE:=cu.binds (ps:=["self","state"]) fun _ _ _ _ _ _ us hl=>match us,hl with | [_,_],_=>rfl
 have fV:=bh (st:=c3) vM wc iz
 have cx:=fV.binds (ps:=["self","state","row"]) fun _ _ _ _ _ _ us hl=>match us,hl with | [_,_,_],_=>rfl
 have dZ:=bh (st:=b8) rX sA gf
 have gC:=dZ.binds (ps:=["self","rows","state"]) fun _ _ _ _ _ _ us hl=>match us,hl with | [_,_,_],_=>rfl
 have du:=MF (st:=cH) uo rT u1 gW
 have hZ:=du.binds (ps:=["self","rows","state"]) (ds:=[]) fun _ _ _ _ _ _ _ us hl=>match us,hl with | [_,_,_],_=>⟨_,rfl,rfl⟩
 have kL:=du.binds (ps:=["self","rows","state"]) (ds:=[.int 0 jF]) fun _ _ _ _ _ _ _ us hl=>match us,(show us.length=2 by simpa using hl) with | [_,_],_=>⟨_,rfl,rfl⟩
 have fW:=bh (st:=c4) vN we iA
 have iI:=fW.binds (ps:=["self","mask"]) fun _ _ _ _ _ _ us hl=>match us,hl with | [_,_],_=>rfl
 have jx:=bh (st:=fI) BF B8 tJ
 have cw:=jx.binds (ps:=["_law_script","_law_k"]) fun _ _ _ _ _ _ us hl=>match us,hl with | [_,_],_=>rfl
 have k9:=bh (st:=gO) EE Fn wN
 have cN:=k9.binds (ps:=["_law_cell_here","_law_k"]) fun _ _ _ _ _ _ us hl=>match us,hl with | [_,_],_=>rfl
 have iu:=bh (st:=d9) zT AD qG
 have eA:=iu.binds (ps:=["_law_cell_here","_law_start","_law_many","_law_width","_law_digits"]) fun _ _ _ _ _ _ us hl=>match us,hl with | [_,_,_,_,_],_=>rfl
 have fT:=bh (st:=c2) vK wa lV
 have iG:=fT.binds (ps:=["_law_masks_here","_law_cell_here","_law_start","_law_way"]) fun _ _ _ _ _ _ us hl=>match us,hl with | [_,_,_,_],_=>rfl
 have fU:=bh (st:=bC) vL wb lW
 have iH:=fU.binds (ps:=["_law_script","_law_start","_law_most"]) fun _ _ _ _ _ _ us hl=>match us,hl with | [_,_,_],_=>rfl
 have k8:=bh (st:=gN) ED Fl wM
 have kZ:=k8.binds (ps:=["_law_number"]) fun _ _ _ _ _ _ us hl=>match us,hl with | [_],_=>rfl
 have jy:=bh (st:=fJ) BG B9 tK
 have jw:=jy.binds (ps:=["_law_pairs","_law_state","_law_row"]) fun _ _ _ _ _ _ us hl=>match us,hl with | [_,_,_],_=>rfl
 have ir:=bh (st:=dj) zS AC qF
 have kI:=ir.binds (ps:=["_law_tables"]) fun _ _ _ _ _ _ us hl=>match us,hl with | [_],_=>rfl
 have de:=bh (st:=bH) nP ox h8
 have fi:=de.binds (ps:=["_law_steps_here"]) fun _ _ _ _ _ _ us hl=>match us,hl with | [_],_=>rfl
 have cT:=bh (st:=bB) mJ m8 gS
 have d6:=cT.binds (ps:=["_law_steps_here"]) fun _ _ _ _ _ _ us hl=>match us,hl with | [_],_=>rfl
 have dX:=bh (st:=b6) rV sx jB
 have gw:=dX.binds (ps:=["_law_steps_here","_law_found","_law_one","_law_other","_law_turn"]) fun _ _ _ _ _ _ us hl=>match us,hl with | [_,_,_,_,_],_=>rfl
 have dE:=bh (st:=bQ) pP qi iS
 have fO:=dE.binds (ps:=["_law_machine_here","_law_steps_here"]) fun _ _ _ _ _ _ us hl=>match us,hl with | [_,_],_=>rfl
 have df:=bh (st:=bI) nQ oy h9
 have fj:=df.binds (ps:=["_law_machine_here","_law_unlike","_law_one","_law_other"]) fun _ _ _ _ _ _ us hl=>match us,hl with | [_,_,_,_],_=>rfl
 have cB:=bh (st:=bA) lI lP gD
 have dN:=cB.binds (ps:=["_law_machine_here","_law_steps_here","_law_one","_law_other","_law_turns"]) fun _ _ _ _ _ _ us hl=>match us,hl with | [_,_,_,_,_],_=>rfl
 have KA:=bh (st:=DQ) P2 P4 Os
 have O0:=KA.binds (ps:=["_law_script"]) fun _ _ _ _ _ _ us hl=>match us,hl with | [_],_=>rfl
 have T:Tx K mg ⟨cM,_,dQ,_,n9,_,eZ,_,eR,_,dB,_,aQ,_,a9,_,bU,_,bb,_,eN,_,jl,_,jk,_,eP,_,bx,_,bM,_,eV,_,cf,_,eW,_,eU,_,bN,_,gI,_,cj,_,aI,_,aT,_,aB,_,bp,_,aR,_,bc,_,_,bq,_,cR,_,dD,_,cn,_,bE,_,bF,_,dC,_,cS,_,ck,_,aW,_,aP,_,bu,_,bg,_,aX,_,aK,_,fa,_,aJ,ao,bt,bR,dc,_,_,_,_⟩:=⟨k7,wL,i5,mg_of X G Fz,oQ,zw,i6,mg_of X G IB,C9,KW,AJ,mg_of X G O4,oU,zA,oE,mg_of X G IE,oO,zu,oC,mg_of X G Iz,k6,wK,qj,mg_of X G Fy,dY,jC,gz,fw,gT,fk,jz,mm,m9,fA,gU,hX,oM,zq,i4,mg_of X G Iw,y3,GU,yO,mg_of X G MY,yZ,GT,yM,mg_of X G MX,oN,zr,oB,mg_of X G Iy,fq,j6,hV,mg_of X G vh,gJ,nF,ju,mg_of X G yT,oR,zy,vb,mg_of X G IC,ip,qC,kH,mg_of X G AN,oS,zz,vc,mg_of X G ID,oP,zv,va,mg_of X G IA,gK,nG,jv,mg_of X G yU,sR,CO,yN,mg_of X G Kw,iq,qD,ik,mg_of X G AO,dh,ia,fm,d0,gh,cX,cu,dk,aE,fV,iz,cx,dZ,gf,gC,du,kL,⟨_,rfl⟩,gW,hZ,fW,iA,iI,jx,tJ,cw,mg_of X G Ci,k9,wN,cN,mg_of X G FC,iu,qG,eA,mg_of X G AR,fT,lV,iG,mg_of X G wk,fU,lW,iH,mg_of X G wm,k8,wM,kZ,mg_of X G FA,jy,tK,jw,mg_of X G Cj,ir,qF,kI,mg_of X G AQ,de,h8,fi,mg_of X G oG,cT,gS,d6,mg_of X G nj,dX,jB,gw,mg_of X G sH,dE,iS,fO,mg_of X G qr,df,h9,fj,mg_of X G oH,cB,gD,dN,mg_of X G lR,KA,Os,O0,mg_of X G O3,mg_of X G MZ,⟨CI,CH,CG,CF⟩,⟨⟨CI,CH,CG,CF⟩,JF,w1,w2,JE⟩,⟨Ki,Kh,Kg,Kf⟩,⟨rQ,rN,gT⟩,⟨zO,zN,mm⟩,⟨rR,rO,gU⟩,vH,mG,vG,yk,nM,zK,mg_of X G IF,⟨wH,wG,wF,wD⟩,⟨⟨wH,wG,wF,wD⟩,DS,w1,w2,DR⟩,⟨EV,EU,ET,ES⟩,⟨pO,pM,gh⟩,⟨jR,jQ,dk⟩,⟨ud,ub,iz⟩,⟨pN,pL,gf⟩,⟨rS,rP,gW⟩,⟨ue,uc,iA⟩,rK,ka,rJ,tX,lG,vI,mg_of X G IG,iJ,⟨Di,Dh,Dg,Df,w1,w2,De,Dd⟩,mg_of X G FD,d7,⟨A4,A3,A2,A1,w1,w2,AZ,AY⟩,mg_of X G Ky,nq,⟨FX,FW,FV,FU,w1,w2,FT,FS⟩,mg_of X G yW,mg_of X G Ck,mg_of X G yV,mg_of X G AS,mg_none_of X G Pg,mg_none_of X G Nb,mg_none_of X G AX,mg_none_of X G Pf,mg_none_of X G y4,mg_none_of X G Pe,mg_none_of X G Na,mg_none_of X G Lh,mg_none_of X G IZ,mg_none_of X G Lg,mg_none_of X G Pd⟩
 exact ⟨_,fun s v=> .of_eq rfl,fun base _ _=>Ov T⟩
open PySem.W in
theorem walk {l:OpenLaw} {q:Program} {loose:List Str} {XP:(Str→Option Value)→Heap→Prop} {YP:World→Heap→Prop} {d:DefRec} {K:Params→Frag} (hn:l.most=some 63) (hdf:d.params.defaults=[])
  (hY:∀ (w:World) (h:Heap),YP w h→(K w.params).In h)
  (F:∀ (w:World) (mg:Str→Option Value) (fa:Addr) (h:Heap),(K w.params).In h→h.Ns mainGlobals mg→mg d.name=some (.ref fa)→
   ∃ fd:FuncData,(∀ (s:Shared) (u:Value),BindsTo s fd ⟨[u],[]⟩ [("_law_script",u)])∧∀ base:Heap,(K w.params).In base→base.Ns mainGlobals mg→FnOk l.prog w (K w.params) mg base CX0 12 fa fd ["_law_script"] (CB (K w.params))):
  WalkO q loose XP YP l.row.toRowW d [] (fun f vs=>PySem.call f vs):=
 L2.walk_of (n:=63) (k:=12) (x:="_law_script") (CX:=fun _=>CX0) (sp:=fun w=>CB (K w.params)) hn (by decide) hdf ⟨rfl,by decide,by decide⟩ hY F (fun _ _ a ns hl _ hS=>⟨a,ns,rfl,hS,hl,fun _=>rfl⟩) fun _ _ _ _ _ z=>z
end My
def PySem.W.Fast.tw13216557732248668938:Unit:=()
def PySem.W.Fast.tw18339351267969387223:Unit:=()
def PySem.W.Fast.tw10910865237597429048:Unit:=()
def PySem.W.Fast.tw6421728016599705437:Unit:=()
def PySem.W.Fast.tw12544708532529506768:Unit:=()
def PySem.W.Fast.tw3415634572231158569:Unit:=()
def PySem.W.Fast.tw15820681286065733405:Unit:=()
def PySem.W.Fast.tw106387197186431752:Unit:=()
def PySem.W.Fast.tw8755983564681186269:Unit:=()
def PySem.W.Fast.tw14913712923613068483:Unit:=()
def PySem.W.Fast.tw15821037231254022056:Unit:=()
def PySem.W.Fast.tw5347730806768556886:Unit:=()
def PySem.W.Fast.tw5118153754748580921:Unit:=()
def PySem.W.Fast.tw9312291750857097116:Unit:=()
def PySem.W.Fast.tw6028132281179254497:Unit:=()
def PySem.W.Fast.tw9762649511646542120:Unit:=()
def PySem.W.Fast.tw11953038720155921880:Unit:=()
def PySem.W.Fast.tw2763693068626119830:Unit:=()
def PySem.W.Fast.tw8663897879277195538:Unit:=()
def PySem.W.Fast.tw1642362454625139294:Unit:=()
def PySem.W.Fast.tw14503540851450962460:Unit:=()
def PySem.W.Fast.tw17800333531004401432:Unit:=()
def PySem.W.Fast.tw13946834430281642251:Unit:=()
def PySem.W.Fast.tw15330192584465417887:Unit:=()
def PySem.W.Fast.tw17960346834181820613:Unit:=()
def PySem.W.Fast.tw1438410476463467095:Unit:=()
def PySem.W.Fast.tw8362152140664730670:Unit:=()
def PySem.W.Fast.tw9608579226014776853:Unit:=()
def PySem.W.Fast.tw9072448494024920872:Unit:=()
def PySem.W.Fast.tw10013552391770253691:Unit:=()
def PySem.W.Fast.tw11963083525874847:Unit:=()
def PySem.W.Fast.tw4548855249082930384:Unit:=()
def PySem.W.Fast.tw12330545321217282806:Unit:=()
def PySem.W.Fast.tw6702767712284275388:Unit:=()
def PySem.W.Fast.tw10346055944124323734:Unit:=()
def PySem.W.Fast.tw10192311222307350321:Unit:=()
def PySem.W.Fast.tw10691223347805174507:Unit:=()
def PySem.W.Fast.tw14103730270487953015:Unit:=()
def PySem.W.Fast.tw1642759943652663241:Unit:=()
def PySem.W.Fast.tw1591988881049383249:Unit:=()
open PySem PySem.W PyProof.Rows
set_option maxRecDepth 100000 in
set_option maxHeartbeats 0 in
theorem PySem.Challenge.cw_sumwires_k55_whole_all_states_walked_holds : PySem.Challenge.rw_sumwires_k55_whole_all_states_walked.Holds := by
 w_on;o_law;k_head;(case hw=>w_witness2)
 k_fill
 refine My.walk (l:=PySem.Challenge.rw_sumwires_k55_whole_all_states_walked) rfl rfl (fun w h Y=>PySem.W.kIn_of Y) ?F
 case F=>
  intro w mg fa h KX G hmg
  refine' My.all_mk KX G hmg _ _ _ _ _ _ _ _ _ _ _ _ _ _ _ _ _ _ _ _ _ _ _ _ _ _ _ _ _ _ _ _ _ _ _ _ _ _ _ _ _ _ _ _ _ _ _ _ _ _ _ _ _ _ _ _ _ _ _ _ _ _ _ _ _ _ _ _ _ _ _ _ _ _ _ _ _ _ _ _ _ _ _ _ _ _ _ _ _ _ _ _ _ _ _ _ _ _ _ _ _ _ _ _ _ _ _ _ _ _ _ _ _ _ _ _ _ _ _ _ _ _ _ _ _ _ _ _ _ _ _ _ _ _ _ _ _ _ _ _ _ _ _ _ _ _ _ _ _ _ _ _ _ _ _ _ _ _ _ _ _ _ _ _ _ _ _ _ _ _ _ _ _ _ _ _ _ _ _ _ _ _ _ _ _ _ _ _ _ _ _ _ _ _ _ _ _ _ _ _ _ _ _ _ _ _ _ _ _ _ _ _ _ _ _ _ _ _ _ _ _ _ _ _ _ _ _ _ _ _ _ _ _ _ _ _ _ _ ?iJ _ _ _ _ _ _ ?d7 _ _ _ _ _ _ ?nq _ _ _ _ _ _ _ _ _ _ _ _ _ _ _ _ _ _ _ _ _
  any_goals ((with_reducible show _=_);k_is)
  (case iJ=>k_exc)
  (case d7=>k_exc)
  (case nq=>k_exc)
