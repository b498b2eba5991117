import PyProof.Rows.All
import Wide.All
import OpenK.AllK
import Wide.FinOn
import Lean
import PyProof.EqAt
import PyProof.EqKinds
import PyProof.TupleCall
import PyProof.NeKinds
import KE.KIsAll
import PyProof.RulesAs
import PyProof.StationsW
import PyProof.ExcClass2
import OpenK.KOwn
import PyProof.NsDelKeeps
import PyProof.ExcAttrAll.ValueError
import KE.KDictList
import KE.KSorted
import PyProof.SumAny
import PyProof.WalkInts
import PyProof.EnumMake
import KE.KItemsList
import KE.KRevIter
import PyProof.ExcInit
import PyProof.InstStoreFacts
import PyProof.IsRules
import KE.KDictOf
import PyProof.AttrMissHeap
import PyProof.MinMaxWalk
import PyProof.DictIter
import PyProof.StrLawsChain
import PyProof.StrLawsTight
import PySem.Challenge.RW_sumwires_k91_whole_text_run_tables_signs
set_option Elab.async false
set_option linter.all false
set_option maxRecDepth 100000
namespace L2
open PySem PySem.Spec PyProof.Rows
noncomputable abbrev Key:=Sum Int Str
noncomputable def Rl:Key→Value→Bool
 | .inl k,v=>Value.isInt k v
 | .inr x,v=>Value.isStrOf x v
noncomputable def keyH (w:World):Key→Int
 | .inl k=>hashInt k
 | .inr x=>hashStr w x
theorem dk:∀ {k:Key} {v:Value},Rl k v=true→(∃ i t,k=Sum.inl i∧v=Value.int i t)∨(∃ x t,k=Sum.inr x∧v=Value.str x t)
 | .inl i,v,h=>by
   obtain ⟨t,e⟩:=Value.isInt_shape (k:=i) (v:=v) h
   exact .inl ⟨i,t,rfl,e⟩
 | .inr x,v,h=>by
   obtain ⟨t,e⟩:=Value.isStrOf_shape (x:=x) (v:=v) h
   exact .inr ⟨x,t,rfl,e⟩
theorem Vk (i:Int) (t:Tok):Rl (.inl i) (.int i t)=true:=by simp [Rl,Value.isInt]
theorem Vj (x:Str) (t:Tok):Rl (.inr x) (.str x t)=true:=by simp [Rl,Value.isStrOf]
theorem aeE (a b:Int):decide ((Sum.inl a:Key)=Sum.inl b)=(a == b):=by
 by_cases e:a=b
 ·subst e;simp
 ·have h:¬ (Sum.inl a:Key)=Sum.inl b:=fun q=>e (Sum.inl.inj q)
  rw [decide_eq_false h]
  exact (beq_eq_false_iff_ne.mpr e).symm
theorem aeB (a b:Str):decide ((Sum.inr a:Key)=Sum.inr b)=decide (a=b):=by
 by_cases e:a=b
 ·subst e;simp
 ·have h:¬ (Sum.inr a:Key)=Sum.inr b:=fun q=>e (Sum.inr.inj q)
  rw [decide_eq_false h,decide_eq_false e]
theorem aeD (a:Int) (b:Str):decide ((Sum.inl a:Key)=Sum.inr b)=false:=decide_eq_false (fun q=>nomatch q)
theorem aeC (a:Str) (b:Int):decide ((Sum.inr a:Key)=Sum.inl b)=false:=decide_eq_false (fun q=>nomatch q)
noncomputable def ff (prog:Program) (w:World):PySem.KeyKind prog w Key where
 is:=Rl
 hash:=keyH w
 inj:=fun v a b ha hb=>by
  rcases dk ha with ⟨i,t,rfl,rfl⟩ | ⟨x,t,rfl,rfl⟩
  ·rcases dk hb with ⟨j,u,rfl,e⟩ | ⟨y,u,rfl,e⟩
   ·injection e with e1 _;rw [e1]
   ·exact nomatch e
  ·rcases dk hb with ⟨j,u,rfl,e⟩ | ⟨y,u,rfl,e⟩
   ·exact nomatch e
   ·injection e with e1 _;rw [e1]
 byValue:=fun k v h=>by
  rcases dk h with ⟨i,t,rfl,rfl⟩ | ⟨x,t,rfl,rfl⟩<;>rfl
 pyHash:=fun hv h=>by
  rcases dk hv with ⟨i,t,rfl,rfl⟩ | ⟨x,t,rfl,rfl⟩
  ·exact wpAny_pyHash_int h
  ·exact wpAny_pyHash_str h
 eqBool:=fun hu hv h=>by
  rcases dk hu with ⟨i,t,rfl,rfl⟩ | ⟨x,t,rfl,rfl⟩
  ·rcases dk hv with ⟨j,u,rfl,rfl⟩ | ⟨y,u,rfl,rfl⟩
   ·rw [aeE] at h;exact wpAny_eqBool_int h
   ·rw [aeD] at h;exact SeqAt.EqAt.int_str i t y u _ _ _ _ h
  ·rcases dk hv with ⟨j,u,rfl,rfl⟩ | ⟨y,u,rfl,rfl⟩
   ·rw [aeC] at h;exact SeqAt.EqAt.str_int x t j u _ _ _ _ h
   ·rw [aeB] at h;exact wpAny_eqBool_str h
 «strs»:=fun k x t v h=>by
  rcases dk h with ⟨i,u,rfl,e⟩ | ⟨y,u,rfl,e⟩
  ·exact nomatch e
  ·injection e with e1 _
   subst e1
   cases v<;>rfl
theorem MA (prog:Program) (w:World) (i:Int) (t:Tok):(ff prog w).is (.inl i) (.int i t)=true:=Vk i t
theorem Mz (prog:Program) (w:World) (x:Str) (t:Tok):(ff prog w).is (.inr x) (.str x t)=true:=Vj x t
inductive V where
 | non | bl (b:Bool) | int (i:Int) | str (x:Str) | byt (b:Array UInt8) | flt (b:UInt64) | ref (a:Addr) | ty (n:String)
 deriving DecidableEq
noncomputable def RelV:V→Value→Prop
 | .non,u=>u=Value.none
 | .bl b,u=>u=Value.bool b
 | .int i,u=>∃ t,u=Value.int i t
 | .str x,u=>∃ t,u=Value.str x t
 | .byt b,u=>∃ t,u=Value.bytes b t
 | .flt b,u=>∃ t,u=Value.float b t
 | .ref a,u=>u=Value.ref a
 | .ty n,u=>u=Value.type n
noncomputable abbrev Vals:List V→List Value→Prop:=Paired RelV
theorem Vals.length {xs:List V} {us:List Value} (r:Vals xs us):xs.length=us.length:=Paired.length r
theorem Vals.get:∀ {xs:List V} {us:List Value} {i:Nat} {x:V},Vals xs us→xs[i]? =some x→∃ u,us[i]? =some u∧RelV x u
 | _,_,_,_,.nil,e=>by simp at e
 | _,_,0,_,.cons r _,e=>by simp at e;subst e;exact ⟨_,rfl,r⟩
 | _,_,i + 1,x,.cons _ t,e=>by
   obtain ⟨u,h1,h2⟩:=Vals.get (i:=i) (x:=x) t (by simpa using e)
   exact ⟨u,by simpa using h1,h2⟩
theorem Vals.set {x:V} {u:Value} (r:RelV x u):∀ {xs:List V} {us:List Value} (i:Nat),Vals xs us→Vals (xs.set i x) (us.set i u)
 | _,_,_,.nil=> .nil
 | _,_,0,.cons _ t=> .cons r t
 | _,_,i + 1,.cons q t=> .cons q (Vals.set r i t)
theorem Vals.append:∀ {xs ys:List V} {us ws:List Value},Vals xs us→Vals ys ws→Vals (xs++ys) (us++ws)
 | _,_,_,_,.nil,s=>s
 | _,_,_,_,.cons r t,s=> .cons r (Vals.append t s)
theorem Vals.take:∀ {xs:List V} {us:List Value} (n:Nat),Vals xs us→Vals (xs.take n) (us.take n)
 | _,_,0,_=> .nil
 | _,_,_ + 1,.nil=> .nil
 | _,_,n + 1,.cons r t=> .cons r (Vals.take n t)
theorem Vals.drop:∀ {xs:List V} {us:List Value} (n:Nat),Vals xs us→Vals (xs.drop n) (us.drop n)
 | _,_,0,r=>r
 | _,_,_ + 1,.nil=> .nil
 | _,_,n + 1,.cons _ t=>Vals.drop n t
noncomputable def RelO:Option V→Option Value→Prop
 | some v,some u=>RelV v u
 | none,none=>True
 | _,_=>False
noncomputable def KV {κ:Type}:List (κ×V)→List (κ×Value)→Prop:=Paired fun (p:κ×V) (q:κ×Value)=>p.1=q.1∧RelV p.2 q.2
noncomputable def kV:Key→V
 | .inl i=> .int i
 | .inr x=> .str x
inductive HO where
 | lst (xs:List V)
 | tup (xs:List V)
 | dK (kvs:List (Key×V)) | dT (kvs:List (List Key×V))
 | set (S:Int→Bool) (n:Nat)
 | ins (C dx:Addr) (fs:List (Str×V))
 | own (x:Addr)
 | xd (fs:List (Str×V))
 | met (f x:Addr)
 | rng (lo hi:Int)
 | frz (o:Obj) (u:HO)
 | tbl (ps:Array Value)
 | ext (φ:Heap→Prop)
noncomputable abbrev Hp:=Addr→Option HO
noncomputable def upd (H:Hp) (a:Addr) (o:HO):Hp:=fun b=>if b=a then some o else H b
theorem av {H:Hp} {a:Addr} {o:HO}:upd H a o a=some o:=by unfold upd;rw [if_pos rfl]
theorem aB {H:Hp} {a b:Addr} {o:HO} (h:b≠a):upd H a o b=H b:=by unfold upd;rw [if_neg h]
theorem dB {H:Hp} {a b:Addr} {o u:HO} (h:H a=some o) (h':H b=some u) (d:o≠u):a≠b:=by
 intro e;subst e;rw [h] at h';exact d (Option.some.inj h')
theorem ai {H:Hp} {a b:Addr} {o:HO} (h:H a=some o) (h':H b=none):a≠b:=by
 intro e;subst e;rw [h] at h';cases h'
section
variable (P:Program) (w:World)
noncomputable def gI (H:Hp) (h:Heap) (a:Addr):HO→Prop
 | .lst xs=>xs.length≤sizeLine∧∃ (its:List Value) (n:Nat),Vals xs its∧h.get? a=some {cls:= .type "list",data:= .seq its.toArray n}
 | .tup xs=>xs.length≤sizeLine∧∃ its:List Value,Vals xs its∧IsTup h a its.toArray
 | .dK kvs=>kvs.length≤sizeLine∧(a == sysModules)=false∧∃ vs,KV kvs vs∧h.DictOf (ff P w) a vs
 | .dT kvs=>kvs.length≤sizeLine∧(a == sysModules)=false∧∃ xs:List (List Key×Addr×Value),
   Paired (fun (p:List Key×V) (q:List Key×Addr×Value)=>p.1=q.1∧H q.2.1=some (.tup (p.1.map kV))∧RelV p.2 q.2.2) kvs xs∧
   ∃ o es ep,h.get? a=some o∧o.ExactDict∧o.data= .dict es ep∧es.toList=xs.map (entryOfKey (tupleKind (ff P w)))∧(xs.map (·.1)).Nodup
 | .set S n=>h.SetOf (intKind P w) a S n
 | .ins C dx fs=>H dx=some (.own a)∧fs.length≤1000∧dx≠a∧h.get? a=some (PySem.W.instObj C dx)∧
   ∃ mA,h.Ns1 dx mA∧(∀ f,RelO (fs.lookup f) (mA f))∧PySem.Within mA (fs.map (·.1))
 | .own _=>∃ o,h.get? a=some o
 | .xd fs=>∃ mA,h.Ns1 a mA∧∀ f,RelO (fs.lookup f) (mA f)
 | .rng lo hi=>∃ t u v,h.get? a=some {cls:= .type "range",data:= .fields #[.int lo t,.int hi u,.int 1 v]}
 | .frz o u=>h.get? a=some o∧gI H h a u
 | .tbl ps=>h.get? a=some {cls:= .none,data:= .fields ps}
 | .met f x=>h.get? a=some (PySem.W.methodObj (.ref f) (.ref x))
 | .ext φ=>φ h∧(∃ o,h.get? a=some o)∧∀ h1 h2:Heap,φ h1→(∀ o,h1.get? a=some o→h2.get? a=some o)→φ h2
noncomputable def HOk (H:Hp) (h:Heap):Prop:=∀ a o,H a=some o→gI P w H h a o
end
section
variable {P:Program} {w:World} {H H':Hp} {h h':Heap} {a:Addr} {o:HO}
theorem gI.lt (x:gI P w H h a o):a < h.objs.size:=by
 cases o with
 | lst xs=>obtain ⟨_,_,_,_,e⟩:=x;exact Heap.lt_size e
 | tup xs=>obtain ⟨_,_,_,p⟩:=x;exact p.lt
 | dK kvs=>obtain ⟨_,_,_,_,o,_,_,e,_⟩:=x;exact Heap.lt_size e
 | dT kvs=>obtain ⟨_,_,_,_,o,_,_,e,_⟩:=x;exact Heap.lt_size e
 | set S n=>obtain ⟨o,_,_,_,e,_⟩:=x;exact Heap.lt_size e
 | ins C dx fs=>obtain ⟨_,_,_,e,_⟩:=x;exact Heap.lt_size e
 | own y=>obtain ⟨_,e⟩:=x;exact Heap.lt_size e
 | xd fs=>obtain ⟨_,⟨_,_,_,e,_⟩,_⟩:=x;exact Heap.lt_size e
 | rng lo hi=>obtain ⟨_,_,_,e⟩:=x;exact Heap.lt_size e
 | frz ob u=>obtain ⟨e,_⟩:=x;exact Heap.lt_size e
 | tbl ps=>exact Heap.lt_size (show h.get? a=some _ from x)
 | met f y=>exact Heap.lt_size (show h.get? a=some _ from x)
 | ext φ=>obtain ⟨_,⟨_,e⟩,_⟩:=x;exact Heap.lt_size e
theorem Paired.mapP {α β:Type} {F G:α→β→Prop}:∀ {l₁:List α} {l₂:List β},Paired F l₁ l₂→(∀ a b,F a b→G a b)→Paired G l₁ l₂
 | _,_,.nil,_=> .nil
 | _,_,.cons r t,f=> .cons (f _ _ r) (Paired.mapP t f)
theorem gI.stay (x:gI P w H h a o) (k:∀ b u,(b=a∨H b=some (.own a))→h.get? b=some u→h'.get? b=some u)
  (ho:∀ b,H b=some (.own a)→H' b=some (.own a)) (ht:∀ b xs,H b=some (.tup xs)→H' b=some (.tup xs)):gI P w H' h' a o:=by
 induction o with
 | lst xs=>obtain ⟨z,its,n,r,e⟩:=x;exact ⟨z,its,n,r,k _ _ (.inl rfl) e⟩
 | tup xs=>obtain ⟨z,its,r,ob,e,c⟩:=x;exact ⟨z,its,r,ob,k _ _ (.inl rfl) e,c⟩
 | dK kvs=>obtain ⟨z,y,vs,r,ob,es,ep,e,c⟩:=x;exact ⟨z,y,vs,r,ob,es,ep,k _ _ (.inl rfl) e,c⟩
 | dT kvs=>
   obtain ⟨z,y,xs,r,ob,es,ep,e,c⟩:=x
   exact ⟨z,y,xs,Paired.mapP r fun p q z=>⟨z.1,ht _ _ z.2.1,z.2.2⟩,ob,es,ep,k _ _ (.inl rfl) e,c⟩
 | set S n=>obtain ⟨ob,es,ep,t,e,c⟩:=x;exact ⟨ob,es,ep,t,k _ _ (.inl rfl) e,c⟩
 | ins C dx fs=>
   obtain ⟨d,z,ne,e,mA,⟨od,es,ep,e2,c⟩,r⟩:=x
   exact ⟨ho _ d,z,ne,k _ _ (.inl rfl) e,mA,⟨od,es,ep,k _ _ (.inr d) e2,c⟩,r⟩
 | own y=>obtain ⟨ob,e⟩:=x;exact ⟨ob,k _ _ (.inl rfl) e⟩
 | xd fs=>obtain ⟨mA,⟨od,es,ep,e,c⟩,r⟩:=x;exact ⟨mA,⟨od,es,ep,k _ _ (.inl rfl) e,c⟩,r⟩
 | rng lo hi=>obtain ⟨t,u,v,e⟩:=x;exact ⟨t,u,v,k _ _ (.inl rfl) e⟩
 | frz ob u ih=>obtain ⟨e,q⟩:=x;exact ⟨k _ _ (.inl rfl) e,ih q⟩
 | tbl ps=>
   have e:h.get? a=some {cls:= .none,data:= .fields ps}:=x
   show h'.get? a=some {cls:= .none,data:= .fields ps}
   exact k a _ (.inl rfl) e
 | met f y=>
   have e:h.get? a=some (PySem.W.methodObj (.ref f) (.ref y)):=x
   show h'.get? a=some (PySem.W.methodObj (.ref f) (.ref y))
   exact k a _ (.inl rfl) e
 | ext φ=>obtain ⟨p,⟨o,e⟩,st⟩:=x;exact ⟨st _ _ p fun o q=>k _ _ (.inl rfl) q,⟨o,k _ _ (.inl rfl) e⟩,st⟩
theorem HOk.lt (x:HOk P w H h) (e:H a=some o):a < h.objs.size:=(x a o e).lt
theorem HOk.fresh (x:HOk P w H h) (e:h.objs.size≤a):H a=none:=by
 cases q:H a with
 | none=>rfl
 | some u=>exact absurd (Nat.lt_of_lt_of_le (x.lt q) e) (Nat.lt_irrefl _)
theorem HOk.kept (x:HOk P w H h) (k:∀ b u,h.get? b=some u→h'.get? b=some u):HOk P w H h':=fun a o e=>
 (x a o e).stay (fun b u _ q=>k b u q) (fun _ q=>q) fun _ _ q=>q
theorem HOk.laid (x:HOk P w H h) (k:∀ b u,h.get? b=some u→h'.get? b=some u) (hp:h.objs.size≤a) (new:gI P w (upd H a o) h' a o):HOk P w (upd H a o) h':=fun b u e=>by
 have hn:=x.fresh hp
 by_cases hb:b=a
 ·subst hb;rw [av] at e;cases e;exact new
 ·rw [aB hb] at e
  exact (x b u e).stay (fun c v _ q=>k c v q) (fun c q=>by rw [aB (ai q hn)];exact q) fun c xs q=>by rw [aB (ai q hn)];exact q
end
noncomputable def Rd (H:Hp) (a:Addr) (u:HO):Prop:=H a=some u∨∃ o,H a=some (.frz o u)
theorem Rd.ok {P:Program} {w:World} {H:Hp} {h:Heap} {a:Addr} {u:HO} (r:Rd H a u) (x:HOk P w H h):gI P w H h a u:=by
 rcases r with r | ⟨o,r⟩
 ·exact x a u r
 ·obtain ⟨_,q⟩:=x a _ r
  exact q
noncomputable def Mut:Option HO→Prop
 | some (.lst _)=>True
 | some (.dK _)=>True
 | some (.dT _)=>True
 | some (.set _ _)=>True
 | some (.ins _ _ _)=>True
 | some (.ext _)=>True
 | _=>False
section
variable {P:Program} {w:World} {H:Hp} {h h':Heap} {x e:Addr} {o':HO}
theorem HOk.write (ok:HOk P w H h) (mu:Mut (H x)) (he:e=x∨H e=some (.own x)) (k:∀ b u,b≠e→h.get? b=some u→h'.get? b=some u) (heo:∃ u,h'.get? e=some u)
  (new:gI P w (upd H x o') h' x o'):HOk P w (upd H x o') h':=fun b u q=>by
 have nown:∀ c y,H c=some (.own y)→c≠x:=fun c y r z=>by subst z;rw [r] at mu;exact mu
 have ntup:∀ c xs,H c=some (.tup xs)→c≠x:=fun c xs r z=>by subst z;rw [r] at mu;exact mu
 by_cases hb:b=x
 ·subst hb;rw [av] at q;cases q;exact new
 ·rw [aB hb] at q
  by_cases hbe:b=e
  ·have q':H b=some (.own x):=by
    rcases he with z | z
    ·exact absurd (hbe.trans z) hb
    ·rw [hbe];exact z
   rw [q] at q';cases q'
   obtain ⟨v,hv⟩:=heo
   exact ⟨v,by rw [hbe];exact hv⟩
  ·refine (ok b u q).stay (fun c v hc r=>k c v ?_ r) (fun c r=>by rw [aB (nown c b r)];exact r) fun c xs r=>by rw [aB (ntup c xs r)];exact r
   rcases hc with rfl | hc
   ·exact hbe
   ·rintro rfl
    rcases he with z | z
    ·exact nown c b hc z
    ·rw [hc] at z;cases z;exact hb rfl
end
structure Un (fs ex:List Addr) (H H':Hp) (h h':Heap):Prop where
 keep:∀ b o,h.get? b=some o→H b=none→b∉fs→b∉ex→h'.get? b=some o
 slot:∀ b o,h.get? b=some o→H b=none→b∈fs→b∉ex→∃ sl,h'.get? b=some {o with slots:=sl}
 free:∀ b o,h.get? b=some o→H b=none→b∉ex→H' b=none
 there:∀ b o,h.get? b=some o→b∉ex→∃ o',h'.get? b=some o'
 tups:∀ b xs,H b=some (.tup xs)→H' b=some (.tup xs)
 frzs:∀ b o u,H b=some (.frz o u)→H' b=some (.frz o u)
 tbls:∀ b ps,H b=some (.tbl ps)→∃ more,H' b=some (.tbl (ps++more))
section
variable {fs fs' ex ex':List Addr} {H H1 H2:Hp} {h h1 h2 h':Heap} {a x e:Addr} {o:HO}
theorem Un.any (u:Un fs ex H H1 h h1) {b:Addr} {ob:Obj} (q:h.get? b=some ob) (n:H b=none) (hx:b∉ex):∃ sl,h1.get? b=some {ob with slots:=sl}:=by
 by_cases hb:b∈fs
 ·exact u.slot b ob q n hb hx
 ·exact ⟨ob.slots,u.keep b ob q n hb hx⟩
theorem Un.kept (k:∀ b u,h.get? b=some u→h'.get? b=some u):Un fs ex H H h h':=
 ⟨fun b ob q _ _ _=>k b ob q,fun b ob q _ _ _=>⟨ob.slots,k b ob q⟩,fun _ _ _ n _=>n,fun b ob q _=>⟨ob,k b ob q⟩,fun _ _ q=>q,fun _ _ _ q=>q,fun _ ps q=>⟨#[],by rw [q];simp⟩⟩
theorem Un.refl:Un fs ex H H h h:=Un.kept fun _ _ q=>q
theorem Un.laid (k:∀ b u,h.get? b=some u→h'.get? b=some u) (hp:h.objs.size≤a) (hn:H a=none):Un fs ex H (upd H a o) h h' where
 keep:=fun b u q _ _ _=>k b u q
 slot:=fun b u q _ _ _=>⟨u.slots,k b u q⟩
 free:=fun b u q n _=>by rw [aB (Nat.ne_of_lt (Nat.lt_of_lt_of_le (Heap.lt_size q) hp))];exact n
 there:=fun b u q _=>⟨u,k b u q⟩
 tups:=fun b xs q=>by rw [aB (ai q hn)];exact q
 frzs:=fun b u xs q=>by rw [aB (ai q hn)];exact q
 tbls:=fun b ps q=>⟨#[],by rw [aB (ai q hn),q];simp⟩
theorem Un.write (mu:Mut (H x)) (he:e=x∨H e=some (.own x)) (k:∀ b u,b≠e→h.get? b=some u→h'.get? b=some u) (heo:∃ u,h'.get? e=some u):Un fs ex H (upd H x o) h h':=by
 have hx:∀ b,H b=none→b≠x:=fun b n z=>by subst z;rw [n] at mu;exact mu
 have hb:∀ b,H b=none→b≠e:=fun b n z=>by
  subst z
  rcases he with r | r
  ·exact hx b n r
  ·rw [n] at r;cases r
 have hm:∀ b u,H b=some u→¬ Mut (some u)→b≠x:=fun b u q nm z=>by subst z;rw [q] at mu;exact nm mu
 refine ⟨fun b u q n _ _=>k b u (hb b n) q,fun b u q n _ _=>⟨u.slots,k b u (hb b n) q⟩,fun b u q n _=>by rw [aB (hx b n)];exact n,fun b u q _=>?_,
  fun b xs q=>by rw [aB (hm b _ q fun z=>z)];exact q,fun b u xs q=>by rw [aB (hm b _ q fun z=>z)];exact q,fun b ps q=>⟨#[],by rw [aB (hm b _ q fun z=>z),q];simp⟩⟩
 by_cases hbe:b=e
 ·subst hbe;exact heo
 ·exact ⟨u,k b u hbe q⟩
end
noncomputable def trk (h:Heap) (H:Hp):List Addr:=(List.range h.objs.size).filter fun a=>(H a).isSome
noncomputable def hidT (h:Heap) (H:Hp):Heap:=PySem.W.hideAll h (trk h H)
theorem Vw (h:Heap) (H:Hp):(hidT h H).objs.size=h.objs.size:=PySem.W.hideAll_size _ _
theorem YX {h:Heap} {H:Hp} {b:Addr} {o:Obj} (e:h.get? b=some o) (n:H b=none):(hidT h H).get? b=some o:=
 PySem.W.hideAll_get _ e fun hm=>by
  have q:(H b).isSome=true:=(List.mem_filter.mp hm).2
  rw [n] at q;simp at q
theorem abF {h:Heap} {H:Hp} {b:Addr} {o:Obj} (e:(hidT h H).get? b=some o):h.get? b=some o∧H b=none:=by
 have e':h.get? b=some o:=PySem.W.of_hideAll (trk h H) e
 refine ⟨e',?_⟩
 cases q:H b with
 | none=>rfl
 | some x=>
   have hm:b∈trk h H:=List.mem_filter.mpr ⟨List.mem_range.mpr (Heap.lt_size e'),by simp [q]⟩
   have z:(hidT h H).get? b=none:=PySem.W.hideAll_none (trk h H) hm
   rw [z] at e;cases e
noncomputable def acr (g h:Heap) (L:Addr):List (Addr×Obj):=(List.range h.objs.size).filterMap fun a=>if a=L∨(g.get? a).isSome=true then none else (h.get? a).map fun o=>(a,o)
noncomputable def rest (g h:Heap) (L d:Addr):List (Addr×Obj):=(acr g h L).filter fun p=>decide (p.1≠d)
structure Mod (K:PySem.W.Frag) (mg:Str→Option Value) (base:Heap):Prop where
 kin:K.In base
 glob:base.Ns mainGlobals mg
 blt:∃ mb,base.Ns builtinsNs mb∧∀ x:Str,x≠"__name__"→mb x=bootBuiltins x
 nolimit:base.NoLimit
structure Cx where
 prog:Program
 w:World
 K:PySem.W.Frag
 mg:Str→Option Value
 base:Heap
 A:Around
 N:List Str
 s₀:Shared
 H₀:Hp
 env:Env
 outer:List Env
 stack:List Env
 ex:List Addr
 fn:Str→Bool
 calm:Bool
 pn:List (Addr×Obj)
 xe:Value→Shared→Prop
noncomputable def frs (l:List Env):List Addr:=l.filterMap (·.frame)
noncomputable abbrev Cx.fs (X:Cx):List Addr:=frs X.outer
noncomputable def Vis (sc:Scope) (x:Str):Prop:=sc.names.lookup x=some .local∨sc.names.lookup x=some .cell∨sc.names.lookup x=some .free
noncomputable def Loc (sc:Scope) (x:Str):Prop:=sc.names.lookup x=some .local∨sc.names.lookup x=some .cell
noncomputable def Look (env:Env) (h:Heap) (m:Str→Option Value) (x:Str) (u:Value):Prop:=
 (env.kindOf x=some .local∧m x=some u)∨((env.kindOf x=some .cell∨env.kindOf x=some .free)∧∃ c,env.cells.lookup x=some c∧h.IsCell c (some u))
structure Cx.Ok (X:Cx):Prop where
 mod:Mod X.K X.mg X.base
 kind:X.env.scope.kind= .function
 glob:X.env.globals=mainGlobals
 blt:X.env.builtins=builtinsNs
 above:X.s₀.heap.objs.size≤X.env.locals
 inj:∀ x y c,X.env.cells.lookup x=some c→X.env.cells.lookup y=some c→x=y
 has:∀ x,(X.env.kindOf x=some .cell∨X.env.kindOf x=some .free)→∃ c,X.env.cells.lookup x=some c
 cab:∀ x c,X.fn x=true→X.env.cells.lookup x=some c→X.s₀.heap.objs.size≤c
 hd:X.calm=true→X.A.handled=none
 frames:X.A.frames=some X.stack
 stk:X.stack=X.outer∨(X.stack=X.env::X.outer∧X.env.frame=some X.env.locals)
 exf:∀ b∈X.ex,b≠X.env.locals∧∀ x c,X.env.cells.lookup x=some c→c≠b
 bs:∀ b o,X.base.get? b=some o→X.s₀.heap.get? b=some o∧X.H₀ b=none
 bsz:X.base.objs.size≤X.s₀.heap.objs.size
 noex:∀ b o,X.base.get? b=some o→b∉X.ex
 exfs:∀ b∈X.ex,b∉X.fs
 funs:X.s₀.heap.FunFrames X.base X.outer
 frf:∀ b∈X.fs,X.H₀ b=none
structure Inv (X:Cx) (pins:List (Addr×Obj)) (σ:List (Option V)) (H:Hp) (s:Shared):Prop where
 ok:X.Ok
 os:s.os=X.s₀.os
 bare:AllBare s.gens
 base:Un X.fs X.ex X.H₀ H X.s₀.heap s.heap
 loc:∃ m,s.heap.Ns X.env.locals m∧∀ (i:Nat) (x:Str) (v:V),X.N[i]? =some x→σ[i]? =some (some v)→Vis X.env.scope x→∃ u,RelV v u∧Look X.env s.heap m x u
 cell:∀ x c,X.env.cells.lookup x=some c→∃ v,s.heap.IsCell c v
 free:H X.env.locals=none
 freeC:∀ x c,X.env.cells.lookup x=some c→H c=none
 pin:∀ p∈X.pn++pins,s.heap.get? p.1=some p.2∧H p.1=none∧p.1≠X.env.locals∧p.1∉X.fs∧∀ v,p.2.data≠.cell v
 hok:HOk X.prog X.w H s.heap
 len:σ.length=X.N.length
section
variable {X:Cx} {pins:List (Addr×Obj)} {σ:List (Option V)} {H H':Hp} {s:Shared} {h':Heap}
theorem Cx.Ok.nofr (ok:X.Ok) {b:Addr} {o:Obj} (e:X.base.get? b=some o):b∉X.fs:=fun hb=>by
 have:=(ok.funs.mem hb).1
 rw [e] at this;cases this
theorem Inv.bs (I:Inv X pins σ H s):∀ b o,X.base.get? b=some o→s.heap.get? b=some o∧H b=none:=fun b o e=>
 ⟨I.base.keep b o (I.ok.bs b o e).1 (I.ok.bs b o e).2 (I.ok.nofr e) (I.ok.noex b o e),I.base.free b o (I.ok.bs b o e).1 (I.ok.bs b o e).2 (I.ok.noex b o e)⟩
theorem Inv.bk (I:Inv X pins σ H s):∀ b o,X.base.get? b=some o→s.heap.get? b=some o:=fun b o e=>(I.bs b o e).1
theorem Inv.mod (I:Inv X pins σ H s):Mod X.K X.mg X.base:=I.ok.mod
theorem Inv.kIn (I:Inv X pins σ H s):X.K.In s.heap:=I.ok.mod.kin.keeps I.bk
theorem Inv.lt (I:Inv X pins σ H s):X.env.locals < s.heap.objs.size:=let ⟨_,hn,_⟩:=I.loc;hn.lt
theorem Inv.sz (I:Inv X pins σ H s):X.s₀.heap.objs.size≤s.heap.objs.size:=Nat.le_trans I.ok.above (Nat.le_of_lt I.lt)
theorem Inv.nofs (I:Inv X pins σ H s) {a:Addr} (h:s.heap.objs.size≤a):a∉X.fs:=fun hb=>by
 obtain ⟨_,o,ho,_⟩:=I.ok.funs.mem hb
 exact absurd (Nat.lt_of_lt_of_le (Heap.lt_size ho) (Nat.le_trans I.sz h)) (Nat.lt_irrefl _)
theorem Inv.cne (I:Inv X pins σ H s):∀ x c,X.env.cells.lookup x=some c→c≠X.env.locals:=fun x c e z=>by
 obtain ⟨v,o,ho,hd⟩:=I.cell x c e
 obtain ⟨m,⟨o',es,ep,ho',hd',_⟩,_⟩:=I.loc
 rw [z,ho'] at ho;cases ho;rw [hd'] at hd;cases hd
theorem Inv.funs (I:Inv X pins σ H s):s.heap.FunFrames X.base X.outer:=by
 have all:∀ (l:List Env),(∀ b∈frs l,b∈X.fs)→X.s₀.heap.FunFrames X.base l→s.heap.FunFrames X.base l:=by
  intro l
  induction l with
  | nil=>intro _ _;trivial
  | cons env r ih=>
    intro hs hl
    obtain ⟨hk,⟨L,o,hf,hn,ho,hd⟩,hr⟩:=hl
    have hL:L∈X.fs:=hs L (by unfold frs;rw [List.filterMap_cons,hf];exact List.mem_cons_self)
    obtain ⟨sl,e⟩:=I.base.slot L o ho (I.ok.frf L hL) hL fun z=>I.ok.exfs L z hL
    exact ⟨hk,⟨L,_,hf,hn,e,hd⟩,ih (fun b hb=>hs b (by unfold frs;rw [List.filterMap_cons,hf];exact List.mem_cons_of_mem _ hb)) hr⟩
 exact all X.outer (fun _ hb=>hb) I.ok.funs
theorem Inv.stack (I:Inv X pins σ H s):s.heap.FunFrames X.base X.stack:=by
 rcases I.ok.stk with e | ⟨e,hf⟩
 ·rw [e];exact I.funs
 ·rw [e]
  obtain ⟨m,hn,_⟩:=I.loc
  refine .cons (by rw [I.ok.kind];decide) hf hn ?_ I.funs
  exact Heap.get?_none_of_le (Nat.le_trans I.ok.bsz I.ok.above)
theorem Inv.stkSub (I:Inv X pins σ H s):∀ b∈frs X.stack,b∈X.env.locals::X.fs:=fun b hb=>by
 rcases I.ok.stk with e | ⟨e,hf⟩
 ·rw [e] at hb;exact List.mem_cons_of_mem _ hb
 ·rw [e] at hb
  unfold frs at hb
  rw [List.filterMap_cons,hf] at hb
  exact hb
theorem Inv.stkFree (I:Inv X pins σ H s):∀ b∈frs X.stack,H b=none:=fun b hb=>by
 rcases List.mem_cons.mp (I.stkSub b hb) with e | hb
 ·rw [e];exact I.free
 ·obtain ⟨_,o,ho,_⟩:=I.ok.funs.mem hb
  exact I.base.free b o ho (I.ok.frf b hb) fun z=>I.ok.exfs b z hb
theorem Inv.step {g':Array GenState} {t':Nat} {d':Drawn} {ch:List Addr} (I:Inv X pins σ H s)
  (hch:∀ b∈ch,(b∈X.ex∨X.s₀.heap.objs.size≤b)∧b≠X.env.locals∧(∀ x c,X.env.cells.lookup x=some c→c≠b)∧∀ p∈X.pn++pins,p.1≠b)
  (keep:∀ b o,b≠X.env.locals→b∉X.fs→b∉ch→s.heap.get? b=some o→H b=none→h'.get? b=some o)
  (slot:∀ b o,b≠X.env.locals→b∈X.fs→b∉ch→s.heap.get? b=some o→H b=none→∃ sl,h'.get? b=some {o with slots:=sl}) (free:∀ b o,b∉ch→s.heap.get? b=some o→H b=none→H' b=none)
  (there:∀ b o,b∉ch→s.heap.get? b=some o→∃ o',h'.get? b=some o')
  (tups:∀ b xs,H b=some (.tup xs)→H' b=some (.tup xs)) (frzs:∀ b o u,H b=some (.frz o u)→H' b=some (.frz o u)) (tbls:∀ b ps,H b=some (.tbl ps)→∃ more,H' b=some (.tbl (ps++more)))
  (ns:∀ m,s.heap.Ns X.env.locals m→h'.Ns X.env.locals m) (hok:HOk X.prog X.w H' h') (hg:AllBare g'):
  Inv X pins σ H' {s with heap:=h',gens:=g',drawn:=d',toks:=t'}:=by
 have neL:∀ b o,X.s₀.heap.get? b=some o→b≠X.env.locals:=fun b o e=>Nat.ne_of_lt (Nat.lt_of_lt_of_le (Heap.lt_size e) I.ok.above)
 have neC:∀ b o,X.s₀.heap.get? b=some o→b∉X.ex→b∉ch:=fun b o e hx hb=>by
  rcases (hch b hb).1 with z | z
  ·exact hx z
  ·exact absurd (Nat.lt_of_lt_of_le (Heap.lt_size e) z) (Nat.lt_irrefl _)
 have cellK:∀ x c,X.env.cells.lookup x=some c→∀ v,s.heap.IsCell c v→h'.IsCell c v:=fun x c e v ⟨o,ho,hd⟩=>by
  have nch:c∉ch:=fun z=>(hch c z).2.2.1 x c e rfl
  by_cases hc:c∈X.fs
  ·obtain ⟨sl,q⟩:=slot c o (I.cne x c e) hc nch ho (I.freeC x c e)
   exact ⟨_,q,hd⟩
  ·exact ⟨o,keep c o (I.cne x c e) hc nch ho (I.freeC x c e),hd⟩
 refine ⟨I.ok,I.os,hg,⟨fun b o e n hb hx=>?_,fun b o e n hb hx=>?_,fun b o e n hx=>?_,fun b o e hx=>?_,fun b xs e=>tups b xs (I.base.tups b xs e),fun b o xs e=>frzs b o xs (I.base.frzs b o xs e),fun b ps e=>?_⟩,?_,fun x c e=>?_,?_,fun x c e=>?_,fun p hp=>?_,hok,I.len⟩
 ·exact keep b o (neL b o e) hb (neC b o e hx) (I.base.keep b o e n hb hx) (I.base.free b o e n hx)
 ·obtain ⟨sl,e1⟩:=I.base.slot b o e n hb hx
  obtain ⟨sl',e2⟩:=slot b _ (neL b o e) hb (neC b o e hx) e1 (I.base.free b o e n hx)
  exact ⟨sl',e2⟩
 ·obtain ⟨o',e1⟩:=I.base.there b o e hx
  exact free b o' (neC b o e hx) e1 (I.base.free b o e n hx)
 ·obtain ⟨o',e1⟩:=I.base.there b o e hx
  exact there b o' (neC b o e hx) e1
 ·obtain ⟨m1,e1⟩:=I.base.tbls b ps e
  obtain ⟨m2,e2⟩:=tbls b _ e1
  exact ⟨m1++m2,by rw [e2,Array.append_assoc]⟩
 ·obtain ⟨m,hn,hl⟩:=I.loc
  refine ⟨m,ns m hn,fun i x v e1 e2 e3=>?_⟩
  obtain ⟨u,r,l⟩:=hl i x v e1 e2 e3
  refine ⟨u,r,?_⟩
  rcases l with l | ⟨k,c,e,z⟩
  ·exact .inl l
  ·exact .inr ⟨k,c,e,cellK x c e _ z⟩
 ·obtain ⟨v,z⟩:=I.cell x c e
  exact ⟨v,cellK x c e v z⟩
 ·obtain ⟨m,⟨o,_,_,ho,_⟩,_⟩:=I.loc
  exact free _ o (fun z=>(hch _ z).2.1 rfl) ho I.free
 ·obtain ⟨v,o,ho,hd⟩:=I.cell x c e
  exact free c o (fun z=>(hch c z).2.2.1 x c e rfl) ho (I.freeC x c e)
 ·obtain ⟨e,n,ne,nf,d⟩:=I.pin p hp
  have nch:p.1∉ch:=fun z=>(hch p.1 z).2.2.2 p hp rfl
  exact ⟨keep p.1 p.2 ne nf nch e n,free p.1 p.2 nch e n,ne,nf,d⟩
theorem Inv.un {t':Nat} (I:Inv X pins σ H s) (u:Un X.fs [] H H' s.heap h') (hok:HOk X.prog X.w H' h'):Inv X pins σ H' {s with heap:=h',toks:=t'}:=by
 obtain ⟨m,⟨o,es,ep,ho,r⟩,_⟩:=id I.loc
 obtain ⟨sl,hL⟩:=u.any ho I.free (by simp)
 exact I.step (g':=s.gens) (d':=s.drawn) (ch:=[]) (fun _ z=>nomatch z) (fun b o _ hb _ e n=>u.keep b o e n hb (by simp)) (fun b o _ hb _ e n=>u.slot b o e n hb (by simp)) (fun b o _ e n=>u.free b o e n (by simp)) (fun b o _ e=>u.there b o e (by simp)) u.tups u.frzs u.tbls (fun m' hm=>by
  obtain ⟨o',es',ep',ho',r'⟩:=hm
  rw [ho] at ho';cases ho'
  exact ⟨_,es',ep',hL,r'⟩) hok I.bare
theorem Inv.call {g':Array GenState} {t':Nat} {d':Drawn} {ch:List Addr} (I:Inv X pins σ H s) (u:Un (frs X.stack) ch H H' s.heap h') (hok:HOk X.prog X.w H' h') (hg:AllBare g')
  (hch:∀ b∈ch,(b∈X.ex∨X.s₀.heap.objs.size≤b)∧b≠X.env.locals∧(∀ x c,X.env.cells.lookup x=some c→c≠b)∧∀ p∈X.pn++pins,p.1≠b):
  Inv X pins σ H' {s with heap:=h',gens:=g',drawn:=d',toks:=t'}:=by
 obtain ⟨m,⟨o,es,ep,ho,r⟩,_⟩:=id I.loc
 obtain ⟨sl,hL⟩:=u.any ho I.free fun z=>(hch _ z).2.1 rfl
 exact I.step (ch:=ch) hch (fun b o hL hb hc e n=>u.keep b o e n (fun z=>(List.mem_cons.mp (I.stkSub b z)).elim hL hb) hc) (fun b o _ _ hc e n=>u.any e n hc) (fun b o hc e n=>u.free b o e n hc) (fun b o hc e=>u.there b o e hc) u.tups u.frzs u.tbls (fun m' hm=>by
  obtain ⟨o',es',ep',ho',r'⟩:=hm
  rw [ho] at ho';cases ho'
  exact ⟨_,es',ep',hL,r'⟩) hok hg
theorem Inv.turned {t':Nat} {it:Addr} (I:Inv X pins σ H s) (k:∀ b o,b≠it→s.heap.get? b=some o→h'.get? b=some o) (hn:H it=none) (hL:it≠X.env.locals)
  (h1:it∈X.ex∨X.s₀.heap.objs.size≤it) (h2:∀ x c,X.env.cells.lookup x=some c→c≠it) (h3:∀ p∈X.pn++pins,p.1≠it):Inv X pins σ H {s with heap:=h',toks:=t'}:=by
 have nit:∀ b u,H b=some u→b≠it:=fun b u e z=>by rw [z,hn] at e;cases e
 refine I.step (g':=s.gens) (d':=s.drawn) (ch:=[it]) (fun b hb=>?_) (fun b o _ _ hc e _=>k b o (fun z=>hc (by simp [z])) e) (fun b o _ _ hc e _=>⟨o.slots,k b o (fun z=>hc (by simp [z])) e⟩) (fun _ _ _ _ n=>n)
  (fun b o hc e=>⟨o,k b o (fun z=>hc (by simp [z])) e⟩) (fun _ _ e=>e) (fun _ _ _ e=>e) (fun b ps e=>⟨#[],by rw [e];simp⟩) (fun m hm=>?_) (fun b u e=>?_) I.bare
 ·have e:b=it:=by simpa using hb
  subst e
  exact ⟨h1,hL,h2,h3⟩
 ·obtain ⟨o,es,ep,ho,r⟩:=hm
  exact ⟨o,es,ep,k _ o (Ne.symm hL) ho,r⟩
 ·refine (I.hok b u e).stay (fun c v hc q=>k c v ?_ q) (fun _ q=>q) fun _ _ q=>q
  rcases hc with z | z
  ·rw [z];exact nit b u e
  ·exact nit c _ z
theorem Inv.tok (I:Inv X pins σ H s) (t:Nat):Inv X pins σ H {s with toks:=t}:=I.un (h':=s.heap) (t':=t) Un.refl I.hok
theorem Inv.kept {t':Nat} (I:Inv X pins σ H s) (k:∀ b u,s.heap.get? b=some u→h'.get? b=some u):Inv X pins σ H {s with heap:=h',toks:=t'}:=I.un (Un.kept k) (I.hok.kept k)
theorem Inv.laid {a:Addr} {o:HO} {t':Nat} (I:Inv X pins σ H s) (k:∀ b u,s.heap.get? b=some u→h'.get? b=some u) (hp:s.heap.objs.size≤a) (new:gI X.prog X.w (upd H a o) h' a o):
  Inv X pins σ (upd H a o) {s with heap:=h',toks:=t'}:=I.un (Un.laid k hp (I.hok.fresh hp)) (I.hok.laid k hp new)
theorem Inv.write {x e:Addr} {o:HO} {t':Nat} (I:Inv X pins σ H s) (mu:Mut (H x)) (he:e=x∨H e=some (.own x)) (k:∀ b u,b≠e→s.heap.get? b=some u→h'.get? b=some u) (heo:∃ u,h'.get? e=some u)
  (new:gI X.prog X.w (upd H x o) h' x o):Inv X pins σ (upd H x o) {s with heap:=h',toks:=t'}:=I.un (Un.write mu he k heo) (I.hok.write mu he k heo new)
theorem Inv.weak {σ':List (Option V)} (I:Inv X pins σ H s) (hl:σ'.length=σ.length) (w:∀ (i:Nat) v,σ'[i]? =some (some v)→σ[i]? =some (some v)):Inv X pins σ' H s:=
 ⟨I.ok,I.os,I.bare,I.base,let ⟨m,hn,hl'⟩:=I.loc;⟨m,hn,fun i x v e1 e2 e3=>hl' i x v e1 (w i v e2) e3⟩,I.cell,I.free,I.freeC,I.pin,I.hok,hl.trans I.len⟩
theorem Inv.pins_of {pins':List (Addr×Obj)} (I:Inv X pins σ H s) (h:∀ p∈pins',s.heap.get? p.1=some p.2∧H p.1=none∧p.1≠X.env.locals∧p.1∉X.fs∧∀ v,p.2.data≠.cell v):Inv X pins' σ H s:=
 ⟨I.ok,I.os,I.bare,I.base,I.loc,I.cell,I.free,I.freeC,fun p hp=>(List.mem_append.mp hp).elim (fun z=>I.pin p (List.mem_append_left _ z)) (h p),I.hok,I.len⟩
theorem OG {N:List Str} (hN:N.Nodup) {i j:Nat} {x:Str} (a:N[i]? =some x) (b:N[j]? =some x):i=j:=by
 obtain ⟨h1,e1⟩:=List.getElem?_eq_some_iff.mp a
 obtain ⟨h2,e2⟩:=List.getElem?_eq_some_iff.mp b
 exact (List.getElem_inj hN).mp (e1.trans e2.symm)
theorem Ia {M:Model} {A:Around} {E:Value→Shared→Prop} {i:Nat} {x:Str} {v:V} {u:Value} {Q:Unit→Shared→Prop} (I:Inv X pins σ H s) (hN:X.N.Nodup) (hi:X.N[i]? =some x) (hx:Loc X.env.scope x) (r:RelV v u)
  (h:∀ s',Inv X pins (σ.set i (some v)) H s'→(∃ a,Heap.SameBut a s.heap s'.heap∧(a=X.env.locals∨X.env.cells.lookup x=some a))→Q () s') (hf:X.fn x=true∨X.env.scope.names.lookup x=some .local:=by first | exact .inl rfl | exact .inr rfl | assumption):wpAny M A (storeName X.env x u) Q E s:=by
 obtain ⟨m,hn,hl⟩:=id I.loc
 have hcls:(X.env.scope.kind == .class||(X.env.scope.kind == .module&&X.env.locals != X.env.globals))=false:=by rw [I.ok.kind];rfl
 have hiσ:i < σ.length:=by rw [I.len];exact (List.getElem?_eq_some_iff.mp hi).1
 have cne:=I.cne
 have tracked:∀ {a:Addr} {h':Heap},(∃ o,s.heap.get? a=some o∧H a=none)→Heap.SameBut a s.heap h'→HOk X.prog X.w H h':=fun {a h'} ha hs b ob e=>by
  obtain ⟨_,_,hfree⟩:=ha
  refine (I.hok b ob e).stay (fun c w' hc q=>(hs.2 c ?_).trans q) (fun _ q=>q) fun _ _ q=>q
  rintro rfl
  rcases hc with rfl | hc
  ·rw [hfree] at e;cases e
  ·rw [hfree] at hc;cases hc
 rcases hx with hk | hk
 ·refine wpAny_storeName_local hk hn (fun h' hn' hs=>?_) hcls
  obtain ⟨oL,_,_,hoL,_⟩:=id hn
  refine h _ ⟨I.ok,I.os,I.bare,⟨fun b o e n hb hx=>?_,fun b o e n hb hx=>?_,I.base.free,fun b o e hx=>?_,I.base.tups,I.base.frzs,I.base.tbls⟩,⟨_,hn',fun j y v' e1 e2 e3=>?_⟩,fun y c e=>?_,I.free,I.freeC,fun p hp=>?_,tracked ⟨oL,hoL,I.free⟩ hs,by simpa using I.len⟩ ⟨_,hs,.inl rfl⟩
  ·exact (hs.2 b (Nat.ne_of_lt (Nat.lt_of_lt_of_le (Heap.lt_size e) I.ok.above))).trans (I.base.keep b o e n hb hx)
  ·obtain ⟨sl,e1⟩:=I.base.slot b o e n hb hx
   exact ⟨sl,(hs.2 b (Nat.ne_of_lt (Nat.lt_of_lt_of_le (Heap.lt_size e) I.ok.above))).trans e1⟩
  ·obtain ⟨o',e1⟩:=I.base.there b o e hx
   exact ⟨o',(hs.2 b (Nat.ne_of_lt (Nat.lt_of_lt_of_le (Heap.lt_size e) I.ok.above))).trans e1⟩
  ·by_cases hj:j=i
   ·subst hj
    rw [hi] at e1;cases e1
    rw [List.getElem?_set_self hiσ] at e2
    cases e2
    exact ⟨u,r,.inl ⟨hk,by simp⟩⟩
   ·rw [List.getElem?_set_ne (Ne.symm hj)] at e2
    obtain ⟨u',r',q⟩:=hl j y v' e1 e2 e3
    refine ⟨u',r',?_⟩
    rcases q with ⟨k,e⟩ | ⟨k,c,e,z⟩
    ·refine .inl ⟨k,?_⟩
     have:y≠x:=fun e=>hj (OG hN e1 (e ▸ hi))
     simp [this,e]
    ·exact .inr ⟨k,c,e,z.sameBut hs (cne y c e)⟩
  ·obtain ⟨w',z⟩:=I.cell y c e
   exact ⟨w',z.sameBut hs (cne y c e)⟩
  ·obtain ⟨e,n,ne,nf,d⟩:=I.pin p hp
   exact ⟨(hs.2 p.1 ne).trans e,n,ne,nf,d⟩
 ·have hfn:X.fn x=true:=by
   rcases hf with z | z
   ·exact z
   ·rw [z] at hk;cases hk
  obtain ⟨c,hc⟩:=I.ok.has x (.inl hk)
  obtain ⟨w',z⟩:=I.cell x c hc
  refine wpAny_storeName_cell I.ok.kind hk hc z (fun h' hc' hs=>?_)
  obtain ⟨oc,hoc,hocd⟩:=id z
  refine h {s with heap:=h'} ⟨I.ok,I.os,I.bare,⟨fun b o e n hb hx=>?_,fun b o e n hb hx=>?_,I.base.free,fun b o e hx=>?_,I.base.tups,I.base.frzs,I.base.tbls⟩,⟨m,hn.sameBut hs (Ne.symm (cne x c hc)),fun j y v' e1 e2 e3=>?_⟩,fun y c' e=>?_,I.free,I.freeC,fun p hp=>?_,tracked ⟨oc,hoc,I.freeC x c hc⟩ hs,by simpa using I.len⟩ ⟨c,hs,.inr hc⟩
  ·exact (hs.2 b (Nat.ne_of_lt (Nat.lt_of_lt_of_le (Heap.lt_size e) (I.ok.cab x c hfn hc)))).trans (I.base.keep b o e n hb hx)
  ·obtain ⟨sl,e1⟩:=I.base.slot b o e n hb hx
   exact ⟨sl,(hs.2 b (Nat.ne_of_lt (Nat.lt_of_lt_of_le (Heap.lt_size e) (I.ok.cab x c hfn hc)))).trans e1⟩
  ·obtain ⟨o',e1⟩:=I.base.there b o e hx
   exact ⟨o',(hs.2 b (Nat.ne_of_lt (Nat.lt_of_lt_of_le (Heap.lt_size e) (I.ok.cab x c hfn hc)))).trans e1⟩
  ·by_cases hj:j=i
   ·subst hj
    rw [hi] at e1;cases e1
    rw [List.getElem?_set_self hiσ] at e2
    cases e2
    exact ⟨u,r,.inr ⟨.inl hk,c,hc,hc'⟩⟩
   ·rw [List.getElem?_set_ne (Ne.symm hj)] at e2
    obtain ⟨u',r',q⟩:=hl j y v' e1 e2 e3
    refine ⟨u',r',?_⟩
    rcases q with q | ⟨k,c',e,z'⟩
    ·exact .inl q
    ·refine .inr ⟨k,c',e,z'.sameBut hs ?_⟩
     rintro rfl
     exact hj (OG hN e1 (I.ok.inj _ _ _ e hc ▸ hi))
  ·by_cases hcc:c'=c
   ·subst hcc;exact ⟨_,hc'⟩
   ·obtain ⟨w2,z2⟩:=I.cell y c' e
    exact ⟨w2,z2.sameBut hs hcc⟩
  ·obtain ⟨e,n,ne,nf,d⟩:=I.pin p hp
   refine ⟨(hs.2 p.1 ?_).trans e,n,ne,nf,d⟩
   intro q
   rw [q,hoc] at e
   have q':oc=p.2:=Option.some.inj e
   exact d w' (by rw [← q'];exact hocd)
theorem On {M:Model} {A:Around} {E:Value→Shared→Prop} {i:Nat} {x:Str} {v:V} {u:Value} {Q:Unit→Shared→Prop} (I:Inv X pins σ H s) (hN:X.N.Nodup) (hi:X.N[i]? =some x) (hx:Loc X.env.scope x) (r:RelV v u)
  (h:∀ s',Inv X pins (σ.set i (some v)) H s'→Q () s') (hf:X.fn x=true∨X.env.scope.names.lookup x=some .local:=by first | exact .inl rfl | exact .inr rfl | assumption):wpAny M A (storeName X.env x u) Q E s:=
 Ia I hN hi hx r (fun s' I' _=>h s' I') hf
theorem Inv.call' {s':Shared} {ch:List Addr} (I:Inv X pins σ H s) (ho:s'.os=s.os) (u:Un (frs X.stack) ch H H' s.heap s'.heap) (hok:HOk X.prog X.w H' s'.heap) (hg:AllBare s'.gens)
  (hch:∀ b∈ch,(b∈X.ex∨X.s₀.heap.objs.size≤b)∧b≠X.env.locals∧(∀ x c,X.env.cells.lookup x=some c→c≠b)∧∀ p∈X.pn++pins,p.1≠b):Inv X pins σ H' s':=by
 obtain ⟨h',g',d',t',o'⟩:=s'
 have e:o'=s.os:=ho
 subst e
 exact I.call (g':=g') (t':=t') (d':=d') u hok hg hch
end
noncomputable abbrev XK:=Value→Option Addr→Hp→Prop
noncomputable abbrev St:=List (Option V)
noncomputable abbrev VK:=V→Hp→Prop
noncomputable abbrev TE:=St→Hp→VK→Prop
noncomputable abbrev TT:=St→Hp→(Bool→Hp→Prop)→Prop
noncomputable abbrev TA:=St→Hp→(List V→Hp→Prop)→Prop
structure Ends where
 nx:St→Hp→Prop
 rt:VK
 bk:St→Hp→Prop:=fun _ _=>False
 ct:St→Hp→Prop:=fun _ _=>False
noncomputable abbrev TS:=Ends→St→Hp→Prop
noncomputable def EP (X:Cx) (pins:List (Addr×Obj)) (σ:St) (Q:VK) (u:Value) (s':Shared):Prop:=∃ v H',Inv X pins σ H' s'∧RelV v u∧Q v H'
noncomputable def TP (X:Cx) (pins:List (Addr×Obj)) (σ:St) (Q:Bool→Hp→Prop) (b:Bool) (s':Shared):Prop:=∃ H',Inv X pins σ H' s'∧Q b H'
noncomputable def AP (X:Cx) (pins:List (Addr×Obj)) (σ:St) (Q:List V→Hp→Prop) (us:List Value) (s':Shared):Prop:=∃ vs H',Inv X pins σ H' s'∧Vals vs us∧Q vs H'
noncomputable def SP (X:Cx) (pins:List (Addr×Obj)) (D:Ends) (f:Flow) (s':Shared):Prop:=
 match f with
 | .next=>∃ σ' H',Inv X pins σ' H' s'∧D.nx σ' H'
 | .brk=>∃ σ' H',Inv X pins σ' H' s'∧D.bk σ' H'
 | .cont=>∃ σ' H',Inv X pins σ' H' s'∧D.ct σ' H'
 | .ret u=>∃ v σ' H',Inv X pins σ' H' s'∧RelV v u∧D.rt v H'
noncomputable def PE (X:Cx) (e:Expr) (t:TE):Prop:=
 ∀ (pins:List (Addr×Obj)) (s:Shared) (σ:St) (H:Hp) (Q:VK),Inv X pins σ H s→t σ H Q→wpAny (model X.prog X.w) X.A (eval e X.env) (EP X pins σ Q) X.xe s
noncomputable def PT (X:Cx) (e:Expr) (t:TT):Prop:=
 ∀ (pins:List (Addr×Obj)) (s:Shared) (σ:St) (H:Hp) (Q:Bool→Hp→Prop),Inv X pins σ H s→t σ H Q→wpAny (model X.prog X.w) X.A (isTrue e X.env (eval e X.env)) (TP X pins σ Q) X.xe s
noncomputable def PW (X:Cx) (e:Expr) (t:TT):Prop:=
 ∀ (whole:Sem Value) (pins:List (Addr×Obj)) (s:Shared) (σ:St) (H:Hp) (Q:Bool→Hp→Prop),Inv X pins σ H s→t σ H Q→wpAny (model X.prog X.w) X.A (isTrue e X.env whole) (TP X pins σ Q) X.xe s
theorem PW.pt {X:Cx} {e:Expr} {t:TT} (h:PW X e t):PT X e t:=h _
noncomputable def PA (X:Cx) (es:List Expr) (t:TA):Prop:=
 ∀ (pos:Pos) (pins:List (Addr×Obj)) (s:Shared) (σ:St) (H:Hp) (Q:List V→Hp→Prop),Inv X pins σ H s→t σ H Q→wpAny (model X.prog X.w) X.A (spliced (backTo pos (starEach es X.env))) (AP X pins σ Q) X.xe s
noncomputable def PS (X:Cx) (st:Stmt) (t:TS):Prop:=
 ∀ (pins:List (Addr×Obj)) (s:Shared) (σ:St) (H:Hp) (D:Ends),Inv X pins σ H s→t D σ H→wpAny (model X.prog X.w) X.A (exec st X.env) (SP X pins D) X.xe s
noncomputable def PSs (X:Cx) (st:List Stmt) (t:TS):Prop:=
 ∀ (pins:List (Addr×Obj)) (s:Shared) (σ:St) (H:Hp) (D:Ends),Inv X pins σ H s→t D σ H→wpAny (model X.prog X.w) X.A (execs st X.env) (SP X pins D) X.xe s
theorem thn {α:Type} {t:Sem α} {Q Q':α→Shared→Prop} {M:Model} {A:Around} {E:Value→Shared→Prop} {s:Shared} (h:wpAny M A t Q E s) (hQ:∀ a s,Q a s→Q' a s):wpAny M A t Q' E s:=wpAny_mono h hQ fun _ _ x=>x
section
variable {X:Cx}
noncomputable def tVar (i:Nat):TE:=fun σ H Q=>∃ v,σ[i]? =some (some v)∧Q v H
noncomputable def tC (v:V):TE:=fun _ H Q=>Q v H
theorem ad9 {i:Nat} {x:Str} {pos:Pos} (hN:X.N[i]? =some x) (hv:Vis X.env.scope x) (hd:(x == ("__debug__":Str))=false:=by decide) (hcd:(x == ("__classdict__":Str))=false:=by decide):PE X (.Name x pos) (tVar i):=by
 intro pins s σ H Q I h
 obtain ⟨v,e,h⟩:=h
 obtain ⟨m,hn,hl⟩:=I.loc
 obtain ⟨u,r,l⟩:=hl i x v hN e hv
 have fin:EP X pins σ Q u s:=⟨v,H,I,r,h⟩
 rcases l with ⟨hk,hm⟩ | ⟨hk,c,hc,hcell⟩
 ·exact wpAny_Name (wpAny_loadName_local I.ok.kind hk hn hm fin) hd
 ·rcases hk with hk | hk
  ·exact wpAny_Name (wpAny_loadName_cell I.ok.kind hk hc hcell fin) hd
  ·exact wpAny_Name (wpAny_loadName_free I.ok.kind hk hc hcell fin hcd) hd
theorem al {i j pos}:PE X (.Constant (.int i) j pos) (tC (.int i)):=fun _ _ _ H _ I h=>wpAny_Constant_int ⟨.int i,H,I.tok _,⟨_,rfl⟩,h⟩
theorem LA {b j pos}:PE X (.Constant (.bool b) j pos) (tC (.bl b)):=fun _ _ _ H _ I h=>Constant_bool ⟨.bl b,H,I,rfl,h⟩
theorem bU {x j pos}:PE X (.Constant (.str x) j pos) (tC (.str x)):=fun _ _ _ H _ I h=>Calls.Constant_str ⟨.str x,H,I.tok _,⟨_,rfl⟩,h⟩
noncomputable def Gl (X:Cx) (x:Str):Prop:=X.env.kindOf x=some .globalImplicit
theorem u0 {E:Value→Shared→Prop} {pins:List (Addr×Obj)} {s:Shared} {σ:St} {H:Hp} {x:Str} {u:Value} {pos:Pos} {Q:Value→Shared→Prop} (I:Inv X pins σ H s) (hg:Gl X x) (hm:X.mg x=some u) (h:Q u s)
  (hd:(x == ("__debug__":Str))=false:=by decide):wpAny (model X.prog X.w) X.A (eval (.Name x pos) X.env) Q E s:=
 Calls.Name_function_global I.ok.kind hg (Calls.loadGlobal_global (by rw [I.ok.glob];exact I.mod.glob.keeps I.bk) hm h) hd
theorem nc {E:Value→Shared→Prop} {pins:List (Addr×Obj)} {s:Shared} {σ:St} {H:Hp} {x:Str} {u:Value} {pos:Pos} {Q:Value→Shared→Prop} (I:Inv X pins σ H s) (hg:Gl X x) (hm:X.mg x=none) (hv:bootBuiltins x=some u) (h:Q u s)
  (hn:x≠"__name__":=by decide) (hd:(x == ("__debug__":Str))=false:=by decide):wpAny (model X.prog X.w) X.A (eval (.Name x pos) X.env) Q E s:=by
 obtain ⟨mb,h1,h2⟩:=I.mod.blt
 exact Calls.Name_function_global I.ok.kind hg (Calls.loadGlobal_builtin (by rw [I.ok.glob];exact I.mod.glob.keeps I.bk) hm (by rw [I.ok.blt];exact h1.keeps I.bk) ((h2 x hn).trans hv) h) hd
theorem jp {x:Str} {v:V} {u:Value} {pos:Pos} (hg:Gl X x) (hm:X.mg x=some u) (r:RelV v u) (hd:(x == ("__debug__":Str))=false:=by decide):PE X (.Name x pos) (tC v):=
 fun _ _ _ H _ I h=>u0 I hg hm ⟨v,H,I,r,h⟩ hd
theorem uk {x:Str} {v:V} {u:Value} {pos:Pos} (hg:Gl X x) (hm:X.mg x=none) (hv:bootBuiltins x=some u) (r:RelV v u) (hn:x≠"__name__":=by decide) (hd:(x == ("__debug__":Str))=false:=by decide):PE X (.Name x pos) (tC v):=
 fun _ _ _ H _ I h=>nc I hg hm hv ⟨v,H,I,r,h⟩ hn hd
variable {a b:Expr} {ta tb:TE} {pos:Pos}
noncomputable def PC (X:Cx) (op:CmpOp) (a b:Expr) (t:TE):Prop:=
 ∀ (pins:List (Addr×Obj)) (s:Shared) (σ:St) (H:Hp) (Q:VK),Inv X pins σ H s→t σ H Q→
  wpAny (model X.prog X.w) X.A (eval a X.env) (fun v s₁=>wpAny (model X.prog X.w) X.A (eval b X.env) (fun u s₂=>wpAny (model X.prog X.w) X.A (compareOp op v u) (EP X pins σ Q) X.xe s₂) X.xe s₁) X.xe s
noncomputable def tB (t:TE):TT:=fun σ H Q=>t σ H fun x H1=>∃ c,x= .bl c∧Q c H1
theorem aec {op:CmpOp} {t:TE} (h:PC X op a b t) (h1:behindInMarks op b=false:=by first | exact nobehind _ (by decide) (by decide) | rfl):PE X (.Compare a [op] [b] pos) t:=fun pins s σ H Q I hw=>wpAny_Compare1 (h pins s σ H Q I hw) h1
theorem Z3 {op:CmpOp} {t:TE} (h:PC X op a b t) (h1:behindInMarks op b=false:=by first | exact nobehind _ (by decide) (by decide) | rfl):PT X (.Compare a [op] [b] pos) (tB t):=by
 intro pins s σ H Q I hw
 refine wpAny_isTrue_Compare1 (thn (h pins s σ H _ I hw) fun v s1 h1=>thn h1 fun u s2 h2=>thn h2 fun c s3 ⟨x,H1,I1,r1,q1⟩=>?_) h1
 obtain ⟨d,rfl,q⟩:=q1
 cases r1
 exact wpAny_truthy_bool ⟨H1,I1,q⟩
theorem gc {e:Expr} {t:TE} (h:PE X e t) (he:∀ whole,isTrue e X.env whole=(do let v ← whole;standAt e.pos;holding [v] (truthy v)):=by intro _;rfl):PT X e (tB t):=by
 intro pins s σ H Q I hw
 refine isTrue_plain (thn (h pins s σ H _ I hw) fun v s1 ⟨x,H1,I1,r1,q1⟩=>?_) (he _)
 obtain ⟨d,rfl,q⟩:=q1
 cases r1
 exact wpAny_truthy_bool ⟨H1,I1,q⟩
variable {tA tB':TT} {rest:List Expr}
noncomputable def tAnd (t u:TT):TT:=fun σ H Q=>t σ H fun c H1=>if c=true then u σ H1 Q else Q false H1
noncomputable def tOr (t u:TT):TT:=fun σ H Q=>t σ H fun c H1=>if c=true then Q true H1 else u σ H1 Q
noncomputable def tNot (t:TT):TT:=fun σ H Q=>t σ H fun c H1=>Q (!c) H1
theorem Ud (ha:PT X a tA):PW X (.BoolOp .And [a] pos) tA:=by
 intro wh pins s σ H Q I h
 refine isTrue_and (thn (ha pins s σ H Q I h) fun c s1 e=>?_)
 cases c with
 | true=>exact isTrue_and_nil e
 | false=>exact e
theorem p9 (ha:PT X a tA):PW X (.BoolOp .Or [a] pos) tA:=by
 intro wh pins s σ H Q I h
 refine isTrue_or (thn (ha pins s σ H Q I h) fun c s1 e=>?_)
 cases c with
 | false=>exact isTrue_or_nil e
 | true=>exact e
theorem Z2 (ha:PT X a tA) (hb:PW X (.BoolOp .And (b::rest) pos) tB'):PW X (.BoolOp .And (a::b::rest) pos) (tAnd tA tB'):=by
 intro wh pins s σ H Q I h
 refine isTrue_and (thn (ha pins s σ H _ I h) fun c s1 ⟨H1,I1,q1⟩=>?_)
 cases c with
 | true=>exact hb wh pins s1 σ H1 Q I1 q1
 | false=>exact ⟨H1,I1,q1⟩
theorem qI (ha:PT X a tA) (hb:PW X (.BoolOp .Or (b::rest) pos) tB'):PW X (.BoolOp .Or (a::b::rest) pos) (tOr tA tB'):=by
 intro wh pins s σ H Q I h
 refine isTrue_or (thn (ha pins s σ H _ I h) fun c s1 ⟨H1,I1,q1⟩=>?_)
 cases c with
 | true=>exact ⟨H1,I1,q1⟩
 | false=>exact hb wh pins s1 σ H1 Q I1 q1
theorem jm (ha:PT X a tA):PT X (.UnaryOp .Not a pos) (tNot tA):=by
 intro pins s σ H Q I h
 exact isTrue_not (ha pins s σ H (fun c H1=>Q (!c) H1) I h)
noncomputable def adf (ta tb:TE):TE:=fun σ H Q=>ta σ H fun x H1=>∃ c,x= .bl c∧if c=true then tb σ H1 Q else Q (.bl false) H1
noncomputable def ac9 (ta:TE):TE:=fun σ H Q=>ta σ H fun x H1=>∃ c,x= .bl c∧Q (.bl (!c)) H1
theorem zk {op} {t:TE} (h:PE X a t):PE X (.BoolOp op [a] pos) t:=fun pins s σ H Q I hw=>BoolOp_one (h pins s σ H Q I hw)
theorem wm (ha:PE X a ta) (hb:PE X (.BoolOp .And (b::rest) pos) tb):PE X (.BoolOp .And (a::b::rest) pos) (adf ta tb):=by
 intro pins s σ H Q I h
 refine BoolOp_and (thn (ha pins s σ H _ I h) fun v s1 ⟨x,H1,I1,r1,q1⟩=>?_)
 obtain ⟨c,rfl,q1⟩:=q1
 cases r1
 refine wpAny_truthy_bool ?_
 cases c with
 | true=>exact hb pins s1 σ H1 Q I1 q1
 | false=>exact ⟨.bl false,H1,I1,rfl,q1⟩
theorem aea (ha:PE X a ta):PE X (.UnaryOp .Not a pos) (ac9 ta):=by
 intro pins s σ H Q I h
 refine UnaryOp_ (thn (ha pins s σ H _ I h) fun v s1 ⟨x,H1,I1,r1,q1⟩=>?_)
 obtain ⟨c,rfl,q1⟩:=q1
 cases r1
 exact not_of (wpAny_truthy_bool ⟨.bl (!c),H1,I1,rfl,q1⟩)
noncomputable def tIf (t:TT) (ta tb:TE):TE:=fun σ H Q=>t σ H fun c H1=>if c=true then ta σ H1 Q else tb σ H1 Q
theorem Yd {c:Expr} (hc:PT X c tA) (ha:PE X a ta) (hb:PE X b tb):PE X (.IfExp c a b pos) (tIf tA ta tb):=by
 intro pins s σ H Q I h
 refine wpAny_IfExp (thn (hc pins s σ H _ I h) fun d s1 ⟨H1,I1,q1⟩=>?_)
 cases d with
 | true=>exact ha pins s1 σ H1 Q I1 q1
 | false=>exact hb pins s1 σ H1 Q I1 q1
end
noncomputable def SqL (K:PySem.W.Frag) (H:Hp) (a:Addr) (xs:List V):Prop:=
 Rd H a (.lst xs)∨
  ∃ (o:Obj) (its:Array Value) (n:Nat),K.lookup a=some o∧o.cls= .type "list"∧o.dict=none∧o.data= .seq its n∧its.size≤sizeLine∧Vals xs its.toList
noncomputable def SqT (K:PySem.W.Frag) (H:Hp) (a:Addr) (xs:List V):Prop:=
 Rd H a (.tup xs)∨
  ∃ (o:Obj) (its:Array Value) (n:Nat),K.lookup a=some o∧o.cls= .type "tuple"∧o.data= .seq its n∧its.size≤sizeLine∧Vals xs its.toList
noncomputable def absV:Value→Option V
 | .none=>some .non
 | .bool b=>some (.bl b)
 | .int i _=>some (.int i)
 | .str x _=>some (.str x)
 | .bytes b _=>some (.byt b)
 | .float b _=>some (.flt b)
 | .ref a=>some (.ref a)
 | .type n=>some (.ty n)
 | _=>none
theorem RelV.abs {x:V} {u:Value} (r:RelV x u):absV u=some x:=by
 cases x with
 | non=>cases r;rfl
 | bl _=>cases r;rfl
 | int _=>obtain ⟨t,rfl⟩:=r;rfl
 | str _=>obtain ⟨t,rfl⟩:=r;rfl
 | byt _=>obtain ⟨t,rfl⟩:=r;rfl
 | flt _=>obtain ⟨t,rfl⟩:=r;rfl
 | ref _=>cases r;rfl
 | ty _=>cases r;rfl
theorem RelV.inj {x y:V} {u:Value} (r:RelV x u) (q:RelV y u):x=y:=Option.some.inj (r.abs.symm.trans q.abs)
theorem Vals.inj:∀ {xs ys:List V} {us:List Value},Vals xs us→Vals ys us→xs=ys
 | _,_,_,.nil,.nil=>rfl
 | _,_,_,.cons r t,.cons r' t'=>by rw [r.inj r',Vals.inj t t']
section
variable {X:Cx} {pins:List (Addr×Obj)} {σ:St} {H:Hp} {s:Shared} {a:Addr} {xs ys:List V}
theorem SqL.of {K:PySem.W.Frag} (h:H a=some (.lst xs)):SqL K H a xs:= .inl (.inl h)
theorem SqT.of {K:PySem.W.Frag} (h:H a=some (.tup xs)):SqT K H a xs:= .inl (.inl h)
theorem Inv.list (I:Inv X pins σ H s) (h:SqL X.K H a xs):∃ its:List Value,Vals xs its∧PlainL s.heap a its.toArray∧xs.length≤sizeLine:=by
 rcases h with h | ⟨o,its,n,hk,hc,hd,hs,hz,r⟩
 ·obtain ⟨z,its,n,r,e⟩:=h.ok I.hok
  exact ⟨its,r,⟨_,n,e,rfl,rfl,rfl⟩,z⟩
 ·refine ⟨its.toList,r,⟨o,n,I.kIn a o hk,hc,hd,by simpa using hs⟩,?_⟩
  have e:=r.length
  simp only [Array.length_toList] at e
  omega
theorem Inv.tuple (I:Inv X pins σ H s) (h:SqT X.K H a xs):∃ its:List Value,Vals xs its∧IsTup s.heap a its.toArray∧xs.length≤sizeLine:=by
 rcases h with h | ⟨o,its,n,hk,hc,hs,hz,r⟩
 ·obtain ⟨z,its,r,p⟩:=h.ok I.hok
  exact ⟨its,r,p,z⟩
 ·refine ⟨its.toList,r,⟨o,I.kIn a o hk,hc,n,by simpa using hs⟩,?_⟩
  have e:=r.length
  simp only [Array.length_toList] at e
  omega
theorem Inv.list_inj (I:Inv X pins σ H s) (h:SqL X.K H a xs) (h':SqL X.K H a ys):xs=ys:=by
 obtain ⟨its,r,⟨o,n,e,_,_,d⟩,_⟩:=I.list h
 obtain ⟨its',r',⟨o',n',e',_,_,d'⟩,_⟩:=I.list h'
 rw [e] at e';cases e'
 rw [d] at d'
 injection d' with d1 _
 have:its=its':=by simpa using congrArg Array.toList d1
 subst this
 exact r.inj r'
theorem Inv.tuple_inj (I:Inv X pins σ H s) (h:SqT X.K H a xs) (h':SqT X.K H a ys):xs=ys:=by
 obtain ⟨its,r,⟨o,e,_,n,d⟩,_⟩:=I.tuple h
 obtain ⟨its',r',⟨o',e',_,n',d'⟩,_⟩:=I.tuple h'
 rw [e] at e';cases e'
 rw [d] at d'
 injection d' with d1 _
 have:its=its':=by simpa using congrArg Array.toList d1
 subst this
 exact r.inj r'
end
noncomputable abbrev Cx.wish (X:Cx) (E:Value→Shared→Prop):Cx:={X with xe:=E}
noncomputable abbrev Cx.nox (X:Cx):Cx:=X.wish fun _ _=>False
theorem Cx.Ok.wish {X:Cx} (ok:X.Ok) (E:Value→Shared→Prop):(X.wish E).Ok:=
 ⟨ok.mod,ok.kind,ok.glob,ok.blt,ok.above,ok.inj,ok.has,ok.cab,ok.hd,ok.frames,ok.stk,ok.exf,ok.bs,ok.bsz,ok.noex,ok.exfs,ok.funs,ok.frf⟩
theorem Cx.Ok.unwish {X:Cx} {E:Value→Shared→Prop} (ok:(X.wish E).Ok):X.Ok:=
 ⟨ok.mod,ok.kind,ok.glob,ok.blt,ok.above,ok.inj,ok.has,ok.cab,ok.hd,ok.frames,ok.stk,ok.exf,ok.bs,ok.bsz,ok.noex,ok.exfs,ok.funs,ok.frf⟩
section
variable {X:Cx} {pins:List (Addr×Obj)} {σ:St} {H:Hp} {s:Shared} {E:Value→Shared→Prop}
theorem Inv.wish (I:Inv X pins σ H s) (E:Value→Shared→Prop):Inv (X.wish E) pins σ H s:=⟨I.ok.wish E,I.os,I.bare,I.base,I.loc,I.cell,I.free,I.freeC,I.pin,I.hok,I.len⟩
theorem Inv.unwish (I:Inv (X.wish E) pins σ H s):Inv X pins σ H s:=⟨I.ok.unwish,I.os,I.bare,I.base,I.loc,I.cell,I.free,I.freeC,I.pin,I.hok,I.len⟩
theorem SP.unwish {D:Ends} {f:Flow} {s':Shared} (h:SP (X.wish E) pins D f s'):SP X pins D f s':=by
 cases f with
 | next=>obtain ⟨σ',H',I,q⟩:=h;exact ⟨σ',H',I.unwish,q⟩
 | brk=>obtain ⟨σ',H',I,q⟩:=h;exact ⟨σ',H',I.unwish,q⟩
 | cont=>obtain ⟨σ',H',I,q⟩:=h;exact ⟨σ',H',I.unwish,q⟩
 | ret u=>obtain ⟨v,σ',H',I,r,q⟩:=h;exact ⟨v,σ',H',I.unwish,r,q⟩
theorem PSs.nox {st:List Stmt} {t:TS} (h:PSs X.nox st t):PSs X st t:=fun pins s σ H D I hw=>
 wpAny_mono (h pins s σ H D (I.wish _) hw) (fun _ _ q=>q.unwish) fun _ _ z=>False.elim z
end
section
variable {X:Cx} {st:Stmt} {rest:List Stmt} {t u:TS} {e:Expr} {te:TE} {pos:Pos}
noncomputable def ada:TS:=fun D σ H=>D.nx σ H
noncomputable def tSeq (t u:TS):TS:=fun D σ H=>t {D with nx:=u D} σ H
theorem bR:PSs X [] ada:=fun _ _ σ H _ I h=>wpAny_execs_nil ⟨σ,H,I,h⟩
theorem af (h1:PS X st t) (h2:PSs X rest u):PSs X (st::rest) (tSeq t u):=by
 intro pins s σ H D I h
 refine wpAny_execs_cons (thn (h1 pins s σ H {D with nx:=u D} I h) fun f s1 q=>?_)
 cases f with
 | next=>
   obtain ⟨σ',H',I',q⟩:=q
   exact h2 pins s1 σ' H' D I' q
 | ret v=>exact q
 | brk=>exact q
 | cont=>exact q
theorem aj (h1:PS X st t):PSs X [st] t:=by
 intro pins s σ H D I h
 refine wpAny_execs_cons (thn (h1 pins s σ H D I h) fun f s1 q=>?_)
 cases f with
 | next=>exact wpAny_execs_nil q
 | ret v=>exact q
 | brk=>exact q
 | cont=>exact q
theorem Inv.quiet {pins:List (Addr×Obj)} {σ:St} {H:Hp} {s:Shared} (I:Inv X pins σ H s):interactive X.env=false:=by simp [interactive,I.ok.kind]
noncomputable def adc (te:TE):TS:=fun D σ H=>te σ H fun _ H1=>D.nx σ H1
theorem b8 (he:PE X e te) (hs:swapsWith e none pos.line X.env=pure false:=by rfl):PS X (.Expr e pos) (adc te):=by
 intro pins s σ H D I h
 exact wpAny_Expr_any (thn (he pins s σ H _ I h) fun v s1 ⟨x,H1,I1,r1,q1⟩=>⟨σ,H1,I1,q1⟩) I.quiet hs
noncomputable def tRet (te:TE):TS:=fun D σ H=>te σ H D.rt
theorem aM (he:PE X e te):PS X (.Return (some e) pos) (tRet te):=by
 intro pins s σ H D I h
 exact wpAny_Return_some (thn (he pins s σ H _ I h) fun v s1 ⟨x,H1,I1,r1,q1⟩=>⟨x,σ,H1,I1,r1,q1⟩)
noncomputable def tIfS (c:TT) (t u:TS):TS:=fun D σ H=>c σ H fun b H1=>if b=true then t D σ H1 else u D σ H1
theorem fJ {c:Expr} {a b:List Stmt} {tc:TT} (hc:PT X c tc) (ha:PSs X a t) (hb:PSs X b u):PS X (.If c a b pos) (tIfS tc t u):=by
 intro pins s σ H D I h
 refine wpAny_If (thn (hc pins s σ H _ I h) fun d s1 ⟨H1,I1,q1⟩=>?_)
 cases d with
 | true=>exact ha pins s1 σ H1 D I1 q1
 | false=>exact hb pins s1 σ H1 D I1 q1
end
noncomputable abbrev TG:=V→St→Hp→(St→Hp→Prop)→Prop
noncomputable abbrev TGs:=List V→St→Hp→(St→Hp→Prop)→Prop
noncomputable def PG (X:Cx) (target:Expr) (t:TG):Prop:=
 ∀ (pins:List (Addr×Obj)) (s:Shared) (σ:St) (H:Hp) (v:V) (u:Value) (Q:St→Hp→Prop),Inv X pins σ H s→RelV v u→t v σ H Q→
  wpAny (model X.prog X.w) X.A (assign target X.env u) (fun _ s'=>∃ σ' H',Inv X pins σ' H' s'∧Q σ' H') X.xe s
noncomputable def PGs (X:Cx) (ts:List Expr) (t:TGs):Prop:=
 ∀ (pins:List (Addr×Obj)) (s:Shared) (σ:St) (H:Hp) (vs:List V) (us:List Value) (Q:St→Hp→Prop),Inv X pins σ H s→Vals vs us→t vs σ H Q→
  wpAny (model X.prog X.w) X.A (assignInOrder ((assignEach ts X.env).map (·.2)) us) (fun _ s'=>∃ σ' H',Inv X pins σ' H' s'∧Q σ' H') X.xe s
noncomputable abbrev TSet:=V→V→V→Hp→(Hp→Prop)→Prop
noncomputable def PSet (X:Cx) (t:TSet):Prop:=
 ∀ (pins:List (Addr×Obj)) (s:Shared) (σ:St) (H:Hp) (o i v:V) (ov iv u:Value) (Q:Hp→Prop),Inv X pins σ H s→RelV o ov→RelV i iv→RelV v u→t o i v H Q→
  wpAny (model X.prog X.w) X.A (setItem ov iv u) (fun _ s'=>∃ H',Inv X pins σ H' s'∧Q H') X.xe s
section
variable {X:Cx} {pos:Pos}
noncomputable def VH (i:Nat):TG:=fun v σ H Q=>Q (σ.set i (some v)) H
theorem ax {i:Nat} {x:Str} (hN:X.N.Nodup) (hi:X.N[i]? =some x) (hx:Loc X.env.scope x) (hf:X.fn x=true∨X.env.scope.names.lookup x=some .local:=by first | exact .inl rfl | exact .inr rfl | assumption):PG X (.Name x pos) (VH i):=by
 intro pins s σ H v u Q I r h
 exact wpAny_assign_Name (On I hN hi hx r (fun s' I'=>⟨_,H,I',h⟩) hf)
noncomputable def gNil:TGs:=fun vs σ H Q=>vs=[]∧Q σ H
noncomputable def aca (t:TG) (u:TGs):TGs:=fun vs σ H Q=>∃ v r,vs=v::r∧t v σ H fun σ' H'=>u r σ' H' Q
theorem jo:PGs X [] gNil:=by
 intro pins s σ H vs us Q I r h
 obtain ⟨e,h⟩:=h
 subst e
 cases r
 exact assignInOrder_nil ⟨σ,H,I,h⟩
theorem b5 {e:Expr} {es:List Expr} {t:TG} {u:TGs} (h1:PG X e t) (h2:PGs X es u)
  (hs:(assignEach (e::es) X.env).map (·.2)=assign e X.env::(assignEach es X.env).map (·.2):=by rfl):PGs X (e::es) (aca t u):=by
 intro pins s σ H vs us Q I r h
 obtain ⟨v,vr,e1,h⟩:=h
 subst e1
 cases r with
 | cons r rr=>
   rw [hs]
   refine assignInOrder_cons (thn (h1 pins s σ H _ _ _ I r h) fun _ s1 ⟨σ1,H1,I1,q1⟩=>?_)
   exact h2 pins s1 σ1 H1 _ _ Q I1 rr q1
noncomputable def gTup (K:PySem.W.Frag) (n:Nat) (t:TGs):TG:=fun v σ H Q=>∃ a xs,v= .ref a∧SqT K H a xs∧xs.length=n∧t xs σ H Q
theorem IA {es:List Expr} {k:Nat} {t:TGs} {n:Nat} (hc:X.calm=true) (h:PGs X es t)
  (hn:(assignEach es X.env).length=n:=by rfl) (hst:(assignEach es X.env).findIdx? (·.1)=none:=by rfl):PG X (.Tuple es k pos) (gTup X.K n t):=by
 intro pins s σ H v u Q I r hw
 obtain ⟨a,xs,e1,hq,hl,hw⟩:=hw
 subst e1
 cases r
 obtain ⟨its,rv,ht,hz⟩:=I.tuple hq
 refine assign_Tuple_tuple (I.ok.hd hc) ht (by simp [hn,← hl,rv.length]) hst fun h' hx=>?_
 have I1:Inv X pins σ H {s with heap:=h'}:=I.kept (t':=s.toks) fun b o e=>hx b o (Nat.ne_of_lt (Heap.lt_size e)) e
 exact h pins _ σ H xs _ Q I1 (by simpa using rv) hw
noncomputable def gSub (to ti:TE) (t:TSet):TG:=fun v σ H Q=>to σ H fun o H1=>ti σ H1 fun i H2=>t o i v H2 fun H3=>Q σ H3
theorem ad8 {o i:Expr} {to ti:TE} {t:TSet} (ho:PE X o to) (hi:PE X i ti) (hs:PSet X t)
  (ha:∀ v,assign (.Subscript o i pos) X.env v=(do
   let ov ← holding [v] (eval o X.env)
   let iv ← holding [v,ov] (eval i X.env)
   standAt pos
   holding [v,ov,iv] (setItem ov iv v)
   release [v,ov,iv] []):=by intro _;rfl):PG X (.Subscript o i pos) (gSub to ti t):=by
 intro pins s σ H v u Q I r h
 rw [ha]
 refine wpAny_bind (wpAny_holding (thn (ho pins s σ H _ I h) fun ov s1 ⟨x,H1,I1,r1,q1⟩=>?_))
 refine wpAny_bind (wpAny_holding (thn (hi pins s1 σ H1 _ I1 q1) fun iv s2 ⟨y,H2,I2,r2,q2⟩=>?_))
 refine wpAny_bind (wpAny_standAt (wpAny_bind (wpAny_holding (thn (hs pins s2 σ H2 x y v ov iv u _ I2 r1 r2 r q2) fun _ s3 ⟨H3,I3,q3⟩=>?_))))
 exact wpAny_release ⟨σ,H3,I3,q3⟩
noncomputable def tAsg (te:TE) (g:TG):TS:=fun D σ H=>te σ H fun x H1=>g x σ H1 D.nx
theorem Z4 {tg e:Expr} {te:TE} {g:TG} (he:PE X e te) (hg:PG X tg g) (hs:swapsWithSole [tg] e pos.line X.env=pure false:=by rfl) (hw:swappedStores [tg] e X.env=pure none:=by rfl)
  (h1:(assignEach [tg] X.env).map (·.2)=[assign tg X.env]:=by rfl):PS X (.Assign [tg] e pos) (tAsg te g):=by
 intro pins s σ H D I h
 refine wpAny_Assign_stores (thn (he pins s σ H _ I h) fun v s1 ⟨x,H1,I1,r1,q1⟩=>?_) hs hw
 rw [h1]
 exact thn (hg pins s1 σ H1 x v _ I1 r1 q1) fun _ s2 q=>q
theorem aW {i:Nat} {x:Str} {e:Expr} {te:TE} {pos':Pos} (hN:X.N.Nodup) (hi:X.N[i]? =some x) (hx:Loc X.env.scope x) (he:PE X e te) (hs:swapsWith e (some (.Name x pos')) pos.line X.env=pure false:=by rfl) (hf:X.fn x=true∨X.env.scope.names.lookup x=some .local:=by first | exact .inl rfl | exact .inr rfl | assumption):
  PS X (.Assign [.Name x pos'] e pos) (tAsg te (VH i)):=by
 intro pins s σ H D I h
 refine wpAny_Assign_Name (thn (he pins s σ H _ I h) fun v s1 ⟨y,H1,I1,r1,q1⟩=>?_) hs
 exact On I1 hN hi hx r1 (fun s2 I2=>⟨_,H1,I2,q1⟩) hf
end
section
variable {X:Cx} {pos:Pos}
noncomputable def ac6 (c:TT) (tb:TS):TS:=fun D σ H=>∃ W:Nat→St→Hp→Prop,(∃ m,W m σ H)∧∀ m σ H,W m σ H→
 c σ H fun b H1=>if b=true then ∃ N:St→Hp→Prop,(∀ σ' H',N σ' H'→∃ m',m' < m∧W m' σ' H')∧tb {D with nx:=N,ct:=N,bk:=D.nx} σ H1 else D.nx σ H1
theorem Ov {c:Expr} {body:List Stmt} {tc:TT} {tb:TS} (hp:PassesOwn (model X.prog X.w) X.A X.env X.xe) (hc:PT X c tc) (hb:PSs X body tb):PS X (.While c body [] pos) (ac6 tc tb):=by
 intro pins s σ H D I h
 obtain ⟨W,⟨m0,w0⟩,turn⟩:=h
 refine wpAny_While (codeAny_whileLoop (fun n s'=>∃ σ' H',Inv X pins σ' H' s'∧W n σ' H') ?_ m0 ⟨σ,H,I,w0⟩)
 rintro n s1 ⟨σ1,H1,I1,w1⟩
 refine wpAny_passesOwn hp (thn (hc pins s1 σ1 H1 _ I1 (turn n σ1 H1 w1)) fun b s2 ⟨H2,I2,q2⟩=>?_)
 cases b with
 | true=>
   obtain ⟨N,hN,q2⟩:=q2
   rw [if_pos rfl]
   refine wpAny_passesOwn hp (thn (hb pins s2 σ1 H2 _ I2 q2) fun f s3 q3=>?_)
   cases f with
   | next=>
     obtain ⟨σ3,H3,I3,n3⟩:=q3
     obtain ⟨m',hm,w3⟩:=hN σ3 H3 n3
     exact ⟨m',hm,σ3,H3,I3,w3⟩
   | cont=>
     obtain ⟨σ3,H3,I3,n3⟩:=q3
     obtain ⟨m',hm,w3⟩:=hN σ3 H3 n3
     exact ⟨m',hm,σ3,H3,I3,w3⟩
   | brk=>exact q3
   | ret v=>exact q3
 | false=>
   rw [if_neg Bool.false_ne_true]
   exact wpAny_execs_nil ⟨σ1,H2,I2,q2⟩
end
structure It where
 go:Nat→Hp→Prop
 yld:Nat→Hp→V→Hp→Prop
 stop:Nat→Hp→Prop
noncomputable def FpOk (X:Cx) (pins:List (Addr×Obj)) (H:Hp) (b:Addr):Prop:=
 H b=none∧b≠X.env.locals∧b∉X.fs∧(b∈X.ex∨X.s₀.heap.objs.size≤b)∧(∀ x c,X.env.cells.lookup x=some c→c≠b)∧∀ p∈X.pn++pins,p.1≠b
theorem Inv.fpOk {X:Cx} {pins:List (Addr×Obj)} {σ:St} {H H':Hp} {s:Shared} {b:Addr} (I:Inv X pins σ H s) (hb:s.heap.objs.size≤b) (hn:H' b=none):FpOk X pins H' b:=by
 refine ⟨hn,Nat.ne_of_gt (Nat.lt_of_lt_of_le I.lt hb),I.nofs hb,.inr (Nat.le_trans I.sz hb),fun x c e z=>?_,fun p hp z=>?_⟩
 ·obtain ⟨v,q⟩:=I.cell x c e
  exact absurd (Nat.lt_of_lt_of_le q.lt (by rw [z];exact hb)) (Nat.lt_irrefl _)
 ·exact absurd (Nat.lt_of_lt_of_le (Heap.lt_size (I.pin p hp).1) (by rw [z];exact hb)) (Nat.lt_irrefl _)
structure Turn (P:Program) (w:World) (K:PySem.W.Frag) (tg:Expr) (J:It) (fp:List Addr) (it:Addr) (tn:Nat→Heap→Prop):Prop where
 mem:it∈fp
 obj:∀ i h,tn i h→∀ b∈fp,∃ o,h.get? b=some o∧∀ v,o.data≠.cell v
 keep:∀ i h h',tn i h→(∀ b∈fp,∀ o,h.get? b=some o→h'.get? b=some o)→tn i h'
 item:∀ (X:Cx),X.prog=P→X.w=w→X.K=K→X.calm=true→∀ (i:Nat) (pins:List (Addr×Obj)) (s:Shared) (σ:St) (H:Hp) (E:Value→Shared→Prop),Inv X pins σ H s→(∀ b∈fp,FpOk X pins H b)→tn i s.heap→J.go i H→
  wpAny (model P w) X.A (pyNext (.ref it)) (fun r s1=>∃ u,r=some u∧
   wpAny (model P w) X.A (letOwnedTupleGo tg (.ref it) u) (fun _ s2=>∃ x H',Inv X pins σ H' s2∧RelV x u∧J.yld i H x H'∧tn (i + 1) s2.heap∧∀ b∈fp,H' b=none) E s1) E s
 done:∀ (X:Cx),X.prog=P→X.w=w→X.K=K→X.calm=true→∀ (i:Nat) (pins:List (Addr×Obj)) (s:Shared) (σ:St) (H:Hp) (E:Value→Shared→Prop),Inv X pins σ H s→(∀ b∈fp,FpOk X pins H b)→tn i s.heap→J.stop i H→
  wpAny (model P w) X.A (pyNext (.ref it)) (fun r s1=>r=none∧Inv X pins σ H s1) E s
 self:∀ (A:Around) (i:Nat) (s:Shared) (Q:Value→Shared→Prop) (E:Value→Shared→Prop),tn i s.heap→Q (.ref it) s→wpAny (model P w) A (pyIter (.ref it)) Q E s
noncomputable abbrev TI:=St→Hp→(It→Hp→Prop)→Prop
noncomputable def PIE (X:Cx) (pins:List (Addr×Obj)) (σ:St) (tg:Expr) (R:It→Hp→Prop) (itv:Value) (s2:Shared):Prop:=
 ∃ (it:Addr) (fp:List Addr) (tn:Nat→Heap→Prop) (J:It) (H':Hp),itv= .ref it∧Inv X pins σ H' s2∧Turn X.prog X.w X.K tg J fp it tn∧tn 0 s2.heap∧(∀ b∈fp,FpOk X pins H' b)∧R J H'
noncomputable def PI (X:Cx) (tg iter:Expr) (wi:TI):Prop:=
 ∀ (pins:List (Addr×Obj)) (s:Shared) (σ:St) (H:Hp) (R:It→Hp→Prop),Inv X pins σ H s→wi σ H R→
  wpAny (model X.prog X.w) X.A (eval iter X.env) (fun v s1=>wpAny (model X.prog X.w) X.A (pyIter v) (PIE X pins σ tg R) X.xe s1) X.xe s
theorem Y0 {M:Model} {A:Around} {E:Value→Shared→Prop} {s:Shared} {tg:Expr} {it:Addr} {u:Value} {o:Obj} {n:String} {vs:Array Value} {Q:Unit→Shared→Prop} (ho:s.heap.get? it=some o) (hc:o.cls= .type n) (hd:o.data= .fields vs)
  (hn:["enumerate","zip","dict_itemiterator","dict_reverseitemiterator","odict_iterator","itertools.zip_longest","itertools.pairwise"].contains n=false) (hQ:Q () s):wpAny M A (letOwnedTupleGo tg (.ref it) u) Q E s:=by
 unfold letOwnedTupleGo
 cases tg<;>first
  | exact wpAny_pure hQ
  | (cases u<;>first
    | exact wpAny_pure hQ
    | (refine wpAny_bind (wpAny_load ho ?_)
       rw [hc,hd]
       show wpAny M A (if (["enumerate","zip","dict_itemiterator","dict_reverseitemiterator","odict_iterator","itertools.zip_longest","itertools.pairwise"].contains n&&vs[0]? == some (rawInt _))=true then _ else _) Q E s
       rw [if_neg (by intro h;rw [hn,Bool.false_and] at h;cases h)]
       exact wpAny_pure hQ))
noncomputable def Itl (K:PySem.W.Frag) (a:Addr):It:=
 ⟨fun i H=>∃ xs x,SqL K H a xs∧xs[i]? =some x,fun i H x H'=>H'=H∧∀ xs,SqL K H a xs→xs[i]? =some x,fun i H=>∃ xs,SqL K H a xs∧xs.length≤i⟩
noncomputable def Itt (K:PySem.W.Frag) (a:Addr):It:=
 ⟨fun i H=>∃ xs x,SqT K H a xs∧xs[i]? =some x,fun i H x H'=>H'=H∧∀ xs,SqT K H a xs→xs[i]? =some x,fun i H=>∃ xs,SqT K H a xs∧xs.length≤i⟩
noncomputable def Itr (lo:Int) (n:Nat):It:=⟨fun i _=>i < n,fun i H x H'=>H'=H∧x= .int (lo + i),fun i _=>n≤i⟩
theorem Tk {P:Program} {w:World} {K:PySem.W.Frag} {tg:Expr} (a it:Addr):Turn P w K tg (Itl K a) [it] it (fun i h=>h.IsListIter it a i) where
 mem:=by simp
 obj:=fun i h st b hb=>by
  have e:b=it:=by simpa using hb
  subst e
  obtain ⟨o,e,c,d⟩:=st
  exact ⟨o,e,fun v z=>by rw [d] at z;cases z⟩
 keep:=fun i h h' st k=>st.at fun o e=>k it (by simp) o e
 item:=by
  intro X hP hw hK hc i pins s σ H E I hf st hg
  subst hP hw hK
  obtain ⟨xs,x,hq,hx⟩:=hg
  obtain ⟨its,rv,p,hz⟩:=I.list hq
  obtain ⟨u,hu,ru⟩:=rv.get hx
  obtain ⟨f0,f1,f2,f3,f4,f5⟩:=hf it (by simp)
  refine wpAny_pyNext_list_item st p.isList (x:=u) (by simpa using hu) fun h' st' sb=>?_
  have I1:Inv X pins σ H {s with heap:=h'}:=I.turned (t':=s.toks) (fun b o hb e=>(sb.2 b hb).trans e) f0 f1 f3 f4 f5
  obtain ⟨o,e,c,d⟩:=id st'
  exact ⟨u,rfl,Y0 (s:={s with heap:=h'}) e c d (by decide) ⟨x,H,I1,ru,⟨rfl,fun ys hy=>by rw [I.list_inj hy hq];exact hx⟩,st',fun b hb=>(hf b hb).1⟩⟩
 done:=by
  intro X hP hw hK hc i pins s σ H E I hf st hg
  subst hP hw hK
  obtain ⟨xs,hq,hx⟩:=hg
  obtain ⟨its,rv,p,hz⟩:=I.list hq
  obtain ⟨f0,f1,f2,f3,f4,f5⟩:=hf it (by simp)
  have hl:=rv.length
  exact wpAny_pyNext_list_end (I.ok.hd hc) st p.isList (by simp;omega) fun h' eb=>⟨rfl,I.turned (t':=s.toks) (fun b o hb e=>eb b o hb e) f0 f1 f3 f4 f5⟩
 self:=fun _ _ _ _ _ st h=>wpAny_pyIter_listiter st h
theorem Pm {P:Program} {w:World} {K:PySem.W.Frag} {tg:Expr} (a it:Addr):Turn P w K tg (Itt K a) [it] it (fun i h=>h.IsTupleIter it a i) where
 mem:=by simp
 obj:=fun i h st b hb=>by
  have e:b=it:=by simpa using hb
  subst e
  obtain ⟨o,e,c,d⟩:=st
  exact ⟨o,e,fun v z=>by rw [d] at z;cases z⟩
 keep:=fun i h h' st k=>st.at fun o e=>k it (by simp) o e
 item:=by
  intro X hP hw hK hc i pins s σ H E I hf st hg
  subst hP hw hK
  obtain ⟨xs,x,hq,hx⟩:=hg
  obtain ⟨its,rv,p,hz⟩:=I.tuple hq
  obtain ⟨u,hu,ru⟩:=rv.get hx
  obtain ⟨f0,f1,f2,f3,f4,f5⟩:=hf it (by simp)
  refine wpAny_pyNext_tuple_item st (show s.heap.IsTuple a its.toArray from p) (x:=u) (by simpa using hu) fun h' st' sb=>?_
  have I1:Inv X pins σ H {s with heap:=h'}:=I.turned (t':=s.toks) (fun b o hb e=>(sb.2 b hb).trans e) f0 f1 f3 f4 f5
  obtain ⟨o,e,c,d⟩:=id st'
  exact ⟨u,rfl,Y0 (s:={s with heap:=h'}) e c d (by decide) ⟨x,H,I1,ru,⟨rfl,fun ys hy=>by rw [I.tuple_inj hy hq];exact hx⟩,st',fun b hb=>(hf b hb).1⟩⟩
 done:=by
  intro X hP hw hK hc i pins s σ H E I hf st hg
  subst hP hw hK
  obtain ⟨xs,hq,hx⟩:=hg
  obtain ⟨its,rv,p,hz⟩:=I.tuple hq
  obtain ⟨f0,f1,f2,f3,f4,f5⟩:=hf it (by simp)
  have hl:=rv.length
  exact wpAny_pyNext_tuple_end (I.ok.hd hc) st (show s.heap.IsTuple a its.toArray from p) (by simp;omega) fun h' eb=>⟨rfl,I.turned (t':=s.toks) (fun b o hb e=>eb b o hb e) f0 f1 f3 f4 f5⟩
 self:=fun _ _ _ _ _ st h=>wpAny_pyIter_tupleiter st h
theorem Pn {P:Program} {w:World} {K:PySem.W.Frag} {tg:Expr} (it:Addr) (lo:Int) (n:Nat):Turn P w K tg (Itr lo n) [it] it (fun i h=>IsRangeIter h it (lo + (i:Nat) * 1) ((n:Int) - (i:Nat)) 1) where
 mem:=by simp
 obj:=fun i h st b hb=>by
  have e:b=it:=by simpa using hb
  subst e
  exact ⟨_,st,fun v z=>by
   have z':Data.fields _=Data.cell v:=z
   cases z'⟩
 keep:=fun i h h' st k=>k it (by simp) _ st
 item:=by
  intro X hP hw hK hc i pins s σ H E I hf st hg
  subst hP hw hK
  obtain ⟨f0,f1,f2,f3,f4,f5⟩:=hf it (by simp)
  have W:=Walks.range (prog:=X.prog) (w:=X.w) (I.ok.hd hc) it lo 1 n
  refine W.item i s _ _ hg st fun v h' tk hv st' kk=>?_
  obtain ⟨t,rfl⟩:=hv
  have I1:Inv X pins σ H {s with heap:=h',toks:=tk}:=I.turned (fun b o hb e=>kk b o (by simpa using hb) e) f0 f1 f3 f4 f5
  refine ⟨_,rfl,Y0 (s:={s with heap:=h',toks:=tk}) (n:="range_iterator") st' rfl rfl (by decide) ⟨.int (lo + i),H,I1,⟨t,?_⟩,⟨rfl,rfl⟩,st',fun b hb=>(hf b hb).1⟩⟩
  rw [Int.mul_one]
 done:=by
  intro X hP hw hK hc i pins s σ H E I hf st hg
  subst hP hw hK
  obtain ⟨f0,f1,f2,f3,f4,f5⟩:=hf it (by simp)
  exact wpAny_pyNext_range_end (I.ok.hd hc) st (by have:n≤i:=hg;omega) fun h' eb=>⟨rfl,I.turned (t':=s.toks) (fun b o hb e=>eb b o hb e) f0 f1 f3 f4 f5⟩
 self:=fun _ _ _ _ _ st h=>wpAny_pyIter_rangeiter st h
section
variable {X:Cx} {tg:Expr}
noncomputable def ab6 (K:PySem.W.Frag) (tl:TE):TI:=fun σ H R=>tl σ H fun x H1=>∃ a,x= .ref a∧(∃ xs,SqL K H1 a xs)∧R (Itl K a) H1
noncomputable def iTup (K:PySem.W.Frag) (tl:TE):TI:=fun σ H R=>tl σ H fun x H1=>∃ a,x= .ref a∧(∃ xs,SqT K H1 a xs)∧R (Itt K a) H1
theorem abB {l:Expr} {tl:TE} (hl:PE X l tl):PI X tg l (ab6 X.K tl):=by
 intro pins s σ H R I h
 refine thn (hl pins s σ H _ I h) fun v s1 ⟨x,H1,I1,r1,q1⟩=>?_
 obtain ⟨a,e,⟨xs,hq⟩,q⟩:=q1
 subst e
 cases r1
 obtain ⟨its,rv,p,hz⟩:=I1.list hq
 refine wpAny_pyIter_list p.isList ?_
 refine ⟨s1.heap.objs.size,[s1.heap.objs.size],_,_,H1,rfl,I1.kept (t':=s1.toks) fun b o e=>Heap.get?_push_of_some _ e,Tk a _,⟨_,Heap.get?_push_size _ rfl,rfl,rfl⟩,fun b hb=>?_,q⟩
 have e:b=s1.heap.objs.size:=by simpa using hb
 subst e
 exact I1.fpOk (Nat.le_refl _) (I1.hok.fresh (Nat.le_refl _))
theorem ad6 {l:Expr} {tl:TE} (hl:PE X l tl):PI X tg l (iTup X.K tl):=by
 intro pins s σ H R I h
 refine thn (hl pins s σ H _ I h) fun v s1 ⟨x,H1,I1,r1,q1⟩=>?_
 obtain ⟨a,e,⟨xs,hq⟩,q⟩:=q1
 subst e
 cases r1
 obtain ⟨its,rv,p,hz⟩:=I1.tuple hq
 refine wpAny_pyIter_tuple (show s1.heap.IsTuple a its.toArray from p) ?_
 refine ⟨s1.heap.objs.size,[s1.heap.objs.size],_,_,H1,rfl,I1.kept (t':=s1.toks) fun b o e=>Heap.get?_push_of_some _ e,Pm a _,⟨_,Heap.get?_push_size _ rfl,rfl,rfl⟩,fun b hb=>?_,q⟩
 have e:b=s1.heap.objs.size:=by simpa using hb
 subst e
 exact I1.fpOk (Nat.le_refl _) (I1.hok.fresh (Nat.le_refl _))
theorem Ou {pins:List (Addr×Obj)} {σ:St} {H:Hp} {s:Shared} {R:It→Hp→Prop} {E:Value→Shared→Prop} {lo hi:Int} {t u v:Tok} {tk:Nat} (I:Inv X pins σ H s) (h1: -(2 ^ 62)≤lo) (h2:lo < 2 ^ 62) (h3: -(2 ^ 62)≤hi) (h4:hi < 2 ^ 62)
  (q:R (Itr lo (hi - lo).toNat) H):wpAny (model X.prog X.w) X.A (pyIter (.ref s.heap.objs.size)) (PIE X pins σ tg R) E {s with heap:=s.heap.push {cls:= .type "range",data:= .fields #[.int lo t,.int hi u,.int 1 v]},toks:=tk}:=by
 refine wpAny_pyIter_range (IsRange.new ..) (small_one h1 h2 h3 h4) ?_
 have I1:Inv X pins σ H {s with heap:=s.heap.push {cls:= .type "range",data:= .fields #[.int lo t,.int hi u,.int 1 v]},toks:=tk}:=I.kept fun b o e=>Heap.get?_push_of_some _ e
 refine ⟨(s.heap.push {cls:= .type "range",data:= .fields #[.int lo t,.int hi u,.int 1 v]}).objs.size,[(s.heap.push {cls:= .type "range",data:= .fields #[.int lo t,.int hi u,.int 1 v]}).objs.size],_,_,H,rfl,
  I1.kept (t':=tk) fun b o e=>Heap.get?_push_of_some _ e,Pn _ lo (hi - lo).toNat,?_,fun b hb=>?_,q⟩
 ·have e1:lo + ((0:Nat):Int) * 1=lo:=by simp
  have e2:(((hi - lo).toNat:Nat):Int) - ((0:Nat):Int)=Builtin.Range.rangeSize lo hi 1:=by rw [rangeSize_one];split<;>omega
  show IsRangeIter _ _ (lo + ((0:Nat):Int) * 1) ((((hi - lo).toNat:Nat):Int) - ((0:Nat):Int)) 1
  rw [e1,e2]
  exact Heap.get?_push_size _ rfl
 ·have e:b=(s.heap.push {cls:= .type "range",data:= .fields #[.int lo t,.int hi u,.int 1 v]}).objs.size:=by simpa using hb
  subst e
  exact I1.fpOk (Nat.le_refl _) (I1.hok.fresh (Nat.le_refl _))
noncomputable def aeH (ta:TA):TI:=fun σ H R=>ta σ H fun vs H1=>∃ j:Int,vs=[.int j]∧-(2 ^ 62)≤j∧j < 2 ^ 62∧R (Itr 0 j.toNat) H1
noncomputable def aeG (ta:TA):TI:=fun σ H R=>ta σ H fun vs H1=>∃ i j:Int,vs=[.int i,.int j]∧(-(2 ^ 62)≤i∧i < 2 ^ 62∧-(2 ^ 62)≤j∧j < 2 ^ 62)∧R (Itr i (j - i).toNat) H1
theorem ge {a:Expr} {ta:TA} {p pos:Pos} (hg:Gl X "range") (hm:X.mg "range"=none) (ha:PA X [a] ta) (hs:starEach [a] X.env=[(false,eval a X.env)]:=by rfl):PI X tg (.Call (.Name "range" p) [a] [] pos) (aeH ta):=by
 intro pins s σ H R I h
 refine Call_ (nc I hg hm boot_range (PyProof.Rows.callWith_type1 (thn (ha pos pins s σ H _ I h) fun us s1 ⟨vs,H1,I1,r1,q1⟩=>?_) hs rfl))
 obtain ⟨j,e,q1,q2,q⟩:=q1
 subst e
 cases r1 with
 | cons r rr=>
   cases rr
   obtain ⟨t,rfl⟩:=r
   exact call_range_1 (Ou I1 (by omega) (by omega) q1 q2 (by simpa using q))
theorem Ul {a b:Expr} {ta:TA} {p pos:Pos} (hg:Gl X "range") (hm:X.mg "range"=none) (ha:PA X [a,b] ta) (hs:starEach [a,b] X.env=[(false,eval a X.env),(false,eval b X.env)]:=by rfl) (hs2:starEach [b] X.env=[(false,eval b X.env)]:=by rfl):
  PI X tg (.Call (.Name "range" p) [a,b] [] pos) (aeG ta):=by
 intro pins s σ H R I h
 refine Call_ (nc I hg hm boot_range (PyProof.Rows.callWith_type1 (thn (ha pos pins s σ H _ I h) fun us s1 ⟨vs,H1,I1,r1,q1⟩=>?_) (by rw [hs,hs2]) (by rw [hs2];rfl)))
 obtain ⟨i,j,e,⟨q1,q2,q3,q4⟩,q⟩:=q1
 subst e
 cases r1 with
 | cons r rr=>
   cases rr with
   | cons r' rr=>
     cases rr
     obtain ⟨t,rfl⟩:=r
     obtain ⟨t',rfl⟩:=r'
     exact call_range_2 (Ou I1 q1 q2 q3 q4 q)
noncomputable def tFor (wi:TI) (g:TG) (tb:TS):TS:=fun D σ H=>wi σ H fun J H1=>∃ W:Nat→Nat→St→Hp→Prop,(∃ m,W 0 m σ H1)∧∀ i m σ H,W i m σ H→
 (J.stop i H∧D.nx σ H)∨(J.go i H∧∃ N:St→Hp→Prop,(∀ σ' H',N σ' H'→∃ m',m' < m∧W (i + 1) m' σ' H')∧∀ x H',J.yld i H x H'→g x σ H' fun σ2 H2=>tb {D with nx:=N,ct:=N,bk:=D.nx} σ2 H2)
noncomputable def Iz (fp:List Addr) (h:Heap):List (Addr×Obj):=fp.filterMap fun b=>(h.get? b).map fun o=>(b,o)
theorem pc {fp:List Addr} {h:Heap} {b:Addr} {o:Obj} (hb:b∈fp) (e:h.get? b=some o):(b,o)∈Iz fp h:=List.mem_filterMap.mpr ⟨b,hb,by rw [e];rfl⟩
theorem UC {fp:List Addr} {h:Heap} {p:Addr×Obj} (hp:p∈Iz fp h):p.1∈fp∧h.get? p.1=some p.2:=by
 obtain ⟨b,hb,e⟩:=List.mem_filterMap.mp hp
 cases q:h.get? b with
 | none=>rw [q] at e;cases e
 | some o=>
   rw [q] at e
   have e':(b,o)=p:=Option.some.inj e
   subst e'
   exact ⟨hb,q⟩
theorem Inv.pinned {pins:List (Addr×Obj)} {σ:St} {H:Hp} {s:Shared} {fp:List Addr} (I:Inv X pins σ H s) (hf:∀ b∈fp,FpOk X pins H b) (ho:∀ b∈fp,∃ o,s.heap.get? b=some o∧∀ v,o.data≠.cell v):Inv X (pins++Iz fp s.heap) σ H s:=
 I.pins_of fun p hp=>(List.mem_append.mp hp).elim (fun z=>I.pin p (List.mem_append_right _ z)) fun z=>by
  obtain ⟨hb,e⟩:=UC z
  obtain ⟨f0,f1,f2,_⟩:=hf p.1 hb
  obtain ⟨o,e',d⟩:=ho p.1 hb
  rw [e] at e';cases e'
  exact ⟨e,f0,f1,f2,d⟩
theorem Inv.unpinned {pins pl:List (Addr×Obj)} {σ:St} {H:Hp} {s:Shared} (I:Inv X (pins++pl) σ H s):Inv X pins σ H s:=I.pins_of fun p hp=>I.pin p (List.mem_append_right _ (List.mem_append_left _ hp))
theorem fV {iter:Expr} {body:List Stmt} {wi:TI} {g:TG} {tb:TS} {pos:Pos} (hp:PassesOwn (model X.prog X.w) X.A X.env X.xe) (hc:X.calm=true) (hi:PI X tg iter wi) (hg:PG X tg g) (hb:PSs X body tb)
  (hs:∀ x,foldedSetIterable iter X.env x=pure x:=by intro _;rfl):PS X (.For tg iter body [] pos) (tFor wi g tb):=by
 intro pins s σ H D I h
 refine wpAny_For (thn (hi pins s σ H _ I h) fun v s1 h1=>thn h1 fun itv s2 h2=>?_) hs
 obtain ⟨it,fp,tn,J,H2,e,I2,T,st2,f2,W,⟨m0,w0⟩,turn⟩:=h2
 subst e
 have stat:∀ {H':Hp},(∀ b∈fp,H' b=none)→∀ b∈fp,FpOk X pins H' b:=fun hn b hb=>⟨hn b hb,(f2 b hb).2⟩
 refine codeAny_forLoop_any (fun n s'=>∃ i σ' H',Inv X pins σ' H' s'∧tn i s'.heap∧(∀ b∈fp,H' b=none)∧W i n σ' H') ?_ m0 ⟨0,σ,H2,I2,st2,fun b hb=>(f2 b hb).1,w0⟩
 rintro n s3 ⟨i,σ3,H3,I3,st3,fr3,w3⟩
 rcases turn i n σ3 H3 w3 with ⟨stop,qn⟩ | ⟨go,N,hN,step⟩
 ·refine wpAny_passesOwn hp (thn (T.done X rfl rfl rfl hc i pins s3 σ3 H3 X.xe I3 (stat fr3) st3 stop) fun r s4 ⟨hr,I4⟩=>?_)
  subst hr
  exact wpAny_execs_nil ⟨σ3,H3,I4,qn⟩
 ·refine wpAny_passesOwn hp (thn (T.item X rfl rfl rfl hc i pins s3 σ3 H3 X.xe I3 (stat fr3) st3 go) fun r s4 ⟨u,hr,h4⟩=>?_)
  subst hr
  refine wpAny_passesOwn hp (thn h4 fun _ s5 ⟨x,H5,I5,r5,y5,st5,fr5⟩=>?_)
  have I5':=I5.pinned (stat fr5) (T.obj _ _ st5)
  refine wpAny_passesOwn hp (thn (hg _ s5 σ3 H5 x u _ I5' r5 (step x H5 y5)) fun _ s6 ⟨σ6,H6,I6,q6⟩=>?_)
  refine wpAny_passesOwn hp (thn (hb _ s6 σ6 H6 _ I6 q6) fun f s7 q7=>?_)
  have again:∀ {σ7:St} {H7:Hp},Inv X (pins++Iz fp s5.heap) σ7 H7 s7→N σ7 H7→∃ m,m < n∧∃ i σ' H',Inv X pins σ' H' s7∧tn i s7.heap∧(∀ b∈fp,H' b=none)∧W i m σ' H':=fun {σ7 H7} I7 n7=>by
   obtain ⟨m',hm,w7⟩:=hN σ7 H7 n7
   refine ⟨m',hm,i + 1,σ7,H7,I7.unpinned,T.keep _ _ _ st5 fun b hb o e=>(I7.pin (b,o) (List.mem_append_right _ (List.mem_append_right _ (pc hb e)))).1,fun b hb=>?_,w7⟩
   obtain ⟨o,e,d⟩:=T.obj _ _ st5 b hb
   exact (I7.pin (b,o) (List.mem_append_right _ (List.mem_append_right _ (pc hb e)))).2.1
  cases f with
  | next=>obtain ⟨σ7,H7,I7,n7⟩:=q7;exact again I7 n7
  | cont=>obtain ⟨σ7,H7,I7,n7⟩:=q7;exact again I7 n7
  | brk=>obtain ⟨σ7,H7,I7,q7⟩:=q7;exact ⟨σ7,H7,I7.unpinned,q7⟩
  | ret v=>obtain ⟨x7,σ7,H7,I7,r7,q7⟩:=q7;exact ⟨x7,σ7,H7,I7.unpinned,r7,q7⟩
end
theorem jZ {K:PySem.W.Frag} {a:Addr} {xs:List V} {g:TG} {tb:TS} {D:Ends} {σ:St} {H:Hp} (Pv:Nat→St→Hp→Prop) (h0:Pv 0 σ H) (hl:∀ i σ H,i≤xs.length→Pv i σ H→SqL K H a xs)
  (hs:∀ i x σ H,xs[i]? =some x→Pv i σ H→g x σ H fun σ2 H2=>tb {D with nx:=Pv (i + 1),ct:=Pv (i + 1),bk:=D.nx} σ2 H2) (hd:∀ σ H,Pv xs.length σ H→D.nx σ H):
  ∃ W:Nat→Nat→St→Hp→Prop,(∃ m,W 0 m σ H)∧∀ i m σ H,W i m σ H→
    ((Itl K a).stop i H∧D.nx σ H)∨((Itl K a).go i H∧∃ N:St→Hp→Prop,(∀ σ' H',N σ' H'→∃ m',m' < m∧W (i + 1) m' σ' H')∧∀ x H',(Itl K a).yld i H x H'→g x σ H' fun σ2 H2=>tb {D with nx:=N,ct:=N,bk:=D.nx} σ2 H2):=by
 refine ⟨fun i m σ H=>m=xs.length - i∧i≤xs.length∧Pv i σ H,⟨xs.length,by simp,Nat.zero_le _,h0⟩,?_⟩
 rintro i m σ H ⟨rfl,hi,p⟩
 have q:=hl i σ H hi p
 by_cases hlt:i < xs.length
 ·refine .inr ⟨⟨xs,xs[i],q,by simp [hlt]⟩,Pv (i + 1),fun σ' H' p'=>⟨xs.length - (i + 1),by omega,rfl,hlt,p'⟩,fun x H' y=>?_⟩
  obtain ⟨e,y⟩:=y
  subst e
  exact hs i x σ _ (y xs q) p
 ·have e:i=xs.length:=by omega
  subst e
  exact .inl ⟨⟨xs,q,Nat.le_refl _⟩,hd σ H p⟩
theorem vn {K:PySem.W.Frag} {a:Addr} {xs:List V} {g:TG} {tb:TS} {D:Ends} {σ:St} {H:Hp} (Pv:Nat→St→Hp→Prop) (h0:Pv 0 σ H) (hl:∀ i σ H,i≤xs.length→Pv i σ H→SqT K H a xs)
  (hs:∀ i x σ H,xs[i]? =some x→Pv i σ H→g x σ H fun σ2 H2=>tb {D with nx:=Pv (i + 1),ct:=Pv (i + 1),bk:=D.nx} σ2 H2) (hd:∀ σ H,Pv xs.length σ H→D.nx σ H):
  ∃ W:Nat→Nat→St→Hp→Prop,(∃ m,W 0 m σ H)∧∀ i m σ H,W i m σ H→
    ((Itt K a).stop i H∧D.nx σ H)∨((Itt K a).go i H∧∃ N:St→Hp→Prop,(∀ σ' H',N σ' H'→∃ m',m' < m∧W (i + 1) m' σ' H')∧∀ x H',(Itt K a).yld i H x H'→g x σ H' fun σ2 H2=>tb {D with nx:=N,ct:=N,bk:=D.nx} σ2 H2):=by
 refine ⟨fun i m σ H=>m=xs.length - i∧i≤xs.length∧Pv i σ H,⟨xs.length,by simp,Nat.zero_le _,h0⟩,?_⟩
 rintro i m σ H ⟨rfl,hi,p⟩
 have q:=hl i σ H hi p
 by_cases hlt:i < xs.length
 ·refine .inr ⟨⟨xs,xs[i],q,by simp [hlt]⟩,Pv (i + 1),fun σ' H' p'=>⟨xs.length - (i + 1),by omega,rfl,hlt,p'⟩,fun x H' y=>?_⟩
  obtain ⟨e,y⟩:=y
  subst e
  exact hs i x σ _ (y xs q) p
 ·have e:i=xs.length:=by omega
  subst e
  exact .inl ⟨⟨xs,q,Nat.le_refl _⟩,hd σ H p⟩
theorem AM {lo:Int} {n:Nat} {g:TG} {tb:TS} {D:Ends} {σ:St} {H:Hp} (Pv:Nat→St→Hp→Prop) (h0:Pv 0 σ H)
  (hs:∀ i σ H,i < n→Pv i σ H→g (.int (lo + i)) σ H fun σ2 H2=>tb {D with nx:=Pv (i + 1),ct:=Pv (i + 1),bk:=D.nx} σ2 H2) (hd:∀ σ H,Pv n σ H→D.nx σ H):
  ∃ W:Nat→Nat→St→Hp→Prop,(∃ m,W 0 m σ H)∧∀ i m σ H,W i m σ H→
    ((Itr lo n).stop i H∧D.nx σ H)∨((Itr lo n).go i H∧∃ N:St→Hp→Prop,(∀ σ' H',N σ' H'→∃ m',m' < m∧W (i + 1) m' σ' H')∧∀ x H',(Itr lo n).yld i H x H'→g x σ H' fun σ2 H2=>tb {D with nx:=N,ct:=N,bk:=D.nx} σ2 H2):=by
 refine ⟨fun i m σ H=>m=n - i∧i≤n∧Pv i σ H,⟨n,by simp,Nat.zero_le _,h0⟩,?_⟩
 rintro i m σ H ⟨rfl,hi,p⟩
 by_cases hlt:i < n
 ·refine .inr ⟨hlt,Pv (i + 1),fun σ' H' p'=>⟨n - (i + 1),by omega,rfl,hlt,p'⟩,fun x H' y=>?_⟩
  obtain ⟨e,y⟩:=y
  subst e y
  exact hs i σ _ hlt p
 ·have e:i=n:=by omega
  subst e
  exact .inl ⟨Nat.le_refl _,hd σ H p⟩
noncomputable abbrev R2:=V→V→Hp→VK→Prop
noncomputable def OpR (X:Cx) (f:Value→Value→Sem Value) (r:R2):Prop:=
 ∀ (pins:List (Addr×Obj)) (s:Shared) (σ:St) (H:Hp) (x y:V) (v u:Value) (Q:VK),Inv X pins σ H s→RelV x v→RelV y u→r x y H Q→
  wpAny (model X.prog X.w) X.A (f v u) (EP X pins σ Q) X.xe s
noncomputable def rP (X:Cx) (f:Value) (r:List V→Hp→VK→Prop):Prop:=
 ∀ (pins:List (Addr×Obj)) (s:Shared) (σ:St) (H:Hp) (xs:List V) (us:List Value) (Q:VK),Inv X pins σ H s→Vals xs us→r xs H Q→
  wpAny (model X.prog X.w) X.A (call f us) (EP X pins σ Q) X.xe s
noncomputable def tOp (r:R2) (ta tb:TE):TE:=fun σ H Q=>ta σ H fun x H1=>tb σ H1 fun y H2=>r x y H2 Q
noncomputable def rI (C:Int→Int→Prop) (g:Int→Int→V):R2:=fun x y H Q=>∃ i j,x= .int i∧y= .int j∧C i j∧Q (g i j) H
noncomputable def rI0 (g:Int→Int→V):R2:=fun x y H Q=>∃ i j,x= .int i∧y= .int j∧Q (g i j) H
section
variable {X:Cx} {a b c:Expr} {ta tb tc:TE} {pos:Pos}
theorem binT (ha:PE X a ta) (hb:PE X b tb) {pins:List (Addr×Obj)} {s:Shared} {σ:St} {H:Hp} {R:V→V→Hp→Prop} (I:Inv X pins σ H s)
  (h:ta σ H fun x H1=>tb σ H1 fun y H2=>R x y H2) {Q:Value→Shared→Prop} {f:Value→Value→Sem Value}
  (hf:∀ v u s2 x y H2,Inv X pins σ H2 s2→RelV x v→RelV y u→R x y H2→wpAny (model X.prog X.w) X.A (f v u) Q X.xe s2):
  wpAny (model X.prog X.w) X.A (eval a X.env) (fun v s₁=>wpAny (model X.prog X.w) X.A (eval b X.env) (fun u s₂=>wpAny (model X.prog X.w) X.A (f v u) Q X.xe s₂) X.xe s₁) X.xe s:=by
 refine thn (ha pins s σ H _ I h) fun v s1 ⟨x,H1,I1,r1,q1⟩=>?_
 refine thn (hb pins s1 σ H1 _ I1 q1) fun u s2 ⟨y,H2,I2,r2,q2⟩=>?_
 exact hf v u s2 x y H2 I2 r1 r2 q2
theorem aG {op:Operator} {r:R2} (ho:OpR X (binaryOp op) r) (ha:PE X a ta) (hb:PE X b tb):PE X (.BinOp a op b pos) (tOp r ta tb):=by
 intro pins s σ H Q I h
 exact wpAny_BinOp (binT ha hb I h fun v u s2 x y H2 I2 rx ry q=>ho pins s2 σ H2 x y v u Q I2 rx ry q)
theorem opI {f:Value→Value→Sem Value} {C:Int→Int→Prop} {g:Int→Int→Int}
  (rule:∀ (i j:Int) (t u:Tok) (s:Shared) (Q:Value→Shared→Prop) (E:Value→Shared→Prop),C i j→Q (.int (g i j) s.toks) {s with toks:=s.toks + 1}→wpAny (model X.prog X.w) X.A (f (.int i t) (.int j u)) Q E s):
  OpR X f (rI C fun i j=> .int (g i j)):=by
 intro pins s σ H x y v u Q I rx ry h
 obtain ⟨i,j,rfl,rfl,hc,q⟩:=h
 obtain ⟨t,rfl⟩:=rx
 obtain ⟨t',rfl⟩:=ry
 exact rule i j t t' s _ _ hc ⟨.int (g i j),H,I.tok _,⟨_,rfl⟩,q⟩
theorem opI0 {f:Value→Value→Sem Value} {g:Int→Int→Int}
  (rule:∀ (i j:Int) (t u:Tok) (s:Shared) (Q:Value→Shared→Prop) (E:Value→Shared→Prop),Q (.int (g i j) s.toks) {s with toks:=s.toks + 1}→wpAny (model X.prog X.w) X.A (f (.int i t) (.int j u)) Q E s):
  OpR X f (rI0 fun i j=> .int (g i j)):=by
 intro pins s σ H x y v u Q I rx ry h
 obtain ⟨i,j,rfl,rfl,q⟩:=h
 obtain ⟨t,rfl⟩:=rx
 obtain ⟨t',rfl⟩:=ry
 exact rule i j t t' s _ _ ⟨.int (g i j),H,I.tok _,⟨_,rfl⟩,q⟩
theorem opB0 {f:Value→Value→Sem Value} {g:Int→Int→Bool}
  (rule:∀ (i j:Int) (t u:Tok) (s:Shared) (Q:Value→Shared→Prop) (E:Value→Shared→Prop),Q (.bool (g i j)) s→wpAny (model X.prog X.w) X.A (f (.int i t) (.int j u)) Q E s):
  OpR X f (rI0 fun i j=> .bl (g i j)):=by
 intro pins s σ H x y v u Q I rx ry h
 obtain ⟨i,j,rfl,rfl,q⟩:=h
 obtain ⟨t,rfl⟩:=rx
 obtain ⟨t',rfl⟩:=ry
 exact rule i j t t' s _ _ ⟨.bl (g i j),H,I,rfl,q⟩
noncomputable def CDiv (i j:Int):Prop:=0 < j∧j < 1073741824
noncomputable def af8 (i j:Int):Prop:=j≠0∧j.natAbs < 1073741824
noncomputable def CPow (i j:Int):Prop:=0≤j∧j≤1000000∧i.natAbs < 2 ^ 64
noncomputable def CMul (i j:Int):Prop:=(-(2 ^ 64) < i∧i < 2 ^ 64)∨(-(2 ^ 64) < j∧j < 2 ^ 64)
theorem CMul.ok {i j:Int} (h:CMul i j):IntMulOk i j:=by
 rcases h with ⟨h1,h2⟩ | ⟨h1,h2⟩
 ·exact .of_left (intBits_le_64 h1 h2)
 ·exact .of_right (intBits_le_64 h1 h2)
theorem Pl (k:Nat):(0:Int)≤2 ^ k:=by
 rw [two_pow_cast]
 exact Int.natCast_nonneg _
theorem dP:OpR X (binaryOp .Add) (rI0 fun i j=> .int (i + j)):=opI0 fun _ _ _ _ _ _ _ q=>add_int q
theorem Ur:OpR X (binaryOp .Sub) (rI0 fun i j=> .int (i - j)):=opI0 fun _ _ _ _ _ _ _ q=>sub_int q
theorem zr:OpR X (binaryOp .Mult) (rI CMul fun i j=> .int (i * j)):=opI fun _ _ _ _ _ _ _ hc q=>mul_int q hc.ok
theorem Uw:OpR X (binaryOp .FloorDiv) (rI CDiv fun i j=> .int (i / j)):=opI fun i j _ _ _ _ _ hc q=>by
 have h1:(0:Int) < j:=hc.1
 have h2:j < 1073741824:=hc.2
 exact floordiv_int (by omega) (by rw [Int.fdiv_eq_ediv_of_nonneg i (by omega)];exact q) (.inl (PyProof.noPylong_small (by omega)))
theorem d0:OpR X (binaryOp .Mod) (rI (fun _ j=>0 < j) fun i j=> .int (i % j)):=opI fun i j _ _ _ _ _ hc q=>by
 have h1:(0:Int) < j:=hc
 exact mod_int' (by omega) (by rw [Int.fmod_eq_emod_of_nonneg i (by omega)];exact q)
theorem aef:OpR X (binaryOp .Pow) (rI CPow fun i j=> .int (i ^ j.toNat)):=opI fun _ _ _ _ _ _ _ hc q=>pow_int_small hc.1 hc.2.1 hc.2.2 q
theorem EZ:OpR X (binaryOp .LShift) (rI CPow fun i j=> .int (i * 2 ^ j.toNat)):=opI fun _ _ _ _ _ _ _ hc q=>lshift_int_small hc.1 hc.2.1 hc.2.2 q
theorem OD:OpR X (binaryOp .RShift) (rI (fun _ j=>0≤j) fun i j=> .int (i / 2 ^ j.toNat)):=opI fun i j _ _ _ _ _ hc q=>
 rshift_int hc (by rw [Int.fdiv_eq_ediv_of_nonneg i (Pl _)];exact q)
theorem E1:OpR X (binaryOp .BitAnd) (rI0 fun i j=> .int (Builtin.bitAnd i j)):=opI0 fun _ _ _ _ _ _ _ q=>and_int q
theorem wu:OpR X (binaryOp .BitXor) (rI0 fun i j=> .int (Builtin.bitXor i j)):=opI0 fun _ _ _ _ _ _ _ q=>xor_int q
end
noncomputable def scal:V→V→Bool
 | .non,.non=>true | .non,.int _=>true | .int _,.non=>true | .non,.bl _=>true | .bl _,.non=>true | .non,.str _=>true | .str _,.non=>true
 | .int _,.int _=>true | .bl _,.bl _=>true | .str _,.str _=>true | .byt _,.byt _=>true
 | .int _,.str _=>true | .str _,.int _=>true | .bl _,.str _=>true | .str _,.bl _=>true
 | _,_=>false
noncomputable def rEq:R2:=fun x y H Q=>scal x y=true∧Q (.bl (decide (x=y))) H
noncomputable def rNe:R2:=fun x y H Q=>scal x y=true∧Q (.bl (!decide (x=y))) H
theorem VX {i j:Int}:decide (V.int i=V.int j)=(i == j):=by
 rw [Bool.eq_iff_iff]
 simp
theorem aaz {i j:Bool}:decide (V.bl i=V.bl j)=(i == j):=by
 rw [Bool.eq_iff_iff]
 simp
theorem VW {i j:Str}:decide (V.str i=V.str j)=(i == j):=by
 rw [Bool.eq_iff_iff]
 simp
theorem VY {i j:Array UInt8}:decide (V.byt i=V.byt j)=(i.toList == j.toList):=by
 rw [Bool.eq_iff_iff]
 cases i
 cases j
 simp
section
variable {X:Cx} {a b c:Expr} {ta tb tc:TE} {pos:Pos}
theorem cA {pins:List (Addr×Obj)} {σ:St} {H:Hp} {s:Shared} {Q:VK} {k k':Bool} (I:Inv X pins σ H s) (q:Q (.bl k) H) (e:k=k'):EP X pins σ Q (.bool k') s:=by
 subst e
 exact ⟨.bl k,H,I,rfl,q⟩
theorem pN:OpR X (compareOp .Eq) rEq:=by
 intro pins s σ H x y v u Q I rx ry h
 obtain ⟨hs,q⟩:=h
 cases x with
 | non=>
   cases rx
   cases y with
   | non=>cases ry;exact PySem.EqNone.eq_none_none (cA I q (by simp))
   | bl j=>cases ry;exact PySem.EqNone.eq_none_bool (cA I q (by simp))
   | int j=>obtain ⟨t',rfl⟩:=ry;exact PySem.EqNone.eq_none_int (cA I q (by simp))
   | str j=>obtain ⟨t',rfl⟩:=ry;exact PySem.EqNone.eq_none_str (cA I q (by simp))
   | _=>exact absurd (show false=true from hs) Bool.false_ne_true
 | bl i=>
   cases rx
   cases y with
   | non=>cases ry;exact PySem.EqNone.eq_bool_none (cA I q (by simp))
   | bl j=>cases ry;exact eq_bool (cA I q aaz)
   | str j=>obtain ⟨t',rfl⟩:=ry;exact PySem.EqMixed.eq_bool_str (cA I q (by simp))
   | _=>exact absurd (show false=true from hs) Bool.false_ne_true
 | int i=>
   obtain ⟨t,rfl⟩:=rx
   cases y with
   | non=>cases ry;exact PySem.EqNone.eq_int_none (cA I q (by simp))
   | int j=>obtain ⟨t',rfl⟩:=ry;exact eq_int (cA I q VX)
   | str j=>obtain ⟨t',rfl⟩:=ry;exact PySem.EqMixed.eq_int_str (cA I q (by simp))
   | _=>exact absurd (show false=true from hs) Bool.false_ne_true
 | str i=>
   obtain ⟨t,rfl⟩:=rx
   cases y with
   | non=>cases ry;exact PySem.EqNone.eq_str_none (cA I q (by simp))
   | bl j=>cases ry;exact PySem.EqMixed.eq_str_bool (cA I q (by simp))
   | int j=>obtain ⟨t',rfl⟩:=ry;exact PySem.EqMixed.eq_str_int (cA I q (by simp))
   | str j=>obtain ⟨t',rfl⟩:=ry;exact eq_str (cA I q VW)
   | _=>exact absurd (show false=true from hs) Bool.false_ne_true
 | byt i=>
   obtain ⟨t,rfl⟩:=rx
   cases y with
   | byt j=>obtain ⟨t',rfl⟩:=ry;exact PySem.W.eq_bytes (cA I q VY)
   | _=>exact absurd (show false=true from hs) Bool.false_ne_true
 | _=>cases y<;>exact absurd (show false=true from hs) Bool.false_ne_true
theorem Ut:OpR X (compareOp .NotEq) rNe:=by
 intro pins s σ H x y v u Q I rx ry h
 obtain ⟨hs,q⟩:=h
 cases x with
 | non=>
   cases rx
   cases y with
   | non=>cases ry;exact PySem.EqNone.ne_none_none (cA I q (by simp))
   | bl j=>cases ry;exact PySem.EqNone.ne_none_bool (cA I q (by simp))
   | int j=>obtain ⟨t',rfl⟩:=ry;exact PySem.EqNone.ne_none_int (cA I q (by simp))
   | str j=>obtain ⟨t',rfl⟩:=ry;exact PySem.EqNone.ne_none_str (cA I q (by simp))
   | _=>exact absurd (show false=true from hs) Bool.false_ne_true
 | bl i=>
   cases rx
   cases y with
   | non=>cases ry;exact PySem.EqNone.ne_bool_none (cA I q (by simp))
   | bl j=>cases ry;exact ne_bool (cA I q (congrArg not aaz))
   | str j=>obtain ⟨t',rfl⟩:=ry;exact PySem.EqMixed.ne_bool_str (cA I q (by simp))
   | _=>exact absurd (show false=true from hs) Bool.false_ne_true
 | int i=>
   obtain ⟨t,rfl⟩:=rx
   cases y with
   | non=>cases ry;exact PySem.EqNone.ne_int_none (cA I q (by simp))
   | int j=>obtain ⟨t',rfl⟩:=ry;exact ne_int (cA I q (congrArg not VX))
   | str j=>obtain ⟨t',rfl⟩:=ry;exact PySem.EqMixed.ne_int_str (cA I q (by simp))
   | _=>exact absurd (show false=true from hs) Bool.false_ne_true
 | str i=>
   obtain ⟨t,rfl⟩:=rx
   cases y with
   | non=>cases ry;exact PySem.EqNone.ne_str_none (cA I q (by simp))
   | bl j=>cases ry;exact PySem.EqMixed.ne_str_bool (cA I q (by simp))
   | int j=>obtain ⟨t',rfl⟩:=ry;exact PySem.EqMixed.ne_str_int (cA I q (by simp))
   | str j=>obtain ⟨t',rfl⟩:=ry;exact ne_str (cA I q (congrArg not VW))
   | _=>exact absurd (show false=true from hs) Bool.false_ne_true
 | byt i=>
   obtain ⟨t,rfl⟩:=rx
   cases y with
   | byt j=>obtain ⟨t',rfl⟩:=ry;exact PySem.W.ne_bytes (cA I q (congrArg not VY))
   | _=>exact absurd (show false=true from hs) Bool.false_ne_true
 | _=>cases y<;>exact absurd (show false=true from hs) Bool.false_ne_true
theorem Uu:OpR X (compareOp .Lt) (rI0 fun i j=> .bl (decide (i < j))):=opB0 fun _ _ _ _ _ _ _ q=>lt_int q
theorem afV:OpR X (compareOp .LtE) (rI0 fun i j=> .bl (decide (i≤j))):=opB0 fun _ _ _ _ _ _ _ q=>le_int q
theorem xc:OpR X (compareOp .Gt) (rI0 fun i j=> .bl (decide (j < i))):=opB0 fun _ _ _ _ _ _ _ q=>gt_int q
theorem aei:OpR X (compareOp .GtE) (rI0 fun i j=> .bl (decide (j≤i))):=opB0 fun _ _ _ _ _ _ _ q=>ge_int q
theorem IL:OpR X (compareOp .In) (fun x y H Q=>∃ i j,x= .str i∧y= .str j∧Q (.bl (!(Builtin.Str.occurrences j i 0 j.length 1).isEmpty)) H):=by
 intro pins s σ H x y v u Q I rx ry h
 obtain ⟨i,j,rfl,rfl,q⟩:=h
 obtain ⟨t,rfl⟩:=rx
 obtain ⟨t',rfl⟩:=ry
 exact in_str (cA I q rfl)
theorem bu (b:Expr) {op:CmpOp} (h:op≠.In:=by decide) (h2:op≠.NotIn:=by decide):behindInMarks op b=false:=by
 have e1:(op == CmpOp.In)=false:=by cases op<;>first | rfl | exact absurd rfl h
 have e2:(op == CmpOp.NotIn)=false:=by cases op<;>first | rfl | exact absurd rfl h2
 cases b<;>simp [behindInMarks,e1,e2]
theorem iu {op:CmpOp} {r:R2} (ho:OpR X (compareOp op) r) (ha:PE X a ta) (hb:PE X b tb) (hm:behindInMarks op b=false):PE X (.Compare a [op] [b] pos) (tOp r ta tb):=by
 intro pins s σ H Q I h
 exact wpAny_Compare1 (binT ha hb I h fun v u s2 x y H2 I2 rx ry q=>ho pins s2 σ H2 x y v u Q I2 rx ry q) hm
noncomputable def ac7 (t:TE):TT:=fun σ H Q=>t σ H fun x H'=>∃ k,x= .bl k∧Q k H'
theorem bc {op:CmpOp} {r:R2} (ho:OpR X (compareOp op) r) (ha:PE X a ta) (hb:PE X b tb) (hm:behindInMarks op b=false):PT X (.Compare a [op] [b] pos) (ac7 (tOp r ta tb)):=by
 intro pins s σ H Q I h
 refine wpAny_isTrue_Compare1 (thn (ha pins s σ H _ I h) fun v s1 ⟨x,H1,I1,r1,q1⟩=>thn (hb pins s1 σ H1 _ I1 q1) fun u s2 ⟨y,H2,I2,r2,q2⟩=>
  thn (ho pins s2 σ H2 x y v u _ I2 r1 r2 q2) fun c s3 ⟨z,H3,I3,r3,k,e,q3⟩=>?_) hm
 subst e
 cases r3
 exact wpAny_truthy_bool ⟨H3,I3,q3⟩
theorem Jt:(sizeLine:Nat) < 2 ^ 63:=by rw [sizeLine_eq];decide
theorem lh:OpR X (binaryOp .Add) (fun x y H Q=>∃ i j,x= .str i∧y= .str j∧i.length + j.length≤sizeLine∧Q (.str (i++j)) H):=by
 intro pins s σ H x y v u Q I rx ry h
 obtain ⟨i,j,rfl,rfl,hz,q⟩:=h
 obtain ⟨t,rfl⟩:=rx
 obtain ⟨t',rfl⟩:=ry
 exact add_str (fun t' tk=>⟨.str (i++j),H,I.tok _,⟨_,rfl⟩,q⟩) hz
theorem yL {x:V} {us:List Value} (r:Vals [x] us):∃ u,us=[u]∧RelV x u:=by
 cases r with
 | cons r1 r2=>cases r2;exact ⟨_,rfl,r1⟩
theorem Xt {x y:V} {us:List Value} (r:Vals [x,y] us):∃ u w',us=[u,w']∧RelV x u∧RelV y w':=by
 cases r with
 | cons r1 r2=>
   cases r2 with
   | cons r3 r4=>cases r4;exact ⟨_,_,rfl,r1,r3⟩
theorem Wa:rP X (.type "int") (fun xs H Q=>(∃ i,xs=[.int i]∧Q (.int i) H)∨∃ k,xs=[.bl k]∧Q (.int (if k then 1 else 0)) H):=by
 intro pins s σ H xs us Q I r h
 rcases h with ⟨i,rfl,q⟩ | ⟨k,rfl,q⟩
 ·obtain ⟨u,rfl,t,rfl⟩:=yL r
  exact call_int_int ⟨.int i,H,I,⟨_,rfl⟩,q⟩
 ·obtain ⟨u,rfl,r1⟩:=yL r
  cases r1
  exact call_int_bool ⟨.int (if k then 1 else 0),H,I.tok _,⟨_,rfl⟩,q⟩
theorem j7:rP X (.type "str") (fun xs H Q=>∃ i,xs=[.int i]∧i.natAbs.log2 < 1920∧Q (.str (toString i)) H):=by
 intro pins s σ H xs us Q I r h
 obtain ⟨i,rfl,hz,q⟩:=h
 obtain ⟨u,rfl,t,rfl⟩:=yL r
 exact PySem.P.str_of_int hz ⟨.str _,H,I.tok _,⟨_,rfl⟩,q⟩
noncomputable def LenV (K:PySem.W.Frag) (x:V) (H:Hp) (n:Nat):Prop:=
 match x with
 | .str y=>y.length≤sizeLine∧n=y.length
 | .byt y=>y.size≤sizeLine∧n=y.size
 | .ref p=>(∃ xs,SqL K H p xs∧n=xs.length)∨∃ xs,SqT K H p xs∧n=xs.length
 | _=>False
theorem Zh:rP X (.builtin "len") (fun xs H Q=>∃ x n,xs=[x]∧LenV X.K x H n∧Q (.int n) H):=by
 intro pins s σ H xs us Q I r h
 obtain ⟨x,n,rfl,e,q⟩:=h
 obtain ⟨u,rfl,rx⟩:=yL r
 have hl:=Jt
 have hs:sizeLine=16777216:=sizeLine_eq
 cases x with
 | str y=>
   obtain ⟨t,rfl⟩:=rx
   obtain ⟨hy,e'⟩:y.length≤sizeLine∧n=y.length:=e
   subst e'
   exact len_str (by omega) ⟨.int _,H,I.tok _,⟨_,rfl⟩,q⟩
 | byt y=>
   obtain ⟨t,rfl⟩:=rx
   obtain ⟨hy,e'⟩:y.size≤sizeLine∧n=y.size:=e
   subst e'
   exact PySem.W.len_bytes (by omega) ⟨.int _,H,I.tok _,⟨_,rfl⟩,q⟩
 | ref p=>
   cases rx
   have e':(∃ xs,SqL X.K H p xs∧n=xs.length)∨∃ xs,SqT X.K H p xs∧n=xs.length:=e
   rcases e' with ⟨xs,hx,e'⟩ | ⟨xs,hx,e'⟩
   ·subst e'
    obtain ⟨its,r',pl,hz⟩:=I.list hx
    have hlen:=r'.length
    exact Calls.call_len_list pl.isList (by simp only [List.size_toArray];omega) ⟨.int xs.length,H,I.tok _,⟨_,by simp only [List.size_toArray];rw [hlen]⟩,q⟩
   ·subst e'
    obtain ⟨its,r',pl,hz⟩:=I.tuple hx
    have hlen:=r'.length
    exact len_tuple pl (by simp only [List.size_toArray];omega) ⟨.int xs.length,H,I.tok _,⟨_,by simp only [List.size_toArray];rw [hlen]⟩,q⟩
 | _=>exact (show False from e).elim
end
structure ObjM (h:Heap) (x dx C:Addr) (mA:Str→Option Value):Prop where
 obj:h.get? x=some (PySem.W.instObj C dx)
 ns:h.Ns1 dx mA
 ne:dx≠x
theorem U6 {h:Heap} {dx:Addr} {mA:Str→Option Value} (n:h.Ns1 dx mA):∃ od,h.get? dx=some od∧∀ name,PySem.W.lookIn name od=some (mA name):=by
 obtain ⟨o,es,ep,ho,hd,hk,_,hm⟩:=n
 refine ⟨o,ho,fun name=>?_⟩
 have e:=hm name
 unfold nsFind findBy at e
 rw [← Array.find?_toList] at e
 unfold PySem.W.lookIn
 rw [hd]
 dsimp only
 split
 ·rename_i y q
  rw [q] at e
  exact congrArg some e
 ·rename_i q
  rw [q] at e
  have a:es.toList.any (·.refKey)=false:=by
   rw [List.any_eq_false]
   intro y hy
   obtain ⟨z,t,hkey⟩:=hk y (Array.mem_toList_iff.mp hy)
   simp [DictEntry.refKey,hkey]
  have a':¬ es.toList.any (·.refKey)=true:=by rw [a];exact Bool.false_ne_true
  rw [if_neg a']
  exact congrArg some e
theorem ObjM.look {h:Heap} {x dx C:Addr} {mA:Str→Option Value} (I:ObjM h x dx C mA):∃ od,PySem.W.InstAt h x (PySem.W.instObj C dx) C (some od)∧∀ name,PySem.W.lookIn name od=some (mA name):=
 let ⟨od,ho,hl⟩:=U6 I.ns
 ⟨od,⟨I.obj,rfl,rfl,ho⟩,hl⟩
section
variable {prog:Program} {w:World} {A:Around} {E:Value→Shared→Prop} {s:Shared} {K:PySem.W.Frag} {x dx C f:Addr} {mA:Str→Option Value} {name:Str} {v:Value}
theorem aC {expr:Bool} {Q:Value→Shared→Prop} (X:K.In s.heap) (I:ObjM s.heap x dx C mA) (hg:PySem.W.plainGet K C name=true) (hh:PySem.W.hasDictIn K C=true)
  (ha:PySem.W.findIn K (.ref C) name=some none) (hv:mA name=some v) (hv':PySem.W.handedIn v=true) (h:Q v {s with toks:=s.toks + 1}):
  wpAny (model prog w) A (getAttr (.ref x) name expr) Q E s:=by
 obtain ⟨od,J,hl⟩:=I.look
 exact PySem.W.get_value X J (PySem.W.plainGet_of hg).1 (PySem.W.findObj_own hh ha rfl (by rw [hl,hv])) hv' h
theorem Y1 {pl:Sem Bool} {Q:Value×List Value→Shared→Prop} (X:K.In s.heap) (I:ObjM s.heap x dx C mA) (hg:PySem.W.plainGet K C name=true)
  (hf:PySem.W.findIn K (.ref C) name=some (some (.ref f))) (ht:PySem.W.isFn K (.ref f)=true) (hv:mA name=none) (h:Q (.ref f,[.ref x]) s):
  wpAny (model prog w) A (getMethod (.ref x) name pl) Q E s:=by
 obtain ⟨od,J,hl⟩:=I.look
 exact PySem.W.method_fn X J (PySem.W.plainGet_of hg).1 (PySem.W.plainGet_of hg).2 hf (beq_iff_eq.mp ht) (by show (PySem.W.lookIn name od).map (·.isSome)=some false;rw [hl,hv];rfl) h
theorem abg {ns:List Str} {Q:Unit→Shared→Prop} (X:K.In s.heap) (I:ObjM s.heap x dx C mA)
  (hs:PySem.W.findIn K (.ref C) "__setattr__"=some (some (.builtin "object.__setattr__"))) (hp:PySem.W.plainOver K C=true) (ht:PySem.W.takerIn K C name=some none) (hh:PySem.W.hasDictIn K C=true)
  (hw:PySem.Within mA ns) (hsz:ns.length≤sizeLine)
  (h:∀ h',ObjM h' x dx C (fun y=>if y=name then some v else mA y)→Heap.SameBut dx s.heap h'→Q () {s with heap:=h',toks:=s.toks + 2}):
  wpAny (model prog w) A (setAttr (.ref x) name v) Q E s:=by
 obtain ⟨od,J,hl⟩:=I.look
 refine PySem.W.set_plain X J hs (PySem.W.osa_open (s:={s with toks:=s.toks + 1}) (r:=none) X J hp ht fun b=>?_)
 obtain ⟨cd,hc,hd'⟩:=PySem.W.any_some hh
 have hx:s.heap.get? x=some ⟨.ref C,some dx,.plain,#[]⟩:=I.obj
 refine wpAny_bind (wpAny_pure (wpAny_bind (wpAny_bind (wpAny_loadPart hx (wpAny_bind (PySem.W.Looks.here (s:={s with toks:=s.toks + 1}) (PySem.W.looks_clsIn X hc) ?_))))))
 rw [hd']
 refine wpAny_pure (a:=some dx) (wpAny_bind (wpAny_pure (wpAny_bind ?_)))
 refine wpAny_nsSet1 (s:={s with toks:=s.toks + 1}) I.ns fun h' hn2 hs2=>?_
 obtain ⟨oD,esD,epD,hoD,hdD,hcD⟩:=hn2.count (PySem.Within.cons name v hw)
 refine wpAny_bind (wpAny_lookBehind hoD (by rw [hdD];exact pastItsLine_dict (Nat.le_trans hcD (by rw [List.length_cons];omega))) ?_)
 exact wpAny_pure (h _ ⟨(hs2.2 _ (Ne.symm I.ne)).trans I.obj,hn2,I.ne⟩ hs2)
theorem YG {R:Result→Shared→Prop} {vs:List Value} {kw:List (Str×Value)} (X:K.In s.heap) (hm:PySem.W.makesIn K C=true)
  (hi:PySem.W.findIn K (.ref C) "__init__"=some (some (.ref f))) (hf:PySem.W.typeIn K (.ref f)=some (.type "function"))
  (h:codeAny (model prog w) (A.under (.builtin "type.__call__" ⟨.ref C::vs,kw⟩)) (.call (.ref f) ⟨.ref (s.heap.objs.size + 1)::vs,kw⟩) (PySem.W.InitBack (s.heap.objs.size + 1) R)
   {s with heap:=(s.heap.push PySem.W.emptyDict).push (PySem.W.instObj C s.heap.objs.size)}):
  codeAny (model prog w) A (.call (.ref C) ⟨vs,kw⟩) R s:=by
 obtain ⟨hh,g,d,t,os⟩:=s
 exact PySem.W.make_core (PySem.W.makes_of X hm) (PySem.W.looks_findIn X hi) (fun self=>PySem.W.bind_fn X self hf) (.inl rfl) h
end
noncomputable def putF (f:Str) (v:V):List (Str×V)→List (Str×V)
 | []=>[(f,v)]
 | (g,x)::r=>if g=f then (g,v)::r else (g,x)::putF f v r
theorem Ap (f g:Str) (v:V):∀ fs:List (Str×V),(putF f v fs).lookup g=if g=f then some v else fs.lookup g
 | []=>by
   show List.lookup g [(f,v)]=_
   by_cases h:g=f
   ·have hb:(g == f)=true:=beq_iff_eq.mpr h
    simp only [List.lookup,hb,if_pos h]
   ·have hb:(g == f)=false:=beq_eq_false_iff_ne.mpr h
    simp only [List.lookup,hb,if_neg h]
 | (k,x)::r=>by
   have ih:=Ap f g v r
   rw [show putF f v ((k,x)::r)=(if k=f then (k,v)::r else (k,x)::putF f v r) from rfl]
   by_cases hk:k=f
   ·rw [if_pos hk]
    by_cases h:g=k
    ·have hb:(g == k)=true:=beq_iff_eq.mpr h
     simp only [List.lookup,hb,if_pos (h.trans hk)]
    ·have hb:(g == k)=false:=beq_eq_false_iff_ne.mpr h
     simp only [List.lookup,hb,if_neg (fun e:g=f=>h (e.trans hk.symm))]
   ·rw [if_neg hk]
    by_cases h:g=k
    ·have hb:(g == k)=true:=beq_iff_eq.mpr h
     simp only [List.lookup,hb,if_neg (fun e:g=f=>hk (h.symm.trans e))]
    ·have hb:(g == k)=false:=beq_eq_false_iff_ne.mpr h
     simp only [List.lookup,hb]
     exact ih
theorem AF (f:Str) (v:V):∀ fs:List (Str×V),f∈(putF f v fs).map (·.1)∧∀ g,g∈fs.map (·.1)→g∈(putF f v fs).map (·.1)
 | []=>⟨by simp [putF],fun g h=>by simp at h⟩
 | (k,x)::r=>by
   obtain ⟨i1,i2⟩:=AF f v r
   rw [show putF f v ((k,x)::r)=(if k=f then (k,v)::r else (k,x)::putF f v r) from rfl]
   by_cases hk:k=f
   ·rw [if_pos hk]
    subst hk
    exact ⟨by simp,fun g h=>by simpa using h⟩
   ·rw [if_neg hk]
    refine ⟨?_,fun g h=>?_⟩
    ·rw [List.map_cons]
     exact List.mem_cons_of_mem _ i1
    ·rw [List.map_cons] at h ⊢
     rcases List.mem_cons.mp h with e | e
     ·exact List.mem_cons.mpr (.inl e)
     ·exact List.mem_cons_of_mem _ (i2 g e)
theorem Ar (f:Str) (v:V):∀ fs:List (Str×V),(putF f v fs).length≤fs.length + 1
 | []=>by simp [putF]
 | (k,x)::r=>by
   have ih:=Ar f v r
   rw [show putF f v ((k,x)::r)=(if k=f then (k,v)::r else (k,x)::putF f v r) from rfl]
   by_cases hk:k=f
   ·rw [if_pos hk,List.length_cons,List.length_cons];omega
   ·rw [if_neg hk,List.length_cons,List.length_cons];omega
theorem RelO.some_of {v:V} {o:Option Value} (r:RelO (some v) o):∃ u,o=some u∧RelV v u:=by
 cases o with
 | none=>exact (show False from r).elim
 | some u=>exact ⟨u,rfl,r⟩
theorem RelO.none_of {o:Option Value} (r:RelO none o):o=none:=by
 cases o with
 | none=>rfl
 | some u=>exact (show False from r).elim
theorem Vx {v:V} {u:Value} (r:RelV v u):PySem.W.handedIn u=true:=by
 cases v with
 | non=>cases (show u=Value.none from r);rfl
 | bl b=>cases (show u=Value.bool b from r);rfl
 | int i=>obtain ⟨t,e⟩:=(show ∃ t,u=Value.int i t from r);cases e;rfl
 | str x=>obtain ⟨t,e⟩:=(show ∃ t,u=Value.str x t from r);cases e;rfl
 | byt b=>obtain ⟨t,e⟩:=(show ∃ t,u=Value.bytes b t from r);cases e;rfl
 | flt b=>obtain ⟨t,e⟩:=(show ∃ t,u=Value.float b t from r);cases e;rfl
 | ref a=>cases (show u=Value.ref a from r);rfl
 | ty n=>cases (show u=Value.type n from r);rfl
section
variable {P:Program} {w:World} {H H':Hp} {h h':Heap} {a C dx:Addr} {fs fs':List (Str×V)}
theorem M0 (hok:HOk P w H h) (e:H a=some (.ins C dx fs)):∃ mA,ObjM h a dx C mA∧(∀ f,RelO (fs.lookup f) (mA f))∧PySem.Within mA (fs.map (·.1))∧fs.length≤1000∧H dx=some (.own a):=by
 obtain ⟨d,z,ne,ob,mA,n,r,q⟩:=(show gI P w H h a (.ins C dx fs) from hok a _ e)
 exact ⟨mA,⟨ob,n,ne⟩,r,q,z,d⟩
end
structure Cls (K:PySem.W.Frag) (C:Addr):Prop where
 pg:PySem.W.plainGet K C Str.empty=true
 hd:PySem.W.hasDictIn K C=true
 po:PySem.W.plainOver K C=true
 sa:PySem.W.findIn K (.ref C) "__setattr__"=some (some (.builtin "object.__setattr__"))
theorem Cls.get {K:PySem.W.Frag} {C:Addr} (c:Cls K C) (f:Str):PySem.W.plainGet K C f=true:=c.pg
noncomputable def ao (K:PySem.W.Frag) (C:Addr) (f:Str):Prop:=PySem.W.findIn K (.ref C) f=some none
theorem ao.taker {K:PySem.W.Frag} {C:Addr} {f:Str} (n:ao K C f):PySem.W.takerIn K C f=some none:=by
 unfold PySem.W.takerIn
 rw [show PySem.W.findIn K (.ref C) f=some none from n]
 rfl
structure Con (K:PySem.W.Frag) (C:Addr) (f:Str) (v:V) (u:Value):Prop where
 at_:PySem.W.findIn K (.ref C) f=some (some u)
 rel:RelV v u
 get:PySem.W.specialIn K u "__get__"=some none
 cp:PySem.W.copiedNames.contains f=false
structure Meth (K:PySem.W.Frag) (C:Addr) (m:Str) (f:Addr):Prop where
 at_:PySem.W.findIn K (.ref C) m=some (some (.ref f))
 fn:PySem.W.isFn K (.ref f)=true
 kp:PySem.W.keepIn K (.ref f)=true
section
variable {X:Cx} {pins:List (Addr×Obj)} {σ:St} {H:Hp} {s:Shared} {a C dx:Addr} {fs:List (Str×V)} {f:Str} {v:V} {A:Around} {E:Value→Shared→Prop}
theorem Ru {b:Bool} {Q:Value→Shared→Prop} (I:Inv X pins σ H s) (e:H a=some (.ins C dx fs)) (c:Cls X.K C) (n:ao X.K C f) (l:fs.lookup f=some v)
  (h:∀ u s',Inv X pins σ H s'→RelV v u→Q u s'):wpAny (model X.prog X.w) A (getAttr (.ref a) f b) Q E s:=by
 obtain ⟨mA,O,r,_,_,_⟩:=M0 I.hok e
 obtain ⟨u,hu,ru⟩:=RelO.some_of (v:=v) (o:=mA f) (by rw [← l];exact r f)
 exact aC I.kIn O (c.get f) c.hd n hu (Vx ru) (h u _ (I.tok _) ru)
theorem vj {m:Str} {g:Addr} {pl:Sem Bool} {Q:Value×List Value→Shared→Prop} (I:Inv X pins σ H s) (e:H a=some (.ins C dx fs)) (c:Cls X.K C) (k:Meth X.K C m g) (l:fs.lookup m=none)
  (h:Q (.ref g,[.ref a]) s):wpAny (model X.prog X.w) A (getMethod (.ref a) m pl) Q E s:=by
 obtain ⟨mA,O,r,_,_,_⟩:=M0 I.hok e
 have hn:mA m=none:=RelO.none_of (by rw [← l];exact r m)
 exact Y1 I.kIn O (c.get m) k.at_ k.fn hn h
theorem PL {y:V} {u:Value} {Q:Unit→Shared→Prop} (I:Inv X pins σ H s) (e:H a=some (.ins C dx fs)) (c:Cls X.K C) (n:ao X.K C f) (hl:fs.length < 1000) (ry:RelV y u)
  (h:∀ s',Inv X pins σ (upd H a (.ins C dx (putF f y fs))) s'→Q () s'):wpAny (model X.prog X.w) A (setAttr (.ref a) f u) Q E s:=by
 obtain ⟨mA,O,r,wi,_,ho⟩:=M0 I.hok e
 have hz:(fs.map (·.1)).length≤sizeLine:=by rw [List.length_map,sizeLine_eq];omega
 refine abg I.kIn O c.sa c.po n.taker c.hd wi hz fun h' O' sb=>h _ ?_
 have hd:∃ o,h'.get? dx=some o:=let ⟨o,_,_,e',_⟩:=O'.ns;⟨o,e'⟩
 refine I.write (x:=a) (e:=dx) (by rw [e];exact True.intro) (.inr ho) (fun b q hb z=>(sb.2 b hb).trans z) hd ?_
 refine ⟨by rw [aB O.ne];exact ho,?_,O.ne,O'.obj,_,O'.ns,fun g=>?_,fun g hg=>?_⟩
 ·have:=Ar f y fs;omega
 ·show RelO ((putF f y fs).lookup g) (if g=f then some u else mA g)
  rw [Ap]
  by_cases q:g=f
  ·rw [if_pos q,if_pos q];exact ry
  ·rw [if_neg q,if_neg q];exact r g
 ·by_cases q:g=f
  ·rw [q];exact (AF f y fs).1
  ·refine (AF f y fs).2 g (wi g fun z=>hg ?_)
   show (if g=f then some u else mA g)=none
   rw [if_neg q];exact z
theorem Inv.made (I:Inv X pins σ H s):Inv X pins σ (upd (upd H s.heap.objs.size (.own (s.heap.objs.size + 1))) (s.heap.objs.size + 1) (.ins C s.heap.objs.size []))
  {s with heap:=(s.heap.push PySem.W.emptyDict).push (PySem.W.instObj C s.heap.objs.size)}:=by
 have e1:(s.heap.push PySem.W.emptyDict).get? s.heap.objs.size=some PySem.W.emptyDict:=Heap.get?_push_size s.heap rfl
 have e2:((s.heap.push PySem.W.emptyDict).push (PySem.W.instObj C s.heap.objs.size)).get? (s.heap.objs.size + 1)=some (PySem.W.instObj C s.heap.objs.size):=by
  have:=Heap.get?_push_size (s.heap.push PySem.W.emptyDict) (o:=PySem.W.instObj C s.heap.objs.size) rfl
  rwa [Heap.size_push] at this
 have e3:(s.heap.push PySem.W.emptyDict).Ns s.heap.objs.size (fun _=>none):=⟨PySem.W.emptyDict,#[],_,e1,rfl,(fun e he=>absurd he (by simp)),fun _=>rfl⟩
 have I1:=I.laid (a:=s.heap.objs.size) (o:= .own (s.heap.objs.size + 1)) (h':=s.heap.push PySem.W.emptyDict) (t':=s.toks) (fun b u q=>Heap.get?_push_of_some _ q) (Nat.le_refl _) ⟨_,e1⟩
 refine I1.laid (a:=s.heap.objs.size + 1) (o:= .ins C s.heap.objs.size []) (t':=s.toks) (fun b u q=>Heap.get?_push_of_some _ q) (Nat.le_of_eq (Heap.size_push _ _)) ?_
 have ne:s.heap.objs.size≠s.heap.objs.size + 1:=Nat.ne_of_lt (Nat.lt_succ_self _)
 refine ⟨by rw [aB ne,av],Nat.zero_le _,ne,e2,fun _=>none,(Heap.Ns1.of_empty e3).at fun o q=>Heap.get?_push_of_some _ q,fun _=>True.intro,fun y hy=>absurd rfl hy⟩
theorem acp {prog:Program} {w:World} {env:Env} {e:Expr} {f:Str} {pos:Pos} {s:Shared} {Q:Value→Shared→Prop} (hb:attributeBase e f env (eval e env)=eval e env)
  (h:wpAny (model prog w) A (eval e env) (fun o s₁=>wpAny (model prog w) A (getAttr o f true) Q E s₁) E s):wpAny (model prog w) A (eval (.Attribute e f pos) env) Q E s:=
 Attribute_any_ h (by rw [arm_eval_Attribute,hb])
end
noncomputable def tFld (K:PySem.W.Frag) (ta:TE) (f:Str):TE:=fun σ H Q=>ta σ H fun x H1=>∃ a C dx fs v,x= .ref a∧H1 a=some (.ins C dx fs)∧Cls K C∧ao K C f∧fs.lookup f=some v∧Q v H1
noncomputable def sFld (K:PySem.W.Frag) (ta tv:TE) (f:Str):TS:=fun D σ H=>tv σ H fun y H1=>ta σ H1 fun x H2=>∃ a C dx fs,x= .ref a∧H2 a=some (.ins C dx fs)∧Cls K C∧ao K C f∧fs.length < 1000∧
 D.nx σ (upd H2 a (.ins C dx (putF f y fs)))
section
variable {X:Cx} {o e value:Expr} {f:Str} {pos pos' tpos:Pos} {ta tv:TE}
theorem aeb (he:PE X e ta) (hb:attributeBase e f X.env (eval e X.env)=eval e X.env):PE X (.Attribute e f pos) (tFld X.K ta f):=by
 intro pins s σ H Q I h
 refine acp hb (thn (he pins s σ H _ I h) fun u s1 ⟨x,H1,I1,rx,a,C,dx,fs,v,ex,ea,c,n,l,q⟩=>?_)
 subst ex
 obtain rfl:u=Value.ref a:=rx
 exact Ru I1 ea c n l fun u' s2 I2 ru=>⟨v,H1,I2,ru,q⟩
theorem ad4 (ha:PE X o ta) (hv:PE X value tv) (hs:swapsWith value (some (.Attribute o f pos')) pos.line X.env=pure false):PS X (.Assign [.Attribute o f pos'] value pos) (sFld X.K ta tv f):=by
 intro pins s σ H D I h
 refine plainObj_wpAny_Assign_Attribute (thn (hv pins s σ H _ I h) fun u s1 ⟨y,H1,I1,ry,q⟩=>thn (ha pins s1 σ H1 _ I1 q) fun ov s2 ⟨x,H2,I2,rx,a,C,dx,fs,ex,ea,c,n,l,q2⟩=>?_) hs
 subst ex
 obtain rfl:ov=Value.ref a:=rx
 exact PL I2 ea c n l ry fun s3 I3=>⟨σ,_,I3,q2⟩
end
section
variable {X:Cx} {pins:List (Addr×Obj)} {σ:St} {H:Hp} {s:Shared} {A:Around} {E:Value→Shared→Prop} {Q:Value→Shared→Prop} {c:Value} {b:Bool}
inductive TyOf (K:PySem.W.Frag) (H:Hp):V→Value→Prop where
 | non:TyOf K H .non (.type "NoneType")
 | bl (x:Bool):TyOf K H (.bl x) (.type "bool")
 | int (i:Int):TyOf K H (.int i) (.type "int")
 | str (x:Str):TyOf K H (.str x) (.type "str")
 | flt (x:UInt64):TyOf K H (.flt x) (.type "float")
 | lst {a:Addr} {xs:List V} (e:H a=some (.lst xs)):TyOf K H (.ref a) (.type "list")
 | frz {a:Addr} {o:Obj} {xs:List V} (e:H a=some (.frz o (.lst xs))):TyOf K H (.ref a) (.type "list")
 | tup {a:Addr} {xs:List V} (e:H a=some (.tup xs)):TyOf K H (.ref a) (.type "tuple")
 | dK {a:Addr} {kvs:List (Key×V)} (e:H a=some (.dK kvs)):TyOf K H (.ref a) (.type "dict")
 | dT {a:Addr} {kvs:List (List Key×V)} (e:H a=some (.dT kvs)):TyOf K H (.ref a) (.type "dict")
 | ins {a C dx:Addr} {fs:List (Str×V)} (e:H a=some (.ins C dx fs)) (cl:Cls K C) (ha:PySem.W.findIn K (.ref C) "__class__"=some (some (.builtin "object.__class__")))
   (hn:PySem.W.specialIn K (.builtin "object.__class__") "__get__"=some (some (.builtin "getset_descriptor.__get__"))) (htk:PySem.W.takesIn K (.builtin "object.__class__")=some true)
   (hm:PySem.W.mroIn K C (.type "object")=some true):TyOf K H (.ref a) (.ref C)
end
structure Room (k:Nat) (A:Around):Prop where
 hd:A.handled=none
 dp:A.depth + 3 * k + 5 < recursionLimit
 un:A.units + 16 * k + 200 < cLine
theorem Room.mono {j k:Nat} {A:Around} (r:Room k A) (h:j≤k):Room j A:=⟨r.hd,by have:=r.dp;omega,by have:=r.un;omega⟩
theorem Room.deeper {k:Nat} {A:Around} (r:Room (k + 1) A) (env:Env):Room k (A.deeper env):=
 ⟨r.hd,by have:=r.dp;show A.depth + 1 + 3 * k + 5 < _;omega,by have:=r.un;show A.units + 3 + 16 * k + 200 < _;omega⟩
theorem QY {A:Around} {C:Addr} {us:List Value} {kw:List (Str×Value)}:(A.under (.builtin "type.__call__" ⟨.ref C::us,kw⟩)).depth=A.depth + 1:=by
 first | rfl | simp [Around.under,Code.weight,Code.isCreation,Code.isGuard,Code.isCaller,Code.frames,Code.isFrame,guardIds]
theorem QX {A:Around} {C:Addr} {us:List Value} {kw:List (Str×Value)}:(A.under (.builtin "type.__call__" ⟨.ref C::us,kw⟩)).units=A.units + 1:=by
 first | rfl | simp [Around.under,Code.cUnits,Code.frames,Code.isFrame]
theorem Room.make {k:Nat} {A:Around} (r:Room (k + 1) A) (C:Addr) (us:List Value) (kw:List (Str×Value)):Room k (A.under (.builtin "type.__call__" ⟨.ref C::us,kw⟩)):=
 ⟨r.hd,by have:=r.dp;rw [QY];omega,by have:=r.un;rw [QX];omega⟩
theorem Room.depth {k:Nat} {A:Around} (r:Room k A):A.depth < recursionLimit:=by have:=r.dp;omega
theorem Room.units {k:Nat} {A:Around} (r:Room k A):A.units + 64 < cLine:=by have:=r.un;omega
noncomputable def tNil:TA:=fun _ H Q=>Q [] H
noncomputable def ade (ta:TE) (tr:TA):TA:=fun σ H Q=>ta σ H fun x H1=>tr σ H1 fun xs H2=>Q (x::xs) H2
section
variable {X:Cx} {e:Expr} {es:List Expr} {te:TE} {t:TA} {pos:Pos}
theorem ae:PA X [] tNil:=fun _ _ _ _ H Q I h=>Calls.spliced_nil ⟨[],H,I,.nil,h⟩
theorem aa (ha:PE X e te) (hr:PA X es t) (hs:starEach (e::es) X.env=(false,eval e X.env)::starEach es X.env:=by rfl):PA X (e::es) (ade te t):=by
 intro pos pins s σ H Q I h
 rw [hs]
 show wpAny _ _ (spliced ((false,eval e X.env)::backTo pos (starEach es X.env))) _ _ s
 refine Calls.spliced_cons (thn (ha pins s σ H _ I h) fun u s1 ⟨x,H1,I1,r1,q1⟩=>?_)
 exact thn (hr pos pins s1 σ H1 _ I1 q1) fun us s2 ⟨xs,H2,I2,r2,q2⟩=>⟨x::xs,H2,I2,.cons r1 r2,q2⟩
noncomputable def tTup (t:TA):TE:=fun σ H Q=>t σ H fun xs H1=>xs.length≤sizeLine∧∀ p,H1 p=none→Q (.ref p) (upd H1 p (.tup xs))
noncomputable def tLst (t:TA):TE:=fun σ H Q=>t σ H fun xs H1=>xs.length≤sizeLine∧∀ p,H1 p=none→Q (.ref p) (upd H1 p (.lst xs))
theorem gJ {x1} (h:PA X es t):PE X (.Tuple es x1 pos) (tTup t):=by
 intro pins s σ H Q I hq
 refine wpAny_Tuple_spliced (thn (h pos pins s σ H _ I hq) fun us s1 ⟨xs,H1,I1,r,z,q⟩=>⟨by rw [← r.length];exact z,?_⟩)
 have hf:H1 s1.heap.objs.size=none:=I1.hok.fresh (Nat.le_refl _)
 refine ⟨.ref s1.heap.objs.size,upd H1 s1.heap.objs.size (.tup xs),I1.laid (t':=s1.toks) (fun b u e=>Heap.get?_push_of_some _ e) (Nat.le_refl _) ?_,rfl,q _ hf⟩
 exact ⟨z,us,r,⟨_,Heap.get?_push_size _ rfl,rfl,_,rfl⟩⟩
theorem fW (h:PA X es t):PE X (.List es pos) (tLst t):=by
 intro pins s σ H Q I hq
 refine wpAny_List_spliced (thn (h pos pins s σ H _ I hq) fun us s1 ⟨xs,H1,I1,r,z,q⟩=>⟨by rw [← r.length];exact z,?_⟩)
 have hf:H1 s1.heap.objs.size=none:=I1.hok.fresh (Nat.le_refl _)
 refine ⟨.ref s1.heap.objs.size,upd H1 s1.heap.objs.size (.lst xs),I1.laid (t':=s1.toks) (fun b u e=>Heap.get?_push_of_some _ e) (Nat.le_refl _) ?_,rfl,q _ hf⟩
 exact ⟨z,us,0,r,Heap.get?_push_size _ rfl⟩
end
noncomputable abbrev Sp:=List V→Hp→VK→XK→Prop
noncomputable abbrev CXT:=List Env→Hp→Shared→XK→Value→Shared→Prop
structure Env0 (P:Program) (w:World) (K:PySem.W.Frag) (mg:Str→Option Value) (base:Heap) (A:Around) (outer:List Env) (s:Shared) (H:Hp):Prop where
 frames:A.frames=some outer
 mod:Mod K mg base
 bs:∀ b o,base.get? b=some o→s.heap.get? b=some o∧H b=none
 bsz:base.objs.size≤s.heap.objs.size
 funs:s.heap.FunFrames base outer
 frf:∀ b∈frs outer,H b=none
 hok:HOk P w H s.heap
 bare:AllBare s.gens
noncomputable def CE (outer:List Env) (P:Program) (w:World) (H:Hp) (s:Shared) (Q:VK) (u:Value) (s':Shared):Prop:=
 ∃ v H',s'.os=s.os∧AllBare s'.gens∧Un (frs outer) [] H H' s.heap s'.heap∧HOk P w H' s'.heap∧RelV v u∧Q v H'
noncomputable def CR (CX:CXT) (outer:List Env) (P:Program) (w:World) (H:Hp) (s:Shared) (Q:VK) (E:XK) (r:Result) (s':Shared):Prop:=
 match r with
 | .ok (.ret u)=>CE outer P w H s Q u s'
 | .ok _=>False
 | .error e=>CX outer H s E e s'
structure FnOk (P:Program) (w:World) (K:PySem.W.Frag) (mg:Str→Option Value) (base:Heap) (CX:CXT) (k:Nat) (f:Addr) (fd:FuncData) (ps:List Str) (sp:Sp):Prop where
 len:∀ vs H Q E,sp vs H Q E→vs.length=ps.length
 run:∀ (A:Around) (outer:List Env) (s:Shared) (H:Hp) (args:Args) (us:List Value) (vs:List V) (Q:VK) (E:XK),Room k A→Env0 P w K mg base A outer s H→BindsTo s fd args (ps.zip us)→Vals vs us→sp vs H Q E→
  codeAny (model P w) A (.call (.ref f) args) (CR CX outer P w H s Q E) s
theorem Env0.make {P:Program} {w:World} {K:PySem.W.Frag} {mg:Str→Option Value} {base:Heap} {A:Around} {outer:List Env} {s:Shared} {H:Hp} (e:Env0 P w K mg base A outer s H) (C:Addr) (us:List Value) (kw:List (Str×Value)):
  Env0 P w K mg base (A.under (.builtin "type.__call__" ⟨.ref C::us,kw⟩)) outer s H:=⟨by first | exact e.frames | (simpa [Around.under,Code.envs,Code.isFrame,pushEnvs] using e.frames),e.mod,e.bs,e.bsz,e.funs,e.frf,e.hok,e.bare⟩
section
variable {X:Cx} {pins:List (Addr×Obj)} {σ:St} {H:Hp} {s s':Shared}
theorem Inv.env0 (I:Inv X pins σ H s):Env0 X.prog X.w X.K X.mg X.base X.A X.stack s H:=
 ⟨I.ok.frames,I.ok.mod,I.bs,Nat.le_trans I.ok.bsz I.sz,I.stack,I.stkFree,I.hok,I.bare⟩
theorem Inv.after {Q:VK} {u:Value} (I:Inv X pins σ H s) (h:CE X.stack X.prog X.w H s Q u s'):EP X pins σ Q u s':=by
 obtain ⟨v,H',os,bare,un,hok,r,q⟩:=h
 obtain ⟨hh,g,d,t,os'⟩:=s'
 obtain rfl:os'=s.os:=os
 exact ⟨v,H',I.call (h':=hh) (g':=g) (d':=d) (t':=t) (ch:=[]) un hok bare (fun b z=>absurd z (by simp)),r,q⟩
end
noncomputable def XB (sp:Sp) (dvs:List V) (E:XK) (t:TA):TE:=fun σ H Q=>t σ H fun vs H1=>sp (vs++dvs) H1 Q E
noncomputable def aaU (C:Addr) (m:Str) (sp:Sp) (dvs:List V) (E:XK) (ta:TE) (t:TA):TE:=fun σ H Q=>ta σ H fun x H1=>∃ a dx fs,x= .ref a∧H1 a=some (.ins C dx fs)∧fs.lookup m=none∧
 t σ H1 fun vs H2=>sp (x::(vs++dvs)) H2 Q E
noncomputable def adb (C:Addr) (sp:Sp) (dvs:List V) (E:XK) (t:TA):TE:=fun σ H Q=>t σ H fun vs H1=>∀ x dx,H1 x=none→H1 dx=none→dx≠x→
 sp (.ref x::(vs++dvs)) (upd (upd H1 dx (.own x)) x (.ins C dx [])) (fun v H2=>v= .non∧Q (.ref x) H2) E
noncomputable def aZ (K:PySem.W.Frag) (fd:FuncData) (ps:List Str) (ds:List Value):Prop:=
 ∀ (s:Shared) (us:List Value),K.In s.heap→(us++ds).length=ps.length→BindsTo s fd ⟨us,[]⟩ (ps.zip (us++ds))
theorem aZ.all {K:PySem.W.Frag} {fd:FuncData} {ps:List Str} (h:∀ us:List Value,us.length=ps.length→bindArgs fd ⟨us,[]⟩=pure (ps.zip us)):aZ K fd ps []:=fun s us _ hl=>by
 rw [List.append_nil] at hl ⊢
 exact .of_eq (h us hl)
noncomputable def wG (CX:CXT) (X:Cx) (E:XK):Prop:=∀ (pins:List (Addr×Obj)) (σ:St) (H:Hp) (s:Shared) (e:Value) (s':Shared),Inv X pins σ H s→CX X.stack H s E e s'→X.xe e s'
section
variable {X:Cx} {CX:CXT} {k:Nat} {f C:Addr} {fd:FuncData} {ps:List Str} {sp:Sp} {dvs:List V} {ds:List Value} {E:XK} {x m:Str} {p pos apos:Pos} {e o:Expr} {es:List Expr} {ta:TE} {t:TA}
theorem Os {pins:List (Addr×Obj)} {σ:St} {H:Hp} {s:Shared} {Q:VK} {us:List Value} {vs:List V} (F:FnOk X.prog X.w X.K X.mg X.base CX k f fd ps sp) (hr:Room k X.A) (hb:aZ X.K fd ps ds) (hd:Vals dvs ds) (hx:wG CX X E)
  (I:Inv X pins σ H s) (r:Vals vs us) (h:sp (vs++dvs) H Q E):wpAny (model X.prog X.w) X.A (call (.ref f) us) (EP X pins σ Q) X.xe s:=by
 have r2:Vals (vs++dvs) (us++ds):=r.append hd
 have hl:(us++ds).length=ps.length:=by rw [← r2.length];exact F.len _ _ _ _ h
 refine wpAny_call (codeAny_mono (F.run X.A X.stack s H ⟨us,[]⟩ (us++ds) (vs++dvs) Q E hr I.env0 (hb s us I.kIn hl) r2 h) fun r s' hq=>?_)
 cases r with
 | error e=>exact hx pins σ H s e s' I hq
 | ok fl=>
   cases fl with
   | ret u=>exact I.after hq
   | next=>exact False.elim hq
   | brk=>exact False.elim hq
   | cont=>exact False.elim hq
theorem ar (F:FnOk X.prog X.w X.K X.mg X.base CX k f fd ps sp) (hr:Room k X.A) (hg:Gl X x) (hm:X.mg x=some (.ref f)) (hk:PySem.W.keepIn X.K (.ref f)=true) (hb:aZ X.K fd ps ds) (hd:Vals dvs ds) (hx:wG CX X E)
  (ha:PA X (e::es) t) (hdb:(x == ("__debug__":Str))=false:=by decide) (he:starEach (e::es) X.env=(false,eval e X.env)::starEach es X.env:=by rfl) (hpl:(backTo pos (starEach es X.env)).any (·.1)=false:=by rfl):
  PE X (.Call (.Name x p) (e::es) [] pos) (XB sp dvs E t):=by
 intro pins s σ H Q I h
 refine wpAny_Call_Name_kw (u0 I hg hm ?_ hdb)
 refine PySem.W.callWith_K (h₀:=X.base) I.ok.mod.kin hk (thn (ha pos pins s σ H _ I h) fun us s1 ⟨vs,H1,I1,r,q⟩=>⟨I1.kIn,?_⟩) he hpl
 exact Os F hr hb hd hx I1 r q
theorem gf {pl:Sem Bool} (he:PE X o ta) (c:Cls X.K C) (hm:Meth X.K C m f) (F:FnOk X.prog X.w X.K X.mg X.base CX k f fd ps sp) (hr:Room k X.A) (hb:aZ X.K fd ps ds) (hd:Vals dvs ds) (hx:wG CX X E) (ha:PA X (e::es) t)
  (hst:starEach (e::es) X.env=(false,eval e X.env)::starEach es X.env:=by rfl) (hpl:(backTo pos (starEach es X.env)).any (·.1)=false:=by rfl)
  (ht:eval (.Call (.Attribute o m apos) (e::es) [] pos) X.env=(do
   let ov ← eval o X.env
   standAt apos.atName
   let (f,first) ← holding [ov] (getMethod ov m pl)
   callWith pos f first (backTo pos (starEach (e::es) X.env)) (backToKw pos (keywordEach [] X.env))):=by rfl):
  PE X (.Call (.Attribute o m apos) (e::es) [] pos) (aaU C m sp dvs E ta t):=by
 intro pins s σ H Q I h
 refine PySem.W.methodCall_KW (pl:=pl) (thn (he pins s σ H _ I h) fun u s1 ⟨x,H1,I1,rx,a,dx,fs,ex,ea,l,q⟩=>?_) ht
 subst ex
 obtain rfl:u=Value.ref a:=rx
 refine vj I1 ea c hm l ?_
 refine PySem.W.callWith_K (first:=[.ref a]) (h₀:=X.base) I.ok.mod.kin hm.kp (thn (ha pos pins s1 σ H1 _ I1 q) fun us s2 ⟨vs,H2,I2,r,q2⟩=>⟨I2.kIn,?_⟩) hst hpl
 exact Os (us:= .ref a::us) (vs:= .ref a::vs) F hr hb hd hx I2 (.cons rfl r) q2
theorem cf {pl:Sem Bool} (he:PE X o ta) (c:Cls X.K C) (hm:Meth X.K C m f) (F:FnOk X.prog X.w X.K X.mg X.base CX k f fd ps sp) (hr:Room k X.A) (hb:aZ X.K fd ps ds) (hd:Vals dvs ds) (hx:wG CX X E)
  (ht:eval (.Call (.Attribute o m apos) [] [] pos) X.env=(do
   let ov ← eval o X.env
   standAt apos.atName
   let (f,first) ← holding [ov] (getMethod ov m pl)
   callWith pos f first (backTo pos (starEach [] X.env)) (backToKw pos (keywordEach [] X.env))):=by rfl):
  PE X (.Call (.Attribute o m apos) [] [] pos) (aaU C m sp dvs E ta tNil):=by
 intro pins s σ H Q I h
 refine PySem.W.methodCall_KW (pl:=pl) (thn (he pins s σ H _ I h) fun u s1 ⟨x,H1,I1,rx,a,dx,fs,ex,ea,l,q⟩=>?_) ht
 subst ex
 obtain rfl:u=Value.ref a:=rx
 refine vj I1 ea c hm l ?_
 exact PySem.W.callWith_K0 (first:=[.ref a]) I1.kIn hm.kp (Os (us:=[.ref a]) (vs:=[.ref a]) F hr hb hd hx I1 (.cons rfl .nil) q)
structure Mk (K:PySem.W.Frag) (C f:Addr):Prop where
 makes:PySem.W.makesIn K C=true
 init:PySem.W.findIn K (.ref C) "__init__"=some (some (.ref f))
 fn:PySem.W.isFn K (.ref f)=true
 kp:PySem.W.keepIn K (.ref C)=true
theorem X8 {pins:List (Addr×Obj)} {σ:St} {H:Hp} {s:Shared} {Q:VK} {us:List Value} {vs:List V} (M:Mk X.K C f) (F:FnOk X.prog X.w X.K X.mg X.base CX k f fd ps sp) (hr:Room (k + 1) X.A) (hb:aZ X.K fd ps ds) (hd:Vals dvs ds)
  (hx:wG CX X E) (I:Inv X pins σ H s) (r:Vals vs us)
  (h:∀ x dx,H x=none→H dx=none→dx≠x→sp (.ref x::(vs++dvs)) (upd (upd H dx (.own x)) x (.ins C dx [])) (fun v H2=>v= .non∧Q (.ref x) H2) E):
  wpAny (model X.prog X.w) X.A (call (.ref C) us) (EP X pins σ Q) X.xe s:=by
 have hq:=h (s.heap.objs.size + 1) s.heap.objs.size (I.hok.fresh (Nat.le_succ _)) (I.hok.fresh (Nat.le_refl _)) (Nat.ne_of_lt (Nat.lt_succ_self _))
 have I2:=Inv.made (C:=C) I
 have r2:Vals (V.ref (s.heap.objs.size + 1)::(vs++dvs)) (Value.ref (s.heap.objs.size + 1)::(us++ds)):= .cons rfl (r.append hd)
 have hl:(Value.ref (s.heap.objs.size + 1)::us++ds).length=ps.length:=by
  have e:=r2.length
  rw [F.len _ _ _ _ hq] at e
  exact e.symm
 refine wpAny_call (YG (f:=f) I.kIn M.makes M.init (beq_iff_eq.mp M.fn) (codeAny_mono (F.run _ X.stack _ _ ⟨Value.ref (s.heap.objs.size + 1)::us,[]⟩ (Value.ref (s.heap.objs.size + 1)::(us++ds)) _ _ E (hr.make C us [])
  (I2.env0.make C us []) (hb _ (Value.ref (s.heap.objs.size + 1)::us) I2.kIn hl) r2 hq) fun r s' hq'=>?_))
 cases r with
 | error e=>exact hx pins σ _ _ e s' I2 hq'
 | ok fl=>
   cases fl with
   | ret u=>
     obtain ⟨v,H',I3,rv,ev,q3⟩:=I2.after hq'
     subst ev
     exact ⟨rv,⟨V.ref (s.heap.objs.size + 1),H',I3,rfl,q3⟩⟩
   | next=>exact False.elim hq'
   | brk=>exact False.elim hq'
   | cont=>exact False.elim hq'
theorem me (M:Mk X.K C f) (F:FnOk X.prog X.w X.K X.mg X.base CX k f fd ps sp) (hr:Room (k + 1) X.A) (hg:Gl X x) (hm:X.mg x=some (.ref C)) (hb:aZ X.K fd ps ds) (hd:Vals dvs ds) (hx:wG CX X E)
  (ha:PA X (e::es) t) (hdb:(x == ("__debug__":Str))=false:=by decide) (he:starEach (e::es) X.env=(false,eval e X.env)::starEach es X.env:=by rfl) (hpl:(backTo pos (starEach es X.env)).any (·.1)=false:=by rfl):
  PE X (.Call (.Name x p) (e::es) [] pos) (adb C sp dvs E t):=by
 intro pins s σ H Q I h
 refine wpAny_Call_Name_kw (u0 I hg hm ?_ hdb)
 refine PySem.W.callWith_K (h₀:=X.base) I.ok.mod.kin M.kp (thn (ha pos pins s σ H _ I h) fun us s1 ⟨vs,H1,I1,r,q⟩=>⟨I1.kIn,?_⟩) he hpl
 exact X8 M F hr hb hd hx I1 r q
end
section
variable {X:Cx} {CX:CXT} {k:Nat} {f C:Addr} {fd:FuncData} {ps ks:List Str} {sp:Sp} {E:XK} {x m:Str} {p pos apos kpos:Pos} {e o:Expr} {es:List Expr} {kws:List Keyword} {te ta:TE} {t tk:TA} {nm:Option Str}
structure af9 (K:PySem.W.Frag) (fd:FuncData) (ps ks:List Str) (g:List Value→List Value→List Value) (gV:List V→List V→List V):Prop where
 to:∀ (s:Shared) (us ws:List Value),K.In s.heap→(g us ws).length=ps.length→BindsTo s fd ⟨us,ks.zip ws⟩ (ps.zip (g us ws))
 rel:∀ {vs:List V} {us:List Value} {zs:List V} {ws:List Value},Vals vs us→Vals zs ws→Vals (gV vs zs) (g us ws)
variable {g:List Value→List Value→List Value} {gV:List V→List V→List V}
end
structure ay (N P:List Str) (sc:Scope):Prop where
 kind:sc.kind= .function
 co:sc.isCoroutine=false
 gen:sc.isGenerator=false
 nd:N.Nodup
 pre:N.take P.length=P
 par:∀ x∈P,sc.names.lookup x=some .local∨sc.names.lookup x=some .cell
 nofree:∀ y∈sc.names,y.2≠.free
theorem Ko {kindOf:Str→Option NameKind} {x:Str}:∀ {binds:List (Str×Value)} {m:Str→Option Value},(∀ v,(x,v)∉binds)→bindL kindOf binds m x=m x
 | [],_,_=>rfl
 | (n,v)::r,m,h=>by
   unfold bindL
   rw [Ko fun w hw=>h w (List.mem_cons_of_mem _ hw)]
   split
   ·have:x≠n:=by rintro rfl;exact h v List.mem_cons_self
    simp [this]
   ·rfl
theorem Kq {kindOf:Str→Option NameKind} {x:Str}:∀ {binds:List (Str×Value)} {m:Str→Option Value},(∀ v,(x,v)∉binds)→bindC kindOf binds m x=m x
 | [],_,_=>rfl
 | (n,v)::r,m,h=>by
   unfold bindC
   rw [Kq fun w hw=>h w (List.mem_cons_of_mem _ hw)]
   split
   ·rfl
   ·have:x≠n:=by rintro rfl;exact h v List.mem_cons_self
    simp [this]
theorem Kp {kindOf:Str→Option NameKind} {x:Str} {v:Value}:∀ {P:List Str} {vs:List Value} {i:Nat} {m:Str→Option Value},P.Nodup→P[i]? =some x→vs[i]? =some v→kindOf x=some .local→
  bindL kindOf (P.zip vs) m x=some v
 | [],_,_,_,_,h,_,_=>by simp at h
 | _::_,[],_,_,_,_,h,_=>by simp at h
 | p::P,w::vs,0,m,nd,h1,h2,hk=>by
   simp at h1 h2;subst h1;subst h2
   show bindL kindOf ((p,w)::P.zip vs) m p=_
   unfold bindL
   rw [Ko fun v hv=>(List.nodup_cons.mp nd).1 (List.of_mem_zip hv).1,if_pos hk]
   simp
 | p::P,w::vs,i + 1,m,nd,h1,h2,hk=>by
   show bindL kindOf ((p,w)::P.zip vs) m x=_
   unfold bindL
   exact Kp (i:=i) (List.nodup_cons.mp nd).2 (by simpa using h1) (by simpa using h2) hk
theorem Kr {kindOf:Str→Option NameKind} {x:Str} {v:Value}:∀ {P:List Str} {vs:List Value} {i:Nat} {m:Str→Option Value},P.Nodup→P[i]? =some x→vs[i]? =some v→kindOf x≠some .local→
  bindC kindOf (P.zip vs) m x=some v
 | [],_,_,_,_,h,_,_=>by simp at h
 | _::_,[],_,_,_,_,h,_=>by simp at h
 | p::P,w::vs,0,m,nd,h1,h2,hk=>by
   simp at h1 h2;subst h1;subst h2
   show bindC kindOf ((p,w)::P.zip vs) m p=_
   unfold bindC
   rw [Kq fun v hv=>(List.nodup_cons.mp nd).1 (List.of_mem_zip hv).1,if_neg hk]
   simp
 | p::P,w::vs,i + 1,m,nd,h1,h2,hk=>by
   show bindC kindOf ((p,w)::P.zip vs) m x=_
   unfold bindC
   exact Kr (i:=i) (List.nodup_cons.mp nd).2 (by simpa using h1) (by simpa using h2) hk
noncomputable def start (N:List Str) (vs:List V):St:=vs.map some++List.replicate (N.length - vs.length) none
noncomputable def cxOf (CX:CXT) (P:Program) (w:World) (K:PySem.W.Frag) (mg:Str→Option Value) (base:Heap) (N:List Str) (qual:Str) (scope:Scope) (f:Addr) (cd:Value) (A:Around) (outer:List Env) (s:Shared) (H:Hp) (E:XK):Cx where
 prog:=P
 w:=w
 K:=K
 mg:=mg
 base:=base
 A:=A.deeper (envOfC qual scope s.heap.objs.size f cd)
 N:=N
 s₀:=s
 H₀:=H
 env:=envOfC qual scope s.heap.objs.size f cd
 outer:=outer
 stack:=envOfC qual scope s.heap.objs.size f cd::outer
 ex:=[]
 calm:=true
 fn:=fun _=>true
 pn:=[]
 xe:=fun e s'=>wpAny (model P w) (A.deeper (envOfC qual scope s.heap.objs.size f cd)) (leaving (envOfC qual scope s.heap.objs.size f cd) e) (fun _ s''=>CX outer H s E e s'') (fun e' s''=>CX outer H s E e' s'') s'
theorem OW {sc:Scope} {n:Nat} {x:Str} (h:sc.names.lookup x=some .cell):∃ c,(cellsFrom n sc.names []).lookup x=some c:=by
 have q:=PySem.W.cellsFrom_some sc.names n [] (.inl h)
 exact Option.isSome_iff_exists.mp q
theorem Vv {CX:CXT} {P:Program} {w:World} {K:PySem.W.Frag} {mg:Str→Option Value} {base:Heap} {N ps:List Str} {qual:Str} {scope:Scope} {f:Addr} {cd:Value} {A:Around} {outer:List Env} {s s1:Shared} {H:Hp} {E:XK} {us:List Value} {vs:List V}
  (S:ay N ps scope) (hd:A.handled=none) (e0:Env0 P w K mg base A outer s H) (hl:vs.length=ps.length) (r:Vals vs us)
  (x:InCallC s s.heap.objs.size (bindL (envOfC qual scope s.heap.objs.size f cd).kindOf (ps.zip us) fun _=>none) (cellsFrom (s.heap.objs.size + 1) scope.names []) (bindC (envOfC qual scope s.heap.objs.size f cd).kindOf (ps.zip us) fun _=>none) s1):
  Inv (cxOf CX P w K mg base N qual scope f cd A outer s H E) [] (start N vs) H s1:=by
 have hpl:ps.length≤N.length:=by have:=congrArg List.length S.pre;rw [List.length_take] at this;omega
 obtain ⟨h1,tk,rfl,hk⟩:=x.done
 have noA:∀ b:Addr,b∉(cxOf CX P w K mg base N qual scope f cd A outer s H E).ex:=fun b z=>absurd (show b∈([]:List Addr) from z) (by simp)
 refine ⟨⟨e0.mod,S.kind,rfl,rfl,Nat.le_refl _,fun y z c h1 h2=>?_,fun y hy=>?_,fun y c _ h=>?_,fun _=>hd,Around.frames_deeper e0.frames,.inr ⟨rfl,rfl⟩,fun b z=>absurd z (noA b),e0.bs,e0.bsz,fun b _ _=>noA b,fun b z=>absurd z (noA b),e0.funs,e0.frf⟩,
  rfl,e0.bare,Un.kept hk,⟨_,x.toInCall.ns,fun i y v h1 h2 h3=>?_⟩,fun y c h=>⟨_,x.cell y c h⟩,e0.hok.fresh (Nat.le_refl _),fun y c h=>?_,fun p hp=>absurd (show p∈([]:List (Addr×Obj)) from hp) (by simp),e0.hok.kept hk,?_⟩
 ·exact name_of_addr x.apart (PySem.mem_of_lookup h1) (PySem.mem_of_lookup h2)
 ·have hy:scope.names.lookup y=some .cell∨scope.names.lookup y=some .free:=hy
  rcases hy with hy | hy
  ·exact OW hy
  ·exact absurd rfl (S.nofree _ (PySem.mem_of_lookup hy))
 ·exact Nat.le_of_lt (x.above y c (PySem.mem_of_lookup h))
 ·have hi:i < vs.length:=by
   unfold start at h2
   by_cases hi:i < vs.length
   ·exact hi
   ·rw [List.getElem?_append_right (by simpa using hi)] at h2
    rw [List.getElem?_replicate] at h2
    split at h2<;>cases h2
  have ha:vs[i]? =some v:=by
   unfold start at h2
   rw [List.getElem?_append_left (by simpa using hi),List.getElem?_map] at h2
   cases e:vs[i]? with
   | none=>rw [e] at h2;cases h2
   | some a=>rw [e] at h2;cases h2;rfl
  obtain ⟨u,hu,rv⟩:=r.get ha
  have hp:ps[i]? =some y:=by
   rw [← S.pre,List.getElem?_take_of_lt (by omega)];exact h1
  have ndP:ps.Nodup:=by rw [← S.pre];exact S.nd.sublist (List.take_sublist _ _)
  refine ⟨u,rv,?_⟩
  rcases S.par y (List.mem_of_getElem? hp) with k | k
  ·exact .inl ⟨k,Kp ndP hp hu k⟩
  ·obtain ⟨c,e⟩:=OW (n:=s.heap.objs.size + 1) k
   refine .inr ⟨.inl k,c,e,?_⟩
   have q:=x.cell y c e
   rw [Kr ndP hp hu (by show scope.names.lookup y≠_;rw [k];decide)] at q
   exact q
 ·exact e0.hok.fresh (Nat.le_of_lt (x.above y c (PySem.mem_of_lookup h)))
 ·unfold start
  show _=N.length
  rw [List.length_append,List.length_map,List.length_replicate]
  omega
theorem acd {CX:CXT} {P:Program} {w:World} {K:PySem.W.Frag} {mg:Str→Option Value} {base:Heap} {k:Nat} {f:Addr} {name qual:Str} {params:Arguments} {body:List Stmt} {scope:Scope} {dV kV doc pm cdv ct oc:Value} {an od:Option Addr}
  {osl:Array (Option Value)} {N ps:List Str} {sp:Sp} (lk:K.lookup f=some ⟨oc,od,.func (PySem.W.fnOf name qual params body scope dV kV doc pm an cdv ct),osl⟩) (hcd:PySem.W.codeIn K cdv qual=true) (S:ay N ps scope)
  (len:∀ vs H Q E,sp vs H Q E→vs.length=ps.length)
  (hbody:∀ (A:Around) (outer:List Env) (s:Shared) (H:Hp) (vs:List V) (Q:VK) (E:XK),Room k (A.deeper (envOfC qual scope s.heap.objs.size f cdv))→sp vs H Q E→
   ∃ t,PSs (cxOf CX P w K mg base N qual scope f cdv A outer s H E) body t∧t {nx:=fun _ H'=>Q .non H',rt:=Q} (start N vs) H):
  FnOk P w K mg base CX (k + 1) f (PySem.W.fnOf name qual params body scope dV kV doc pm an cdv ct) ps sp:=by
 refine ⟨len,fun A outer s H args us vs Q E hr e0 hb r hsp=>?_⟩
 have hl:=len _ _ _ _ hsp
 have KX:K.In s.heap:=e0.mod.kin.keeps fun b o e=>(e0.bs b o e).1
 have lim:s.heap.NoLimit:=e0.mod.nolimit.keeps fun b o e=>(e0.bs b o e).1
 have hkind:∀ y∈ps.zip us,scope.names.lookup y.1=some .local∨(scope.names.lookup y.1=some .cell∧((cellsFrom (s.heap.objs.size + 1) scope.names []).lookup y.1).isSome=true):=fun ⟨n,v⟩ hy=>by
  rcases S.par n (List.of_mem_zip hy).1 with q | q
  ·exact .inl q
  ·exact .inr ⟨q,PySem.W.cellsFrom_some _ _ _ (.inl q)⟩
 refine codeAny_call_function hr.depth (KX _ _ lk) rfl S.co S.gen rfl (PySem.W.codeRec_of KX hcd) (hb _ _ _ _ ?_)
 refine wpAny_newFunctionEnv_cells S.kind hkind fun env he s1 x=>?_
 subst he
 refine ⟨lim.keeps x.toInCall.keep,codeAny_func ?_⟩
 obtain ⟨t,ht,hq⟩:=hbody A outer s H vs Q E (hr.deeper _) hsp
 have I:Inv (cxOf CX P w K mg base N qual scope f cdv A outer s H E) [] (start N vs) H s1:=Vv S hr.hd e0 hl r x
 refine wpAny_mono (ht [] s1 (start N vs) H _ I hq) (fun fl s' hs=>?_) fun e s' hs=>hs
 have fin:∀ {σ':St} {H':Hp} {v:V} {u:Value},Inv (cxOf CX P w K mg base N qual scope f cdv A outer s H E) [] σ' H' s'→RelV v u→Q v H'→CE outer P w H s Q u s':=
  fun {σ' H' v u} J rv q=>⟨v,H',J.os,J.bare,J.base,J.hok,rv,q⟩
 cases fl with
 | ret u=>
   obtain ⟨v,σ',H',J,rv,q⟩:=hs
   exact fin J rv q
 | next=>
   obtain ⟨σ',H',J,q⟩:=hs
   exact fin (v:=V.non) (u:=Value.none) J rfl q
 | brk=>
   obtain ⟨_,_,_,q⟩:=hs
   exact False.elim q
 | cont=>
   obtain ⟨_,_,_,q⟩:=hs
   exact False.elim q
section
variable {X:Cx} {x:Str} {p pos:Pos} {e:Expr} {es:List Expr} {t:TA} {id T:String} {r:List V→Hp→VK→Prop}
noncomputable def tCB (r:List V→Hp→VK→Prop) (t:TA):TE:=fun σ H Q=>t σ H fun vs H1=>r vs H1 Q
theorem aD (hc:rP X (.builtin id) r) (hg:Gl X x) (hm:X.mg x=none) (hv:bootBuiltins x=some (.builtin id)) (ha:PA X (e::es) t) (hn:x≠"__name__":=by decide) (hdb:(x == ("__debug__":Str))=false:=by decide)
  (he:starEach (e::es) X.env=(false,eval e X.env)::starEach es X.env:=by rfl) (hpl:(backTo pos (starEach es X.env)).any (·.1)=false:=by rfl):PE X (.Call (.Name x p) (e::es) [] pos) (tCB r t):=by
 intro pins s σ H Q I h
 refine wpAny_Call_Name_kw (nc I hg hm hv ?_ hn hdb)
 exact PyProof.Rows.callWith_builtin1 (thn (ha pos pins s σ H _ I h) fun us s1 ⟨vs,H1,I1,r1,q1⟩=>hc pins s1 σ H1 vs us Q I1 r1 q1) he hpl
theorem aQ (hc:rP X (.type T) r) (hg:Gl X x) (hm:X.mg x=none) (hv:bootBuiltins x=some (.type T)) (ha:PA X (e::es) t) (hn:x≠"__name__":=by decide) (hdb:(x == ("__debug__":Str))=false:=by decide)
  (he:starEach (e::es) X.env=(false,eval e X.env)::starEach es X.env:=by rfl) (hpl:(backTo pos (starEach es X.env)).any (·.1)=false:=by rfl):PE X (.Call (.Name x p) (e::es) [] pos) (tCB r t):=by
 intro pins s σ H Q I h
 refine wpAny_Call_Name_kw (nc I hg hm hv ?_ hn hdb)
 exact PyProof.Rows.callWith_type1 (thn (ha pos pins s σ H _ I h) fun us s1 ⟨vs,H1,I1,r1,q1⟩=>hc pins s1 σ H1 vs us Q I1 r1 q1) he hpl
end
end L2
namespace HT
open PySem PyProof.Rows
section
variable {prog:Program} {w:World} {A:Around} {E:Value→Shared→Prop} {s:Shared}
noncomputable def sIx (n d:Nat):Option Int→Nat
 | none=>d
 | some v=>if v < 0 then (v + (n:Int)).toNat else min v.toNat n
theorem sIx_none (n d:Nat):sIx n d none=d:=rfl
theorem sIx_nat (n d k:Nat):sIx n d (some (k:Int))=min k n:=by
 show (if (k:Int) < 0 then ((k:Int) + (n:Int)).toNat else min (k:Int).toNat n)=min k n
 rw [if_neg (by omega),Int.toNat_natCast]
end
end HT
namespace L2
open PySem PySem.Spec PyProof.Rows
noncomputable abbrev TO:=St→Hp→(Option Int→Hp→Prop)→Prop
noncomputable def PO (X:Cx) (e:Option Expr) (t:TO):Prop:=
 ∀ (pins:List (Addr×Obj)) (s:Shared) (σ:St) (H:Hp) (Q:Option Int→Hp→Prop),Inv X pins σ H s→t σ H Q→
  wpAny (model X.prog X.w) X.A (evalPart e X.env) (fun u s'=>∃ o H',Inv X pins σ H' s'∧IsPart u o∧Q o H') X.xe s
noncomputable def Tm:TO:=fun _ H Q=>Q none H
noncomputable def ac8 (t:TE):TO:=fun σ H Q=>t σ H fun x H1=>∃ i,x= .int i∧Q (some i) H1
section
variable {X:Cx} {e:Expr} {te:TE} {lo hi:Option Expr} {tl th:TO} {pos p2:Pos}
theorem zb:PO X none Tm:=by
 intro pins s σ H Q I h
 rw [evalPart_none]
 exact wpAny_pure ⟨none,H,I,.none,h⟩
theorem qJ (h:PE X e te):PO X (some e) (ac8 te):=by
 intro pins s σ H Q I hw
 rw [evalPart_some]
 refine thn (h pins s σ H _ I hw) fun u s1 ⟨x,H1,I1,r1,q1⟩=>?_
 obtain ⟨i,rfl,q⟩:=q1
 obtain ⟨t,rfl⟩:=r1
 exact ⟨some i,H1,I1,.int i t,q⟩
noncomputable def SlR (X:Cx) (r:V→Option Int→Option Int→Hp→VK→Prop):Prop:=
 ∀ (pins:List (Addr×Obj)) (s:Shared) (σ:St) (H:Hp) (x:V) (v vl vu:Value) (lo hi:Option Int) (sl:Addr) (Q:VK),Inv X pins σ H s→RelV x v→s.heap.IsSliceOf sl vl vu .none→IsPart vl lo→IsPart vu hi→r x lo hi H Q→
  ∃ T id,typeLookup (.type T) "__getitem__"=pure (some (.builtin id))∧s.TypeIs v T∧wpAny (model X.prog X.w) X.A (getItem v (.ref sl)) (EP X pins σ Q) X.xe s
noncomputable def tSl (r:V→Option Int→Option Int→Hp→VK→Prop) (te:TE) (tl th:TO):TE:=fun σ H Q=>te σ H fun x H1=>tl σ H1 fun l H2=>th σ H2 fun u H3=>r x l u H3 Q
theorem o7 {r:V→Option Int→Option Int→Hp→VK→Prop} (hr:SlR X r) (he:PE X e te) (hl:PO X lo tl) (hu:PO X hi th):PE X (.Subscript e (.Slice lo hi none p2) pos) (tSl r te tl th):=by
 intro pins s σ H Q I h
 refine Subscript_ (thn (he pins s σ H _ I h) fun v s1 ⟨x,H1,I1,r1,q1⟩=>?_)
 refine wpAny_Slice (thn (hl pins s1 σ H1 _ I1 q1) fun vl s2 ⟨l,H2,I2,pl,q2⟩=>thn (hu pins s2 σ H2 _ I2 q2) fun vu s3 ⟨u,H3,I3,pu,q3⟩=>?_)
 rw [evalPart_none]
 refine wpAny_pure ?_
 have I4:Inv X pins σ H3 {s3 with heap:=s3.heap.push {cls:= .type "slice",data:= .fields #[vl,vu,.none]}}:=I3.kept (t':=s3.toks) fun b ob q=>Heap.get?_push_of_some _ q
 obtain ⟨T,id,hT,ht,hg⟩:=hr pins {s3 with heap:=s3.heap.push {cls:= .type "slice",data:= .fields #[vl,vu,.none]}} σ H3 x v vl vu l u s3.heap.objs.size Q I4 r1 (Heap.IsSliceOf.new ..) pl pu q3
 show wpAny (model X.prog X.w) X.A (subscriptTail e (.Slice lo hi none p2) v (.ref s3.heap.objs.size)) (EP X pins σ Q) X.xe {s3 with heap:=s3.heap.push {cls:= .type "slice",data:= .fields #[vl,vu,.none]}}
 exact tail_any (ops:=[.ref s3.heap.objs.size,v]) ht hT hg (by with_unfolding_all rfl)
noncomputable def cutV (xs:List V) (lo hi:Option Int):List V:=(xs.drop (HT.sIx xs.length 0 lo)).take (HT.sIx xs.length xs.length hi - HT.sIx xs.length 0 lo)
theorem Nr (xs:List V) (lo hi:Option Int):(cutV xs lo hi).length≤xs.length:=by
 unfold cutV
 rw [List.length_take,List.length_drop]
 omega
end
noncomputable def ixN (n:Nat) (i:Int):Option Nat:=if 0≤i then (if i < n then some i.toNat else none) else if -(n:Int)≤i then some (i + n).toNat else none
noncomputable def atI {α:Type} (xs:List α) (i:Int):Option α:=(ixN xs.length i).bind fun j=>xs[j]?
theorem Vt {n:Nat} {i:Int} {j:Nat} (h:ixN n i=some j):seqIndex? i n=some j∧j < n∧-(n:Int)≤i∧i < n:=by
 unfold ixN at h
 by_cases h0:0≤i
 ·rw [if_pos h0] at h
  by_cases h1:i < n
  ·rw [if_pos h1] at h
   have e:i.toNat=j:=Option.some.inj h
   exact ⟨by rw [seqIndex_of h0 h1,e],by omega,by omega,h1⟩
  ·rw [if_neg h1] at h;cases h
 ·rw [if_neg h0] at h
  by_cases h1: -(n:Int)≤i
  ·rw [if_pos h1] at h
   have e:(i + n).toNat=j:=Option.some.inj h
   exact ⟨by rw [seqIndex_neg (by omega) h1,e],by omega,h1,by omega⟩
  ·rw [if_neg h1] at h;cases h
theorem NQ {α:Type} {xs:List α} {i:Int} {v:α} (h:atI xs i=some v):∃ j,seqIndex? i xs.length=some j∧xs[j]? =some v∧j < xs.length∧-(xs.length:Int)≤i∧i < xs.length:=by
 unfold atI at h
 cases e:ixN xs.length i with
 | none=>rw [e] at h;cases h
 | some j=>
   rw [e] at h
   obtain ⟨h1,h2,h3,h4⟩:=Vt e
   exact ⟨j,h1,h,h2,h3,h4⟩
theorem fO {α:Type} {xs:List α} {j:Nat} {v:α} (h:xs[j]? =some v):atI xs (j:Int)=some v:=by
 have hj:j < xs.length:=(List.getElem?_eq_some_iff.mp h).1
 have e:ixN xs.length (j:Int)=some j:=by
  unfold ixN
  rw [if_pos (by omega),if_pos (by omega)];simp
 unfold atI;rw [e];exact h
noncomputable def acx (b:Expr):Prop:=∀ o i,subscripted b false o i=operate [o,i] (getItem o i)
noncomputable def IxR (X:Cx) (r:R2):Prop:=
 ∀ (value slice:Expr) (pins:List (Addr×Obj)) (s:Shared) (σ:St) (H:Hp) (x y:V) (v u:Value) (Q:VK),Inv X pins σ H s→RelV x v→RelV y u→r x y H Q→
  subscripted slice false v u=operate [v,u] (getItem v u)→wpAny (model X.prog X.w) X.A (subscriptTail value slice v u) (EP X pins σ Q) X.xe s
noncomputable def MtR (X:Cx) (id:String) (r:V→List V→Hp→VK→Prop):Prop:=
 ∀ (pins:List (Addr×Obj)) (s:Shared) (σ:St) (H:Hp) (x:V) (xs:List V) (v:Value) (us:List Value) (Q:VK),Inv X pins σ H s→RelV x v→Vals xs us→r x xs H Q→
  wpAny (model X.prog X.w) X.A (call (.builtin id) (v::us)) (EP X pins σ Q) X.xe s
section
variable {X:Cx} {a b:Expr} {ta tb:TE} {pos:Pos}
theorem bC {r:R2} (hr:IxR X r) (ha:PE X a ta) (hb:PE X b tb) (hs:acx b):PE X (.Subscript a b pos) (tOp r ta tb):=by
 intro pins s σ H Q I h
 exact Subscript_ (binT ha hb I h fun v u s2 x y H2 I2 rx ry q=>hr a b pins s2 σ H2 x y v u Q I2 rx ry q (hs _ _))
noncomputable def rIxL (K:PySem.W.Frag):R2:=fun x y H Q=>∃ p xs i v,x= .ref p∧y= .int i∧SqL K H p xs∧atI xs i=some v∧Q v H
noncomputable def rIxT (K:PySem.W.Frag):R2:=fun x y H Q=>∃ p xs i v,x= .ref p∧y= .int i∧SqT K H p xs∧atI xs i=some v∧Q v H
noncomputable def rIxS:R2:=fun x y H Q=>∃ z i c,x= .str z∧y= .int i∧z.length≤sizeLine∧atI z.cps.toList i=some c∧Q (.str ⟨#[c]⟩) H
theorem ab4:IxR X (rIxL X.K):=by
 intro value slice pins s σ H x y v u Q I rx ry h hs
 obtain ⟨p,xs,i,z,rfl,rfl,hq,he,q⟩:=h
 cases rx
 obtain ⟨t,rfl⟩:=ry
 obtain ⟨its,r,pl,hz⟩:=I.list hq
 obtain ⟨j,h1,h2,h3,h4,h5⟩:=NQ he
 obtain ⟨w,ew,rw'⟩:=r.get h2
 have hl:=r.length
 have hn:=Jt
 have fin:EP X pins σ Q w s:=⟨z,H,I,rw',q⟩
 by_cases h0:0≤i
 ·have hj:i.toNat=j:=by
   rw [seqIndex_of h0 h5] at h1
   exact Option.some.inj h1
  exact item_listR pl.isList h0 (by omega) (by rw [hj];simpa using ew) fin hs
 ·have hj:(i + (its.toArray.size:Int)).toNat=j:=by
   rw [seqIndex_neg (by omega) h4] at h1
   rw [List.size_toArray,← hl]
   exact Option.some.inj h1
  exact subscriptTail_builtinR (x:=w) pl.isList.typeIs slot_list_getitem.lookup
   (wpAny_getItem_list_neg (Q:=fun r s'=>r=w∧EP X pins σ Q r s') pl.isList (by omega) (by rw [List.size_toArray]<;>omega) (by omega) (by rw [hj];simpa using ew) ⟨rfl,fin⟩) hs
theorem aeF:IxR X (rIxT X.K):=by
 intro value slice pins s σ H x y v u Q I rx ry h hs
 obtain ⟨p,xs,i,z,rfl,rfl,hq,he,q⟩:=h
 cases rx
 obtain ⟨t,rfl⟩:=ry
 obtain ⟨its,r,pl,hz⟩:=I.tuple hq
 obtain ⟨j,h1,h2,h3,h4,h5⟩:=NQ he
 obtain ⟨w,ew,rw'⟩:=r.get h2
 have hl:=r.length
 have hn:=Jt
 have fin:EP X pins σ Q w s:=⟨z,H,I,rw',q⟩
 exact subscriptTail_builtinR (x:=w) pl.typeIs slot_tuple_getitem.lookup
  (getItem_tuple (j:=j) (Q:=fun r s'=>r=w∧EP X pins σ Q r s') pl (by omega) (by omega) (by rw [List.size_toArray,← hl];exact h1) (by simpa using ew) ⟨rfl,fin⟩) hs
theorem aap:IxR X rIxS:=by
 intro value slice pins s σ H x y v u Q I rx ry h hs
 obtain ⟨z,i,c,rfl,rfl,hz,he,q⟩:=h
 obtain ⟨t,rfl⟩:=rx
 obtain ⟨t',rfl⟩:=ry
 obtain ⟨j,h1,h2,h3,h4,h5⟩:=NQ he
 have hl:z.cps.toList.length=z.length:=by simp [Str.length]
 rw [hl] at h1 h4 h5
 have hn:=Jt
 exact tail_any (typeIs_str s z t) slot_str_getitem.lookup (getItem_str (c:=c) (by
  have e1:decide (i < -(2 ^ 63:Int))=false:=decide_eq_false (by omega)
  have e2:decide (i≥2 ^ 63)=false:=decide_eq_false (by omega)
  rw [e1,e2,Bool.or_false]) (by rw [h1];simpa using h2) ⟨.str ⟨#[c]⟩,H,I.tok _,⟨_,rfl⟩,q⟩) hs
theorem QW (its:List Value) (n j:Nat) (u:Value):Obj.mapSeq (·.setIfInBounds j u) {cls:= .type "list",data:= .seq its.toArray n}={cls:= .type "list",data:= .seq (its.set j u).toArray n}:=by
 simp [Obj.mapSeq]
theorem Inv.lst {pins:List (Addr×Obj)} {σ:St} {H:Hp} {s:Shared} {p:Addr} {xs:List V} (I:Inv X pins σ H s) (h:H p=some (.lst xs)):
  ∃ (its:List Value) (n:Nat),Vals xs its∧s.heap.get? p=some {cls:= .type "list",data:= .seq its.toArray n}∧xs.length≤sizeLine:=by
 obtain ⟨z,its,n,r,e⟩:=I.hok p _ h
 exact ⟨its,n,r,e,z⟩
theorem Inv.lstUpd {pins:List (Addr×Obj)} {σ:St} {H:Hp} {s:Shared} {p:Addr} {xs ys:List V} {its its':List Value} {n n':Nat} {f:Obj→Obj} (I:Inv X pins σ H s) (h:H p=some (.lst xs))
  (ho:s.heap.get? p=some {cls:= .type "list",data:= .seq its.toArray n}) (hf:f {cls:= .type "list",data:= .seq its.toArray n}={cls:= .type "list",data:= .seq its'.toArray n'}) (r:Vals ys its') (hz:ys.length≤sizeLine) (t:Nat):
  Inv X pins σ (upd H p (.lst ys)) {s with heap:=s.heap.update p f,toks:=t}:=by
 have e:(s.heap.update p f).get? p=some {cls:= .type "list",data:= .seq its'.toArray n'}:=by
  rw [Heap.get?_update_self f ho (by rw [hf]<;>rfl),hf]
 refine I.write (x:=p) (e:=p) (by rw [h];trivial) (.inl rfl) (fun b u hb q=>(Heap.get?_update_other _ _ (Ne.symm hb)).trans q) ⟨_,e⟩ ?_
 exact ⟨hz,its',n',r,e⟩
noncomputable def adV:V→V→V→Hp→(Hp→Prop)→Prop:=fun o i v H Q=>∃ p xs k j,o= .ref p∧i= .int k∧H p=some (.lst xs)∧ixN xs.length k=some j∧Q (upd H p (.lst (xs.set j v)))
theorem X2:PSet X adV:=by
 intro pins s σ H o i v ov iv u Q I ro ri rv h
 obtain ⟨p,xs,k,j,rfl,rfl,hp,hj,q⟩:=h
 cases ro
 obtain ⟨t,rfl⟩:=ri
 obtain ⟨its,n,r,ho,hz⟩:=I.lst hp
 obtain ⟨h1,h2,h3,h4⟩:=Vt hj
 have hl:=r.length
 have hn:=Jt
 have I':Inv X pins σ (upd H p (.lst (xs.set j v))) {s with heap:=s.heap.update p (Obj.mapSeq (·.setIfInBounds j u))}:=
  I.lstUpd hp ho (QW its n j u) (r.set rv j) (by rw [List.length_set];exact hz) s.toks
 by_cases h0:0≤k
 ·have hk:k.toNat=j:=by
   rw [seqIndex_of h0 h4] at h1
   exact Option.some.inj h1
  exact PySem.W.ki_setAt ho h0 (by omega) (by rw [List.size_toArray,← hl];exact h4) (by rw [hk];exact ⟨_,I',q⟩)
 ·have hk:(k + (its.toArray.size:Int)).toNat=j:=by
   rw [seqIndex_neg (by omega) h3] at h1
   rw [List.size_toArray,← hl]
   exact Option.some.inj h1
  exact PySem.W.ki_setBack ho (by omega) (by rw [List.size_toArray,← hl];exact h3) (by omega) (by rw [hk];exact ⟨_,I',q⟩)
theorem Ib (lo hi:Option Int) (n:Nat):(sliceBounds lo hi none n).1=((HT.sIx n 0 lo:Nat):Int)∧(sliceBounds lo hi none n).2.1=((HT.sIx n n hi:Nat):Int)∧(sliceBounds lo hi none n).2.2=1:=by
 refine ⟨?_,?_,rfl⟩
 ·cases lo with
  | none=>simp [sliceBounds,HT.sIx]
  | some i=>
    simp only [sliceBounds,HT.sIx,Option.getD_none,show (1:Int) > 0 by decide,if_true]
    by_cases h:i < 0
    ·simp only [h,if_true]<;>omega
    ·simp only [h,if_false]<;>omega
 ·cases hi with
  | none=>simp [sliceBounds,HT.sIx]
  | some i=>
    simp only [sliceBounds,HT.sIx,Option.getD_none,show (1:Int) > 0 by decide,if_true]
    by_cases h:i < 0
    ·simp only [h,if_true]<;>omega
    ·simp only [h,if_false]<;>omega
theorem Fv (its:List Value) (lo hi:Option Int):slicePick its.toArray lo hi none=((its.drop (HT.sIx its.length 0 lo)).take (HT.sIx its.length its.length hi - HT.sIx its.length 0 lo)).toArray:=by
 obtain ⟨h1,h2,h3⟩:=Ib lo hi its.toArray.size
 unfold slicePick
 rw [h1,h2,h3]
 simp only [sliceRange_one,pick_run,List.size_toArray]<;>rfl
noncomputable def rSlL (K:PySem.W.Frag):V→Option Int→Option Int→Hp→VK→Prop:=fun x lo hi H Q=>∃ a xs,x= .ref a∧SqL K H a xs∧∀ p,H p=none→Q (.ref p) (upd H p (.lst (cutV xs lo hi)))
theorem abe:SlR X (rSlL X.K):=by
 intro pins s σ H x v vl vu lo hi sl Q I rx hs pl pu h
 obtain ⟨a,xs,rfl,hx,q⟩:=h
 cases rx
 obtain ⟨its,r,ht,hz⟩:=I.list hx
 have hlen:=r.length
 refine ⟨"list",_,slot_list_getitem.lookup,ht.isList.typeIs,?_⟩
 refine wpAny_getItem_list_slice ht.isList hs pl pu .none (by simp) ?_ (by rw [List.size_toArray]<;>omega)
 rw [Fv,← hlen]
 refine ⟨.ref s.heap.objs.size,_,I.laid (t':=s.toks) (o:= .lst (cutV xs lo hi)) (fun b ob q=>Heap.get?_push_of_some _ q) (Nat.le_refl _) ?_,rfl,q _ (I.hok.fresh (Nat.le_refl _))⟩
 exact ⟨Nat.le_trans (Nr xs lo hi) hz,_,0,(r.drop (HT.sIx xs.length 0 lo)).take (HT.sIx xs.length xs.length hi - HT.sIx xs.length 0 lo),Heap.get?_push_size _ rfl⟩
noncomputable def ox:V→Bool
 | .non=>true
 | .bl _=>true
 | .int _=>true
 | .str _=>true
 | _=>false
noncomputable def eqV:V→V→Bool
 | .non,.non=>true
 | .bl a,.bl b=>a == b
 | .bl a,.int b=>(if a then 1 else 0) == b
 | .int a,.bl b=>a == (if b then 1 else 0)
 | .int a,.int b=>a == b
 | .str a,.str b=>a == b
 | _,_=>false
theorem aaw {A:Around} {s:Shared} {y x:V} {u v:Value} (ry:RelV y u) (rx:RelV x v) (fy:ox y=true) (fx:ox x=true):SeqAt.EqAt A s u v (eqV y x):=by
 cases y with
 | non=>
   cases ry
   cases x with
   | non=>cases rx;exact SeqAt.EqAt.same _
   | bl b=>cases rx;exact SeqAt.EqAt.none_bool b
   | int b=>obtain ⟨t,rfl⟩:=rx;exact SeqAt.EqAt.none_int b t
   | str b=>obtain ⟨t,rfl⟩:=rx;exact SeqAt.EqAt.none_str b t
   | _=>exact absurd (show false=true from fx) Bool.false_ne_true
 | bl a=>
   cases ry
   cases x with
   | non=>cases rx;exact SeqAt.EqAt.bool_none a
   | bl b=>cases rx;exact SeqAt.EqAt.bool_bool a b
   | int b=>obtain ⟨t,rfl⟩:=rx;exact SeqAt.EqAt.bool_int a b t
   | str b=>obtain ⟨t,rfl⟩:=rx;exact SeqAt.EqAt.bool_str a b t
   | _=>exact absurd (show false=true from fx) Bool.false_ne_true
 | int a=>
   obtain ⟨t',rfl⟩:=ry
   cases x with
   | non=>cases rx;exact SeqAt.EqAt.int_none a t'
   | bl b=>cases rx;exact SeqAt.EqAt.int_bool a t' b
   | int b=>obtain ⟨t,rfl⟩:=rx;exact SeqAt.EqAt.int_int a t' b t
   | str b=>obtain ⟨t,rfl⟩:=rx;exact SeqAt.EqAt.int_str a t' b t
   | _=>exact absurd (show false=true from fx) Bool.false_ne_true
 | str a=>
   obtain ⟨t',rfl⟩:=ry
   cases x with
   | non=>cases rx;exact SeqAt.EqAt.str_none a t'
   | bl b=>cases rx;exact SeqAt.EqAt.str_bool a t' b
   | int b=>obtain ⟨t,rfl⟩:=rx;exact SeqAt.EqAt.str_int a t' b t
   | str b=>obtain ⟨t,rfl⟩:=rx;exact SeqAt.EqAt.str_str a t' b t
   | _=>exact absurd (show false=true from fx) Bool.false_ne_true
 | _=>exact absurd (show false=true from fy) Bool.false_ne_true
noncomputable def eqU (x:V) (u:Value):Bool:=match u with
 | .none=>eqV .non x
 | .bool b=>eqV (.bl b) x
 | .int i _=>eqV (.int i) x
 | .str z _=>eqV (.str z) x
 | _=>false
theorem aau {x y:V} {u:Value} (r:RelV y u) (f:ox y=true):eqU x u=eqV y x:=by
 cases y with
 | non=>cases r;rfl
 | bl b=>cases r;rfl
 | int i=>obtain ⟨t,rfl⟩:=r;rfl
 | str z=>obtain ⟨t,rfl⟩:=r;rfl
 | _=>exact absurd (show false=true from f) Bool.false_ne_true
theorem BE {x:V}:∀ {xs:List V} {us:List Value},Vals xs us→xs.all ox=true→us.any (eqU x)=xs.any fun y=>eqV y x
 | _,_,.nil,_=>rfl
 | y::xs,u::us,.cons r t,f=>by
   rw [List.all_cons,Bool.and_eq_true] at f
   rw [List.any_cons,List.any_cons,aau r f.1,BE t f.2]
theorem sG {A:Around} {s:Shared} {x:V} {v:Value} (rx:RelV x v) (fx:ox x=true):∀ {xs:List V} {us:List Value},Vals xs us→xs.all ox=true→∀ u∈us,SeqAt.EqAt A s u v (eqU x u)
 | _,_,.nil,_=>fun u hu=>by cases hu
 | y::xs,u::us,.cons r t,f=>fun u' hu=>by
   rw [List.all_cons,Bool.and_eq_true] at f
   rcases List.mem_cons.mp hu with rfl | hu
   ·rw [aau r f.1];exact aaw r rx f.1 fx
   ·exact sG rx fx t f.2 u' hu
noncomputable def inV (x:V) (xs:List V):Bool:=xs.any fun y=>eqV y x
noncomputable def rIn (K:PySem.W.Frag) (neg:Bool):R2:=fun x y H Q=>∃ p xs,y= .ref p∧(SqL K H p xs∨SqT K H p xs)∧ox x=true∧xs.all ox=true∧Q (.bl (if neg then !inV x xs else inV x xs)) H
theorem Uv:OpR X (compareOp .In) (rIn X.K false):=by
 intro pins s σ H x y v u Q I rx ry h
 obtain ⟨p,xs,rfl,hq,fx,fs,q⟩:=h
 cases ry
 rcases hq with hq | hq
 ·obtain ⟨its,r,pl,hz⟩:=I.list hq
  refine SeqAt.in_listAt (eqU x) pl.isList (fun w hw=>sG rx fx r fs w (by simpa using hw)) ⟨.bl _,H,I,rfl,?_⟩
  rw [show its.toArray.any (eqU x)=its.any (eqU x) by simp,BE r fs]
  exact q
 ·obtain ⟨its,r,pl,hz⟩:=I.tuple hq
  refine SeqAt.in_tupleAt (eqU x) pl (fun w hw=>sG rx fx r fs w (by simpa using hw)) ⟨.bl _,H,I,rfl,?_⟩
  rw [show its.toArray.any (eqU x)=its.any (eqU x) by simp,BE r fs]
  exact q
theorem IK:OpR X (compareOp .NotIn) (rIn X.K true):=by
 intro pins s σ H x y v u Q I rx ry h
 obtain ⟨p,xs,rfl,hq,fx,fs,q⟩:=h
 cases ry
 rcases hq with hq | hq
 ·obtain ⟨its,r,pl,hz⟩:=I.list hq
  refine SeqAt.notIn_listAt (eqU x) pl.isList (fun w hw=>sG rx fx r fs w (by simpa using hw)) ⟨.bl _,H,I,rfl,?_⟩
  rw [show its.toArray.any (eqU x)=its.any (eqU x) by simp,BE r fs]
  exact q
 ·obtain ⟨its,r,pl,hz⟩:=I.tuple hq
  refine SeqAt.notIn_tupleAt (eqU x) pl (fun w hw=>sG rx fx r fs w (by simpa using hw)) ⟨.bl _,H,I,rfl,?_⟩
  rw [show its.toArray.any (eqU x)=its.any (eqU x) by simp,BE r fs]
  exact q
theorem Kg:rP X (.type "list") (fun xs H Q=>∃ p ys,xs=[.ref p]∧(SqL X.K H p ys∨SqT X.K H p ys)∧∀ l,H l=none→Q (.ref l) (upd H l (.lst ys))):=by
 intro pins s σ H xs us Q I r h
 obtain ⟨p,ys,rfl,hq,q⟩:=h
 obtain ⟨u,rfl,rx⟩:=yL r
 cases rx
 have fin:∀ (its:List Value),Vals ys its→ys.length≤sizeLine→∀ (h':Heap) (c':Nat),(∀ b o',s.heap.get? b=some o'→h'.get? b=some o')→
   h'.get? s.heap.objs.size=some {cls:= .type "list",dict:=none,data:= .seq its.toArray c',slots:=#[]}→EP X pins σ Q (.ref s.heap.objs.size) {s with heap:=h'}:=fun its r' hz h' c' kp e=>
  ⟨.ref s.heap.objs.size,_,I.laid (t':=s.toks) kp (Nat.le_refl _) (show gI X.prog X.w _ h' _ (.lst ys) from ⟨hz,its,c',r',e⟩),rfl,q _ (I.hok.fresh (Nat.le_refl _))⟩
 rcases hq with hq | hq
 ·obtain ⟨its,r',pl,hz⟩:=I.list hq
  have hlen:=r'.length
  obtain ⟨o,ho,hc,n,hd⟩:=pl.isList
  exact call_list_seq p (.inl rfl) ho hc hd (fun h' c' kp e=>fin its r' hz h' c' kp e) (by simp only [List.size_toArray]<;>omega)
 ·obtain ⟨its,r',pl,hz⟩:=I.tuple hq
  have hlen:=r'.length
  obtain ⟨o,ho,hc,n,hd⟩:=pl
  exact call_list_seq p (.inr rfl) ho hc hd (fun h' c' kp e=>fin its r' hz h' c' kp e) (by simp only [List.size_toArray]<;>omega)
theorem Hh:rP X (.type "tuple") (fun xs H Q=>∃ p ys,xs=[.ref p]∧((SqL X.K H p ys∧∀ l,H l=none→Q (.ref l) (upd H l (.tup ys)))∨(SqT X.K H p ys∧Q (.ref p) H))):=by
 intro pins s σ H xs us Q I r h
 obtain ⟨p,ys,rfl,h⟩:=h
 obtain ⟨u,rfl,rx⟩:=yL r
 cases rx
 rcases h with ⟨hq,q⟩ | ⟨hq,q⟩
 ·obtain ⟨its,r',pl,hz⟩:=I.list hq
  have hlen:=r'.length
  refine call_tuple_list pl.isList (fun h' kp=>?_) (by simp only [List.size_toArray]<;>omega)
  have I1:Inv X pins σ H {s with heap:=h'}:=I.kept (t':=s.toks) kp
  have I2:Inv X pins σ (upd H h'.objs.size (.tup ys)) {s with heap:=h'.push {cls:= .type "tuple",data:= .seq its.toArray}}:=
   I1.laid (t':=s.toks) (fun b o e=>Heap.get?_push_of_some _ e) (Nat.le_refl _) (show gI X.prog X.w _ _ _ (.tup ys) from ⟨hz,its,r',IsTup.new _ _⟩)
  exact ⟨.ref h'.objs.size,_,I2,rfl,q _ (I1.hok.fresh (Nat.le_refl _))⟩
 ·obtain ⟨its,r',pl,hz⟩:=I.tuple hq
  exact call_tuple_same pl ⟨.ref p,H,I,rfl,q⟩
noncomputable def tyV (K:PySem.W.Frag) (T:String) (x:V) (H:Hp):Prop:=match x with
 | .str _=>T="str"
 | .int _=>T="int"
 | .ref p=>(T="list"∧∃ xs,SqL K H p xs)∨(T="tuple"∧∃ o,K.lookup p=some o∧o.cls= .type "tuple"∧o.dict=none)∨
   (T="dict"∧((∃ kvs,H p=some (.dK kvs))∨∃ kvs,H p=some (.dT kvs)))∨(T="set"∧∃ S n,H p=some (.set S n))
 | _=>False
theorem ZG {pins:List (Addr×Obj)} {σ:St} {H:Hp} {s:Shared} {T:String} {x:V} {v:Value} (I:Inv X pins σ H s) (r:RelV x v) (ty:tyV X.K T x H):
  s.TypeIs v T∧∀ a,v= .ref a→∃ ob,s.heap.get? a=some ob∧ob.dict=none:=by
 cases x with
 | str z=>
   obtain ⟨t,rfl⟩:=r
   cases (show T="str" from ty)
   exact ⟨typeIs_str s z t,fun _ e=>nomatch e⟩
 | int i=>
   obtain ⟨t,rfl⟩:=r
   cases (show T="int" from ty)
   exact ⟨typeIs_int s i t,fun _ e=>nomatch e⟩
 | ref p=>
   cases r
   rcases ty with ⟨rfl,xs,hq⟩ | ⟨rfl,o,hk,hc,hd⟩ | ⟨rfl,hk⟩ | ⟨rfl,S,n,hk⟩
   ·obtain ⟨its,_,pl,_⟩:=I.list hq
    refine ⟨pl.isList.typeIs,fun a e=>?_⟩
    cases e
    obtain ⟨o,n,e,c,hd,_⟩:=pl
    exact ⟨o,e,hd⟩
   ·refine ⟨⟨o,I.kIn p o hk,hc⟩,fun a e=>?_⟩
    cases e
    exact ⟨o,I.kIn _ o hk,hd⟩
   ·have z:∃ o,s.heap.get? p=some o∧o.ExactDict:=by
     rcases hk with ⟨kvs,hk⟩ | ⟨kvs,hk⟩
     ·obtain ⟨_,_,_,_,o,_,_,e,ex,_⟩:=I.hok p _ hk
      exact ⟨o,e,ex⟩
     ·obtain ⟨_,_,_,_,o,_,_,e,ex,_⟩:=I.hok p _ hk
      exact ⟨o,e,ex⟩
    obtain ⟨o,e,ex⟩:=z
    refine ⟨⟨o,e,ex.1⟩,fun a e2=>?_⟩
    cases e2
    exact ⟨o,e,ex.2.1⟩
   ·obtain ⟨o,_,_,_,e,ex,_⟩:=I.hok p _ hk
    refine ⟨⟨o,e,ex.1⟩,fun a e2=>?_⟩
    cases e2
    exact ⟨o,e,ex.2.1⟩
 | _=>exact False.elim ty
noncomputable def tBM0 (K:PySem.W.Frag) (T:String) (r:V→List V→Hp→VK→Prop) (to:TE):TE:=fun σ H Q=>to σ H fun x H1=>tyV K T x H1∧r x [] H1 Q
noncomputable def tBM (K:PySem.W.Frag) (T:String) (r:V→List V→Hp→VK→Prop) (to:TE) (t:TA):TE:=fun σ H Q=>to σ H fun x H1=>tyV K T x H1∧t σ H1 fun xs H2=>r x xs H2 Q
variable {o e:Expr} {es:List Expr} {to:TE} {t:TA} {name:Str} {apos cpos:Pos} {T id:String} {r:V→List V→Hp→VK→Prop}
theorem aed (pa:PlainAttrs T) (slot:Slot T name id) (hty:typeOf (.builtin id)=pure (.type "method_descriptor")) (hm:MtR X id r) (ho:PE X o to)
  (hbase:attributeBase o name X.env (eval o X.env)=eval o X.env:=by rfl) (hline:(apos.endLine == cpos.line)=true:=by rfl):PE X (.Call (.Attribute o name apos) [] [] cpos) (tBM0 X.K T r to):=by
 intro pins s σ H Q I h
 refine wpAny_Call_method0_late hbase hline (thn (ho pins s σ H _ I h) fun v s1 ⟨x,H1,I1,r1,ty,q1⟩=>?_)
 obtain ⟨h1,h2⟩:=ZG I1 r1 ty
 exact ⟨T,id,pa,slot,hty,h1,h2,Calls.callWith_builtin rfl (PySem.evalArgs_none (hm pins s1 σ H1 x [] v [] Q I1 r1 .nil q1))⟩
theorem afU (pa:PlainAttrs T) (slot:Slot T name id) (hty:typeOf (.builtin id)=pure (.type "method_descriptor")) (hm:MtR X id r) (ho:PE X o to) (ha:PA X (e::es) t)
  (hbase:attributeBase o name X.env (eval o X.env)=eval o X.env:=by rfl)
  (hfew:((backTo cpos (starEach (e::es) X.env)).all (fun x=> !x.1)&&(backToKw cpos (keywordEach [] X.env)).all (fun x=>x.1.isSome)
   &&decide ((e::es).length + ([]:List Keyword).length + (if ([]:List Keyword).isEmpty then 0 else 1) < 30))=true:=by rfl)
  (hline:(apos.endLine == cpos.line)=true:=by rfl) (hs:starEach (e::es) X.env=(false,eval e X.env)::starEach es X.env:=by rfl) (hplain:(backTo cpos (starEach es X.env)).any (·.1)=false:=by rfl):
  PE X (.Call (.Attribute o name apos) (e::es) [] cpos) (tBM X.K T r to t):=by
 intro pins s σ H Q I h
 refine wpAny_Call_method_late hbase hfew hline rfl (thn (ho pins s σ H _ I h) fun v s1 ⟨x,H1,I1,r1,ty,q1⟩=>?_)
 obtain ⟨h1,h2⟩:=ZG I1 r1 ty
 refine ⟨T,id,pa,slot,hty,h1,h2,?_⟩
 have hA:=ha cpos pins s1 σ H1 _ I1 q1
 rw [hs] at hA ⊢
 refine Calls.callWith_builtin (by show (false||(backTo cpos (starEach es X.env)).any (·.1))=false;rw [hplain]<;>rfl) (Calls.evalArgs_plain ?_)
 exact thn hA fun us s2 ⟨vs,H2,I2,r2,q2⟩=>hm pins s2 σ H2 x vs v us Q I2 r1 r2 q2
end
noncomputable def MtM (X:Cx) (id:String) (r:V→List V→Hp→VK→Prop):Prop:=
 ∀ (pins:List (Addr×Obj)) (s:Shared) (σ:St) (H:Hp) (x:V) (xs:List V) (v:Value) (us:List Value) (Q:VK),Inv X pins σ H s→RelV x v→Vals xs us→r x xs H Q→
  wpAny (model X.prog X.w) X.A (call (.builtin id) (v::us)) (EP X pins σ Q) X.xe s
theorem Vals.one:∀ {x:V} {us:List Value},Vals [x] us→∃ u,us=[u]∧RelV x u
 | _,_,.cons r .nil=>⟨_,rfl,r⟩
theorem Vals.two:∀ {x y:V} {us:List Value},Vals [x,y] us→∃ u v,us=[u,v]∧RelV x u∧RelV y v
 | _,_,_,.cons r (.cons q .nil)=>⟨_,_,rfl,r,q⟩
theorem Vals.reverse {xs:List V} {us:List Value} (h:Vals xs us):Vals xs.reverse us.reverse:=by
 induction h with
 | nil=>exact .nil
 | cons r t ih=>rw [List.reverse_cons,List.reverse_cons];exact Vals.append ih (.cons r .nil)
theorem Vals.rep {xs:List V} {us:List Value} (h:Vals xs us):∀ k:Nat,Vals (List.replicate k xs).flatten (List.replicate k us).flatten
 | 0=> .nil
 | k + 1=>by
   rw [List.replicate_succ,List.replicate_succ,List.flatten_cons,List.flatten_cons]
   exact Vals.append h (Vals.rep h k)
theorem JR (its:List Value):∀ (k:Nat) (acc:List Value),
  List.foldl (fun x1 x2=>x1++x2) acc.toArray (List.replicate k its.toArray)=(acc++(List.replicate k its).flatten).toArray
 | 0,acc=>by simp
 | k + 1,acc=>by
   have e:acc.toArray++its.toArray=(acc++its).toArray:=by simp
   have e2:(acc++its)++(List.replicate k its).flatten=acc++(List.replicate (k + 1) its).flatten:=by
    rw [List.replicate_succ,List.flatten_cons,List.append_assoc]
   rw [← e2,← JR its k (acc++its),← e,List.replicate_succ,List.foldl_cons]
section
variable {X:Cx} {pins:List (Addr×Obj)} {σ:St} {H:Hp} {s:Shared} {l b:Addr} {xs ys zs:List V}
theorem Inv.lset {its its':List Value} {n:Nat} {f:Array Value→Array Value} {t':Nat} (I:Inv X pins σ H s) (hH:H l=some (.lst xs))
  (e:s.heap.get? l=some {cls:= .type "list",data:= .seq its.toArray n}) (hf:f its.toArray=its'.toArray) (hv:Vals ys its') (hz:ys.length≤sizeLine):
  Inv X pins σ (upd H l (.lst ys)) {s with heap:=s.heap.update l (Obj.mapSeq f),toks:=t'}:=by
 have q:=PySem.IsL.update e f
 rw [hf] at q
 refine I.write (x:=l) (e:=l) (by rw [hH];exact trivial) (.inl rfl) (fun b' u hb hu=>(Heap.get?_update_other s.heap (Obj.mapSeq f) (Ne.symm hb)).trans hu) ⟨_,q⟩ ?_
 exact ⟨hz,its',_,hv,q⟩
theorem Inv.lnew {its:List Value} {t':Nat} (I:Inv X pins σ H s) (hv:Vals ys its) (hz:ys.length≤sizeLine):
  Inv X pins σ (upd H s.heap.objs.size (.lst ys)) {s with heap:=s.heap.push {cls:= .type "list",data:= .seq its.toArray},toks:=t'}:=
 I.laid (fun _ _ q=>Heap.get?_push_of_some _ q) (Nat.le_refl _) ⟨hz,its,0,hv,Heap.get?_push_size _ rfl⟩
theorem Inv.fresh (I:Inv X pins σ H s):H s.heap.objs.size=none:=I.hok.fresh (Nat.le_refl _)
theorem Inv.lstM (I:Inv X pins σ H s) (hH:H l=some (.lst xs)):xs.length≤sizeLine∧∃ (its:List Value) (n:Nat),Vals xs its∧xs.length=its.length∧s.heap.get? l=some {cls:= .type "list",data:= .seq its.toArray n}:=by
 obtain ⟨z,its,n,r,e⟩:=I.hok l _ hH
 exact ⟨z,its,n,r,r.length,e⟩
theorem OF {n:Nat} (h:n≤sizeLine):Builtin.List.listTooLong n=false:=by
 unfold Builtin.List.listTooLong
 exact decide_eq_false (by omega)
end
section
variable {X:Cx}
noncomputable def T6:V→List V→Hp→VK→Prop:=fun x vs H Q=>∃ l xs y,x= .ref l∧vs=[y]∧H l=some (.lst xs)∧xs.length < sizeLine∧Q .non (upd H l (.lst (xs++[y])))
theorem lF:MtM X "list.append" T6:=by
 intro pins s σ H x vs v us Q I rx rv h
 obtain ⟨l,xs,y,rfl,rfl,hH,hz,q⟩:=h
 cases rx
 obtain ⟨u,rfl,ru⟩:=rv.one
 obtain ⟨z,its,n,r,hl,e⟩:=I.lstM hH
 refine call_meets F.slot_list_append ⟨_,e,rfl⟩ F.entry_list_append (F.args_list_append_2 _ _) (PySem.list_append l its.toArray n u (by rw [List.size_toArray];omega)) ⟨e,?_⟩
 refine ⟨.non,_,I.lset (its':=its++[u]) hH e (by simp) (r.append (.cons ru .nil)) ?_,rfl,q⟩
 rw [List.length_append,List.length_singleton]
 omega
noncomputable def T5:V→List V→Hp→VK→Prop:=fun x vs H Q=>∃ l b xs zs,x= .ref l∧vs=[.ref b]∧H l=some (.lst xs)∧H b=some (.lst zs)∧xs.length + zs.length≤sizeLine∧Q .non (upd H l (.lst (xs++zs)))
theorem lE:MtM X "list.extend" T5:=by
 intro pins s σ H x vs v us Q I rx rv h
 obtain ⟨l,b,xs,zs,rfl,rfl,hH,hB,hz,q⟩:=h
 cases rx
 obtain ⟨u,rfl,ru⟩:=rv.one
 cases ru
 obtain ⟨z,its,n,r,hl,e⟩:=I.lstM hH
 obtain ⟨z2,its2,n2,r2,hl2,e2⟩:=I.lstM hB
 have hsz:its.toArray.size + its2.toArray.size≤sizeLine:=by rw [List.size_toArray,List.size_toArray];omega
 have hlong:¬ (!its.toArray.isEmpty&&Builtin.List.listTooLong (its.toArray.size + its2.toArray.size))=true:=by
  rw [OF hsz,Bool.and_false]
  exact Bool.false_ne_true
 refine call_meets F.slot_list_extend ⟨_,e,rfl⟩ F.entry_list_extend (F.args_list_extend_2 _ _)
  (AutoSeq1.list_extend_list_list_0 l its.toArray n b its2.toArray n2 hlong (by rw [List.size_toArray];omega) (by omega)) ⟨e,e2,?_⟩
 refine ⟨.non,_,I.lset (its':=its++its2) hH e (by simp) (r.append r2) ?_,rfl,q⟩
 rw [List.length_append]
 omega
noncomputable def rCat:R2:=fun x y H Q=>∃ l b xs zs,x= .ref l∧y= .ref b∧H l=some (.lst xs)∧H b=some (.lst zs)∧xs.length + zs.length≤sizeLine∧∀ p,H p=none→Q (.ref p) (upd H p (.lst (xs++zs)))
theorem lg:OpR X (binaryOp .Add) rCat:=by
 intro pins s σ H x y v u Q I rx ry h
 obtain ⟨l,b,xs,zs,rfl,rfl,hH,hB,hz,q⟩:=h
 cases rx
 cases ry
 obtain ⟨z,its,n,r,hl,e⟩:=I.lstM hH
 obtain ⟨z2,its2,n2,r2,hl2,e2⟩:=I.lstM hB
 refine PySem.P.add_list e e2 ?_ (by rw [List.size_toArray,List.size_toArray];omega)
 have ea:its.toArray++its2.toArray=(its++its2).toArray:=by simp
 rw [ea]
 exact ⟨.ref _,_,I.lnew (t':=s.toks) (r.append r2) (by rw [List.length_append];omega),rfl,q _ I.fresh⟩
noncomputable def rRep:R2:=fun x y H Q=>∃ l k xs,x= .ref l∧y= .int k∧H l=some (.lst xs)∧-(2 ^ 63)≤k∧k < 2 ^ 63∧xs.length * k.toNat≤sizeLine∧
 ∀ p,H p=none→Q (.ref p) (upd H p (.lst (List.replicate k.toNat xs).flatten))
theorem abY {α:Type} (xs:List α) (k:Nat):(List.replicate k xs).flatten.length=k * xs.length:=by
 induction k with
 | zero=>simp
 | succ k ih=>rw [List.replicate_succ,List.flatten_cons,List.length_append,ih,Nat.succ_mul,Nat.add_comm]
theorem Z9:OpR X (binaryOp .Mult) rRep:=by
 intro pins s σ H x y v u Q I rx ry h
 obtain ⟨l,k,xs,rfl,rfl,hH,h1,h2,hz,q⟩:=h
 cases rx
 obtain ⟨t,rfl⟩:=ry
 obtain ⟨z,its,n,r,hl,e⟩:=I.lstM hH
 have hlen:its.toArray.size * k.toNat≤sizeLine:=by rw [List.size_toArray,← hl];exact hz
 have hcap:¬ its.toArray.size * k.toNat > (2 ^ 63 - 1) / 8:=by
  have:(sizeLine:Nat)≤(2 ^ 63 - 1) / 8:=by decide
  omega
 have hfit:¬ (!Builtin.List.listFitsIndex k)=true:=by
  rw [fitsIndex_both h1 h2]
  exact Bool.false_ne_true
 have hlong:¬ Builtin.List.listTooLong (its.toArray.size * k.toNat)=true:=by
  rw [OF hlen]
  exact Bool.false_ne_true
 have hnew:List.foldl (fun x1 x2=>x1++x2) #[] (List.replicate (if its.toArray.isEmpty=true then 0 else k.toNat) its.toArray)=(List.replicate k.toNat its).flatten.toArray:=by
  have f0:∀ m:Nat,List.foldl (fun x1 x2=>x1++x2) #[] (List.replicate m its.toArray)=(List.replicate m its).flatten.toArray:=fun m=>by
   have:=JR its m []
   rw [List.nil_append] at this
   exact this
  rw [f0]
  cases its with
  | nil=>simp
  | cons a r'=>rw [if_neg (by simp)]
 refine wpAny_binaryOp_repeat_ref (T:="list") (U:="int") (by decide) ⟨_,e,rfl⟩ (fun s'=>typeIs_int s' k t) noFill_list_mul F.fills_int_mul F.slot_int_rmul repeat_list F.slot_int_index.lookup
  (call_meets F.slot_int_rmul (typeIs_int s k t) F.entry_int_rmul (F.args_int_rmul_2 _ _) (int___rmul___int_list k t l its.toArray n)
   ⟨e,rfl,⟨_,e,rfl⟩,call_meets F.slot_list_mul ⟨_,e,rfl⟩ F.entry_list_mul (F.args_list_mul_2 _ _) (AutoListH.list___mul___list_int_3 l its.toArray n k t hfit hcap hlong) ⟨e,?_⟩⟩)
 rw [hnew]
 exact ⟨.ref _,_,I.lnew (t':=s.toks) (r.rep k.toNat) (by rw [abY,Nat.mul_comm];exact hz),rfl,q _ I.fresh⟩
end
end L2
namespace Att
open PySem PySem.W PySem.Calls PyProof.Rows
theorem AI {P:Params} {h:Heap}:∀ (ns:List Int) (vs:List Value),WellAll P h vs (ns.map WData.int)→IntsAre vs ns:=by
 intro ns
 induction ns with
 | nil=>
   intro vs w
   rw [List.map_nil] at w
   cases w
   exact .nil
 | cons n ns ih=>
   intro vs w
   rw [List.map_cons] at w
   cases w with
   | cons a b=>
     cases a
     exact .cons _ _ (ih _ b)
theorem TU {l:OpenLaw} {n:Nat} (hn:l.most=some n) {P:Params} {h:Heap} {args:List WData} {vals:List Value}
  (hpre:l.row.toRowW.claim.pre args=true) (hwl:WellAll P h vals args):
  ∃ a vs ns,vals=[Value.ref a]∧args=[WData.list (ns.map WData.int)]∧h.get? a=some {cls:= .type "list",data:= .seq vs.toArray}∧IntsAre vs ns∧ns.length≤n:=by
 have hsh:WShape.hasAll [] args [.list .int]=true:=(pre_splitW hpre).1
 have hc:l.pre.holds [] {args:=args}=true:=(pre_splitW hpre).2
 obtain ⟨d,r,rfl,h1,h2⟩:=hasAllW_cons hsh
 obtain rfl:=hasAllW_nil h2
 obtain ⟨xs,rfl,h3⟩:=hasW_list h1
 obtain ⟨ns,rfl⟩:=items_int h3
 have hlen:ns.length≤n:=by
  unfold OpenLaw.pre at hc
  have h4:(WTm.not (.lt (.lit (.int (n:Int))) (.len (.arg 0)))).holds [] {args:=[.list (ns.map .int)]}=true:=by
   have h4:=(holds_andW hc).1
   rw [hn] at h4
   exact h4
  have h5:=condW_of h4 (w_not (w_lt w_lit (w_len_list (w_arg rfl))))
  rw [List.length_map] at h5
  refine Nat.le_of_not_lt fun q=>?_
  have q':(n:Int) < ((ns.length:Nat):Int):=by omega
  first
   | (rw [decide_eq_true q'] at h5;exact absurd h5 (by decide))
   | (simp at h5;omega)
 cases hwl with
 | cons w1 w2=>
   cases w2
   cases w1 with
   | list ho hall=>exact ⟨_,_,ns,rfl,rfl,ho,AI ns _ hall,hlen⟩
theorem Ug (l:OpenLaw) (args:List WData):l.row.toRowW.claim.post args (.bool true) args=true:=
 postW_of (r:=l.row.toRowW) (X:=(true == true))
  (show WShape.has [] (.bool true) .bool=true by first | rfl | decide | simp [WShape.has,WShape.arms,WShape.armsAll])
  (show (WTm.eq .res (.lit (.bool true))).value [] {args:=args,res:=some (.bool true),after:=args}=some (.bool (true == true)) from w_eq_bool (w_res rfl) w_lit) rfl
theorem attach_call {l:OpenLaw} {n:Nat} {q:Program} {loose:List Str} {XP:(Str→Option Value)→Heap→Prop} {YP:World→Heap→Prop} {d:DefRec}
  (hn:l.most=some n) (hdf:d.params.defaults=[])
  (call:∀ (w:World) (s₀ s₁:Shared) (mg mb:Str→Option Value) (fa:Addr) (o:Obj) (pm cd doc:Value) (a:Addr) (vs:List Value) (ns:List Int),
   Ground q loose [] XP w s₀ mg mb s₁.heap→YP w s₁.heap→
   s₁.heap.get? fa=some o→o.data= .func (docDef d.name d.params d.body d.scope pm cd doc)→s₁.heap.CodeRec cd d.name→mg d.name=some (.ref fa)→
   s₁.heap.get? a=some {cls:= .type "list",data:= .seq vs.toArray}→IntsAre vs ns→ns.length≤n→s₁.gens=#[]→
   codeAny (model l.prog w) callerA (.call (.ref fa) ⟨[.ref a],[]⟩) (fun r s'=>r= .ok (.ret (.bool true))∧OldK s₁.heap s'.heap∧s'.os=s₁.os∧AllBare s'.gens) s₁):
  WalkO q loose XP YP l.row.toRowW d [] (fun f vs=>PySem.call f vs):=by
 intro w s₀ s₁ mg mb G Y fa o pm cd doc dV kV ho hd hcd hD hmg hg args vals as hpre hlay hrd hwl hlo
 obtain rfl:dV= .none:=Dflts.none hD hdf
 obtain rfl:kV= .none:=Dflts.noKw hD
 obtain ⟨a,vs,ns,rfl,rfl,hobj,hints,hlen⟩:=TU hn hpre hwl
 refine enter_call (codeAny_mono (call w s₀ s₁ mg mb fa o pm cd doc a vs ns G Y ho (fd_plain hd) hcd hmg hobj hints hlen hg) fun r s' hq=>?_)
 obtain ⟨rfl,h2,h3,h4⟩:=hq
 exact ⟨.inl ⟨.bool true,.bool true,[],rfl,fun _=>rfl,.bool true,Ug l _,fun _=>⟨List.Pairwise.nil,fun _ hm=>(nomatch hm)⟩⟩,h2,h3,h4⟩
end Att
namespace L2
open PySem PySem.Spec PyProof.Rows
theorem HW:∀ {vs:List Value} {ns:List Int},IntsAre vs ns→Vals (ns.map V.int) vs
 | _,_,.nil=> .nil
 | _,_,.cons n t h=> .cons ⟨t,rfl⟩ (HW h)
noncomputable def Only (H:Hp):Prop:=∀ b,H b=none∨∃ o xs,H b=some (.frz o (.lst xs))
theorem YH {P:Program} {w:World} {K:PySem.W.Frag} {mg mb:Str→Option Value} {CX:CXT} {k:Nat} {fa a:Addr} {fd:FuncData} {x:Str} {sp:Sp} {s₁:Shared} {vs:List Value} {ns:List Int}
  (KX:K.In s₁.heap) (hns:s₁.heap.Ns mainGlobals mg) (hb:s₁.heap.Ns builtinsNs mb) (hbb:∀ x:Str,x≠"__name__"→mb x=bootBuiltins x) (hlim:s₁.heap.NoLimit) (hg:s₁.gens=#[])
  (ha:s₁.heap.get? a=some {cls:= .type "list",data:= .seq vs.toArray}) (hi:IntsAre vs ns) (hl:ns.length≤sizeLine) (hr:Room k callerA)
  (F:∀ base:Heap,K.In base→base.Ns mainGlobals mg→FnOk P w K mg base CX k fa fd [x] sp) (hbind:∀ (s:Shared) (u:Value),BindsTo s fd ⟨[u],[]⟩ [(x,u)])
  (hsp:∀ H:Hp,Only H→SqL K H a (ns.map V.int)→sp [.ref a] H (fun v _=>v= .bl true) fun _ _ _=>False)
  (hCX:∀ H e s',CX [] H s₁ (fun _ _ _=>False) e s'→False):
  codeAny (model P w) callerA (.call (.ref fa) ⟨[.ref a],[]⟩) (fun r s'=>r= .ok (.ret (.bool true))∧OldK s₁.heap s'.heap∧s'.os=s₁.os∧AllBare s'.gens) s₁:=by
 have rv:=HW hi
 have lenV:=hi.length
 have core:∀ H:Hp,Only H→SqL K H a (ns.map V.int)→HOk P w H s₁.heap→(∀ b,H b≠none→b=a)→(H a≠none→K.lookup a=none)→
   codeAny (model P w) callerA (.call (.ref fa) ⟨[.ref a],[]⟩) (fun r s'=>r= .ok (.ret (.bool true))∧OldK s₁.heap s'.heap∧s'.os=s₁.os∧AllBare s'.gens) s₁:=by
  intro H hO hS hok hA hK
  have base_of:∀ {b:Addr} {o:Obj},s₁.heap.get? b=some o→H b=none→(hidT s₁.heap H).get? b=some o:=fun e n=>YX e n
  have noA:∀ {b:Addr} {o:Obj} {es:Array DictEntry} {ep:Nat},s₁.heap.get? b=some o→o.data= .dict es ep→H b=none:=fun {b o es ep} e d=>by
   cases q:H b with
   | none=>rfl
   | some u=>
     have e':b=a:=hA b (by rw [q];simp)
     subst e'
     rw [ha] at e;cases e
     have d':Data.seq vs.toArray _=Data.dict es ep:=d
     cases d'
  have nsK:∀ {b:Addr} {m:Str→Option Value},s₁.heap.Ns b m→(hidT s₁.heap H).Ns b m:=fun {b m} ⟨o,es,ep,e,d,r⟩=>⟨o,es,ep,base_of e (noA e d),d,r⟩
  have hKb:K.In (hidT s₁.heap H):=fun b o e=>base_of (KX b o e) (by
   cases q:H b with
   | none=>rfl
   | some u=>
     have e':b=a:=hA b (by rw [q];simp)
     subst e'
     rw [hK (by rw [q];simp)] at e;cases e)
  have hM:Mod K mg (hidT s₁.heap H):=⟨hKb,nsK hns,⟨mb,nsK hb,hbb⟩,let ⟨mc,h1,h2⟩:=hlim;⟨mc,nsK h1,h2⟩⟩
  have e0:Env0 P w K mg (hidT s₁.heap H) callerA [] s₁ H:=⟨rfl,hM,fun b o e=>abF e,Nat.le_of_eq (Vw _ _),trivial,fun b hb=>absurd (show b∈([]:List Addr) from hb) (by simp),hok,.of_eq hg⟩
  refine codeAny_mono ((F _ hKb (nsK hns)).run callerA [] s₁ H ⟨[.ref a],[]⟩ [.ref a] [.ref a] _ _ hr e0 (hbind s₁ (.ref a)) (.cons rfl .nil) (hsp H hO hS)) fun r s' h=>?_
  cases r with
  | error e=>exact (hCX H e s' h).elim
  | ok fl=>
    cases fl with
    | next=>exact False.elim h
    | brk=>exact False.elim h
    | cont=>exact False.elim h
    | ret u=>
      obtain ⟨v,H',os,bare,un,hok',r',q⟩:=h
      have q':v= .bl true:=q
      subst q'
      obtain rfl:u=Value.bool true:=r'
      refine ⟨rfl,OldK.of_keep fun b o e=>?_,os,bare⟩
      cases q:H b with
      | none=>exact un.keep b o e q (by intro z;exact absurd (show b∈([]:List Addr) from z) (by simp)) (by simp)
      | some u=>
        rcases hO b with z | ⟨ob,xs,z⟩
        ·rw [q] at z;cases z
        ·have z2:=un.frzs b ob _ z
         obtain ⟨e1,_⟩:=hok b _ z
         obtain ⟨e2,_⟩:=hok' b _ z2
         rw [e] at e1;cases e1
         exact e2
 cases hk:K.lookup a with
 | some o=>
   have e:=KX a o hk
   rw [ha] at e
   cases e
   refine core (fun _=>none) (fun _=> .inl rfl) (.inr ⟨_,vs.toArray,_,hk,rfl,rfl,rfl,by rw [List.size_toArray,lenV];exact hl,by simpa using rv⟩) (fun b u z=>by have z':(none:Option HO)=some u:=z;cases z') (fun b z=>absurd rfl z) fun z=>absurd rfl z
 | none=>
   refine core (fun b=>if b=a then some (.frz {cls:= .type "list",data:= .seq vs.toArray} (.lst (ns.map V.int))) else none) (fun b=>?_) (.inl (.inr ⟨{cls:= .type "list",data:= .seq vs.toArray},if_pos rfl⟩)) (fun b u z=>?_) (fun b z=>?_) fun _=>hk
   ·by_cases hb:b=a
    ·exact .inr ⟨_,_,if_pos hb⟩
    ·exact .inl (if_neg hb)
   ·by_cases hb:b=a
    ·have z':=(if_pos hb).symm.trans z
     cases z'
     subst hb
     exact ⟨ha,by rw [List.length_map];exact hl,vs,_,rv,ha⟩
    ·have z':=(if_neg hb).symm.trans z
     cases z'
   ·by_cases hb:b=a
    ·exact hb
    ·exact absurd (if_neg hb) z
theorem walk_of {l:PySem.W.OpenLaw} {n k:Nat} {q:Program} {loose:List Str} {XP:(Str→Option Value)→Heap→Prop} {YP:World→Heap→Prop} {d:DefRec} {K:Params→PySem.W.Frag} {CX:World→CXT} {sp:World→Sp} {x:Str}
  (hn:l.most=some n) (hn2:n≤sizeLine) (hdf:d.params.defaults=[]) (hr:Room k callerA)
  (hY:∀ (w:World) (h:Heap),YP w h→(K w.params).In h)
  (F:∀ (w:World) (mg:Str→Option Value) (fa:Addr) (h:Heap),(K w.params).In h→h.Ns mainGlobals mg→mg d.name=some (.ref fa)→
   ∃ fd:FuncData,(∀ (s:Shared) (u:Value),BindsTo s fd ⟨[u],[]⟩ [(x,u)])∧
     ∀ base:Heap,(K w.params).In base→base.Ns mainGlobals mg→FnOk l.prog w (K w.params) mg base (CX w) k fa fd [x] (sp w))
  (hsp:∀ (w:World) (H:Hp) (a:Addr) (ns:List Int),ns.length≤n→Only H→SqL (K w.params) H a (ns.map V.int)→sp w [.ref a] H (fun v _=>v= .bl true) fun _ _ _=>False)
  (hCX:∀ (w:World) (H:Hp) (s:Shared) (e:Value) (s':Shared),CX w [] H s (fun _ _ _=>False) e s'→False):
  PySem.W.WalkO q loose XP YP l.row.toRowW d [] (fun f vs=>PySem.call f vs):=by
 refine Att.attach_call hn hdf fun w s₀ s₁ mg mb fa o pm cd doc a vs ns G Y ho hd hcd hmg hobj hints hlen hg=>?_
 have KX:=hY w _ Y
 obtain ⟨fd,hb,hF⟩:=F w mg fa _ KX G.T.g hmg
 exact YH KX G.T.g G.T.b G.T.builtins G.T.nolimit hg hobj hints (Nat.le_trans hlen hn2) hr hF hb (fun H hO hS=>hsp w H a ns hlen hO hS) fun H e s'=>hCX w H s₁ e s'
noncomputable def bG (s:Stmt) (j:Nat):Stmt:=match s with
 | .ClassDef _ _ _ body _ _ _ _ _ _ _=>body.getD j (.Pass ⟨0,0,0,0⟩)
 | _=> .Pass ⟨0,0,0,0⟩
noncomputable def aw (s:Stmt):Arguments:=match s with
 | .FunctionDef _ a _ _ _ _ _ _ _ _=>a
 | _=>{posonlyargs:=[],args:=[],vararg:=none,kwonlyargs:=[],kw_defaults:=[],kwarg:=none,defaults:=[]}
noncomputable def au (s:Stmt):List Stmt:=match s with
 | .FunctionDef _ _ b _ _ _ _ _ _ _=>b
 | _=>[]
noncomputable def ad (s:Stmt):Scope:=match s with
 | .FunctionDef _ _ _ _ _ _ sc _ _ _=>sc
 | _=>{kind:= .function,names:=[],isGenerator:=false,isCoroutine:=false}
noncomputable abbrev CX0:CXT:=fun _ _ _ _ _ _=>False
noncomputable abbrev E0:XK:=fun _ _ _=>False
theorem aA {X:Cx}:wG CX0 X E0:=fun _ _ _ _ _ _ _ h=>h.elim
structure Fun (K:PySem.W.Frag) (x qual:Str) (st:Stmt) (f:Addr) (fd:FuncData):Prop where
 ex:∃ (oc:Value) (od:Option Addr) (kV doc pm:Value) (an:Option Addr) (cdv ct:Value) (osl:Array (Option Value)),
  fd=PySem.W.fnOf x qual (aw st) (au st) (ad st) .none kV doc pm an cdv ct∧K.lookup f=some ⟨oc,od,.func fd,osl⟩∧PySem.W.codeIn K cdv qual=true
 kp:PySem.W.keepIn K (.ref f)=true
section
variable {P:Program} {w:World} {K:PySem.W.Frag} {mg:Str→Option Value} {base:Heap}
theorem Fun.ok {x qual:Str} {st:Stmt} {f:Addr} {fd:FuncData} {N ps:List Str} {k:Nat} {sp:Sp} (F:Fun K x qual st f fd) (S:ay N ps (ad st)) (len:∀ vs H Q E,sp vs H Q E→vs.length=ps.length)
  (hbody:∀ (cdv:Value) (A:Around) (outer:List Env) (s:Shared) (H:Hp) (vs:List V) (Q:VK) (E:XK),Room k (A.deeper (envOfC qual (ad st) s.heap.objs.size f cdv))→sp vs H Q E→
   ∃ t,PSs (cxOf CX0 P w K mg base N qual (ad st) f cdv A outer s H E).nox (au st) t∧t {nx:=fun _ H'=>Q .non H',rt:=Q} (start N vs) H):FnOk P w K mg base CX0 (k + 1) f fd ps sp:=by
 obtain ⟨oc,od,kV,doc,pm,an,cdv,ct,osl,rfl,lk,hcd⟩:=F.ex
 refine acd lk hcd S len fun A outer s H vs Q E hr hsp=>?_
 obtain ⟨t,h,q⟩:=hbody cdv A outer s H vs Q E hr hsp
 exact ⟨t,h.nox,q⟩
theorem Fun.binds {x qual:Str} {st:Stmt} {f:Addr} {fd:FuncData} {ps:List Str} (F:Fun K x qual st f fd)
  (h:∀ (kV doc pm:Value) (an:Option Addr) (cdv ct:Value) (us:List Value),us.length=ps.length→bindArgs (PySem.W.fnOf x qual (aw st) (au st) (ad st) .none kV doc pm an cdv ct) ⟨us,[]⟩=pure (ps.zip us)):aZ K fd ps []:=by
 obtain ⟨oc,od,kV,doc,pm,an,cdv,ct,osl,rfl,lk,hcd⟩:=F.ex
 exact .all (h kV doc pm an cdv ct)
theorem aI {x qual:Str} {st:Stmt} {f:Addr} {oc:Value} {od an:Option Addr} {osl:Array (Option Value)} {kV doc pm cdv ct:Value} (l:K.lookup f=some ⟨oc,od,.func (PySem.W.fnOf x qual (aw st) (au st) (ad st) .none kV doc pm an cdv ct),osl⟩)
  (c:PySem.W.codeIn K cdv qual=true) (k:PySem.W.keepIn K (.ref f)=true):Fun K x qual st f (PySem.W.fnOf x qual (aw st) (au st) (ad st) .none kV doc pm an cdv ct):=⟨⟨oc,od,kV,doc,pm,an,cdv,ct,osl,rfl,l,c⟩,k⟩
end
theorem DO {A:Around} {k:Nat} (hr:Room k A):A.units + 1 < cLine:=Nat.lt_of_le_of_lt (Nat.add_le_add_left (by decide:1≤64) _) hr.units
theorem aP {n:Nat} (h:n≤1000):n < sizeLine:=Nat.lt_of_le_of_lt h (by decide)
section
variable {X:Cx}
theorem pv (i:Nat) {x:Str} {pos:Pos} (hN:X.N[i]? =some x:=by rfl) (hv:Vis X.env.scope x:=by first | exact Or.inl rfl | exact Or.inr (Or.inl rfl) | exact Or.inr (Or.inr rfl)) (hd:(x == ("__debug__":Str))=false:=by decide)
  (hcd:(x == ("__classdict__":Str))=false:=by decide):PE X (.Name x pos) (tVar i):=ad9 hN hv hd hcd
end
theorem ite2 {c A B:Prop} [Decidable c] (h1:c→A) (h2:¬ c→B):if c then A else B:=by
 by_cases h:c
 ·rw [if_pos h]
  exact h1 h
 ·rw [if_neg h]
  exact h2 h
noncomputable def Same (H H':Hp):Prop:=∀ b o,H b=some o→H' b=some o
theorem Same.refl (H:Hp):Same H H:=fun _ _ h=>h
theorem Same.trans {H H1 H2:Hp} (a:Same H H1) (b:Same H1 H2):Same H H2:=fun c o h=>b c o (a c o h)
theorem Same.free {H H':Hp} (e:Same H H') {l:Addr} (h:H' l=Option.none):H l=Option.none:=by
 cases q:H l with
 | none=>rfl
 | some o=>
   rw [e l o q] at h
   cases h
theorem Same.seq {K:PySem.W.Frag} {H H':Hp} {a:Addr} {xs:List V} (e:Same H H') (h:SqL K H a xs):SqL K H' a xs:=by
 rcases h with (h | ⟨o,h⟩) | h
 ·exact .inl (.inl (e _ _ h))
 ·exact .inl (.inr ⟨o,e _ _ h⟩)
 ·exact .inr h
section
variable {κ:Type} [DecidableEq κ]
noncomputable def valV (kvs:List (κ×V)) (k:κ):Option V:=(kvs.find? fun kv=>decide (kv.1=k)).map (·.2)
noncomputable def putK (kvs:List (κ×V)) (k:κ) (v:V):List (κ×V):=
 if (kvs.any fun kv=>decide (kv.1=k))=true then kvs.map (fun kv=>if kv.1=k then (kv.1,v) else kv) else kvs++[(k,v)]
theorem oY {p:κ×V} {r:List (κ×V)} {k:κ} (e:p.1=k):valV (p::r) k=some p.2:=by simp [valV,List.find?_cons,e]
theorem oZ {p:κ×V} {r:List (κ×V)} {k:κ} (e:¬ p.1=k):valV (p::r) k=valV r k:=by simp [valV,List.find?_cons,e]
theorem rR (k:κ):∀ kvs:List (κ×V),(kvs.any fun kv=>decide (kv.1=k))=(valV kvs k).isSome
 | []=>rfl
 | p::r=>by
   rw [List.any_cons]
   by_cases e:p.1=k
   ·simp only [oY e,decide_eq_true e,Bool.true_or,Option.isSome_some]
   ·rw [oZ e,decide_eq_false e,Bool.false_or];exact rR k r
theorem Aq (kvs:List (κ×V)) (k:κ) (v:V):(putK kvs k v).length≤kvs.length + 1:=by
 unfold putK
 split
 ·rw [List.length_map];omega
 ·rw [List.length_append,List.length_cons,List.length_nil];omega
theorem RelO.isSome_eq {o:Option V} {u:Option Value} (r:RelO o u):o.isSome=u.isSome:=by
 cases o with
 | none=>cases u with
   | none=>rfl
   | some _=>exact (show False from r).elim
 | some _=>cases u with
   | none=>exact (show False from r).elim
   | some _=>rfl
theorem KV.val {kvs:List (κ×V)} {vs:List (κ×Value)} (r:KV kvs vs) (k:κ):RelO (valV kvs k) (valueAt vs k):=by
 unfold KV at r
 induction r with
 | nil=>exact True.intro
 | @cons p q ps qs h t ih=>
   obtain ⟨h1,h2⟩:=h
   by_cases e:p.1=k
   ·have e':q.1=k:=h1.symm.trans e
    have b:valueAt (q::qs) k=some q.2:=by simp [valueAt,List.find?_cons,e']
    rw [oY e,b];exact h2
   ·have e':¬ q.1=k:=fun z=>e (h1.trans z)
    have b:valueAt (q::qs) k=valueAt qs k:=by simp [valueAt,List.find?_cons,e']
    rw [oZ e,b];exact ih
theorem KV.any {kvs:List (κ×V)} {vs:List (κ×Value)} (r:KV kvs vs) (k:κ):(kvs.any fun kv=>decide (kv.1=k))=vs.any fun kv=>decide (kv.1=k):=by
 unfold KV at r
 induction r with
 | nil=>rfl
 | cons h t ih=>rw [List.any_cons,List.any_cons,ih,h.1]
theorem KV.repl {kvs:List (κ×V)} {vs:List (κ×Value)} (r:KV kvs vs) (k:κ) {y:V} {u:Value} (ry:RelV y u):
  KV (kvs.map fun kv=>if kv.1=k then (kv.1,y) else kv) (vs.map fun kv=>if kv.1=k then (kv.1,u) else kv):=by
 unfold KV at r ⊢
 induction r with
 | nil=>exact .nil
 | @cons p q ps qs h t ih=>
   rw [List.map_cons,List.map_cons]
   refine .cons ?_ ih
   obtain ⟨h1,h2⟩:=h
   by_cases e:p.1=k
   ·rw [if_pos e,if_pos (h1.symm.trans e)];exact ⟨h1,ry⟩
   ·rw [if_neg e,if_neg (fun z=>e (h1.trans z))];exact ⟨h1,h2⟩
theorem KV.put {kvs:List (κ×V)} {vs:List (κ×Value)} (r:KV kvs vs) (k:κ) {y:V} {u:Value} (ry:RelV y u):KV (putK kvs k y) (stored vs k u):=by
 unfold putK stored
 rw [r.any k]
 by_cases e:(vs.any fun kv=>decide (kv.1=k))=true
 ·rw [if_pos e,if_pos e];exact r.repl k ry
 ·rw [if_neg e,if_neg e];exact Paired.snoc r ⟨rfl,ry⟩
theorem KV.length {kvs:List (κ×V)} {vs:List (κ×Value)} (r:KV kvs vs):kvs.length=vs.length:=Paired.length r
end
theorem Rt {P:Program} {w:World} {k:Key} {u:Value} (r:RelV (kV k) u):(ff P w).is k u=true:=by
 cases k with
 | inl i=>obtain ⟨t,e⟩:=(show ∃ t,u=Value.int i t from r);subst e;exact MA P w i t
 | inr x=>obtain ⟨t,e⟩:=(show ∃ t,u=Value.str x t from r);subst e;exact Mz P w x t
theorem JK {P:Program} {w:World}:∀ {ks:List Key} {us:List Value},Vals (ks.map kV) us→ItemsAre (ff P w) ks us
 | [],_,r=>by rw [List.map_nil] at r;cases r;exact .nil
 | k::ks,_,r=>by
   rw [List.map_cons] at r
   cases r with
   | cons h t=>exact .cons (Rt h) (JK t)
noncomputable abbrev KT (H:Hp):List (List Key×V)→List (List Key×Addr×Value)→Prop:=Paired fun p q=>p.1=q.1∧H q.2.1=some (.tup (p.1.map kV))∧RelV p.2 q.2.2
theorem KT.val {H:Hp} {kvs:List (List Key×V)} {xs:List (List Key×Addr×Value)} (r:KT H kvs xs) (k:List Key):RelO (valV kvs k) ((atKey xs k).map (·.2)):=by
 induction r with
 | nil=>exact True.intro
 | @cons p q ps qs h t ih=>
   obtain ⟨h1,_,h2⟩:=h
   by_cases e:p.1=k
   ·have e':q.1=k:=h1.symm.trans e
    have b:atKey (q::qs) k=some q.2:=by simp [atKey,List.find?_cons,e']
    rw [oY e,b];exact h2
   ·have e':¬ q.1=k:=fun z=>e (h1.trans z)
    have b:atKey (q::qs) k=atKey qs k:=by simp [atKey,List.find?_cons,e']
    rw [oZ e,b];exact ih
theorem KT.repl {H:Hp} {kvs:List (List Key×V)} {xs:List (List Key×Addr×Value)} (r:KT H kvs xs) (k:List Key) {y:V} {u:Value} (ry:RelV y u):
  KT H (kvs.map fun kv=>if kv.1=k then (kv.1,y) else kv) (xs.map (putAt k u)):=by
 induction r with
 | nil=>exact .nil
 | @cons p q ps qs h t ih=>
   rw [List.map_cons,List.map_cons]
   refine .cons ?_ ih
   obtain ⟨h1,h2,h3⟩:=h
   unfold putAt
   by_cases e:p.1=k
   ·rw [if_pos e,if_pos (h1.symm.trans e)];exact ⟨h1,h2,ry⟩
   ·rw [if_neg e,if_neg (fun z=>e (h1.trans z))];exact ⟨h1,h2,h3⟩
theorem KT.put {H:Hp} {kvs:List (List Key×V)} {xs:List (List Key×Addr×Value)} (r:KT H kvs xs) (k:List Key) {b:Addr} {y:V} {u:Value} (hb:H b=some (.tup (k.map kV))) (ry:RelV y u):
  KT H (putK kvs k y) (storedH xs k b u):=by
 have e:(kvs.any fun kv=>decide (kv.1=k))=(atKey xs k).isSome:=by
  rw [rR,(r.val k).isSome_eq,Option.isSome_map]
 unfold putK storedH
 rw [e]
 by_cases q:(atKey xs k).isSome=true
 ·rw [if_pos q,if_pos q];exact r.repl k ry
 ·rw [if_neg q,if_neg q];exact Paired.snoc r ⟨rfl,hb,ry⟩
theorem KT.keeps {H H':Hp} {kvs:List (List Key×V)} {xs:List (List Key×Addr×Value)} (r:KT H kvs xs) (ht:∀ b ys,H b=some (.tup ys)→H' b=some (.tup ys)):KT H' kvs xs:=
 Paired.mapP r fun _ _ z=>⟨z.1,ht _ _ z.2.1,z.2.2⟩
section
variable {P:Program} {w:World} {H:Hp} {h:Heap} {a:Addr}
theorem adU {u:HO} (ok:HOk P w H h) (e:Rd H a u):gI P w H h a u:=e.ok ok
theorem VU {kvs:List (Key×V)} (ok:HOk P w H h) (e:Rd H a (.dK kvs)):kvs.length≤sizeLine∧(a == sysModules)=false∧∃ vs,KV kvs vs∧h.DictOf (ff P w) a vs:=
 show gI P w H h a (.dK kvs) from adU ok e
theorem af2 {kvs:List (Key×V)} (ok:HOk P w H h) (e:H a=some (.dK kvs)):kvs.length≤sizeLine∧(a == sysModules)=false∧∃ vs,KV kvs vs∧h.DictOf (ff P w) a vs:=VU ok (.inl e)
theorem JF {ks:List Key} (ok:HOk P w H h) (e:H a=some (.tup (ks.map kV))):(tupleKind (ff P w)).is h ks a:=by
 obtain ⟨_,its,r,o,h1,h2,n,h3⟩:=(show gI P w H h a (.tup (ks.map kV)) from ok a _ e)
 exact ⟨o,its.toArray,n,h1,h2,h3,by simpa using JK r⟩
theorem VT {kvs:List (List Key×V)} (ok:HOk P w H h) (e:Rd H a (.dT kvs)):kvs.length≤sizeLine∧(a == sysModules)=false∧
  ∃ xs,KT H kvs xs∧h.DictOfH (tupleKind (ff P w)) a xs:=by
 obtain ⟨z,y,xs,r,o,es,ep,h1,h2,h3,h4,h5⟩:=(show gI P w H h a (.dT kvs) from adU ok e)
 refine ⟨z,y,xs,r,o,es,ep,h1,h2,h3,h4,fun x hx=>?_,h5⟩
 have all:∀ {l:List (List Key×V)} {m:List (List Key×Addr×Value)},KT H l m→∀ x∈m,(tupleKind (ff P w)).is h x.1 x.2.1:=by
  intro l m q
  induction q with
  | nil=>intro x hx;exact nomatch hx
  | @cons p q ps qs hq t ih=>
    intro x hx
    rcases List.mem_cons.mp hx with e | hx
    ·subst e
     exact JF ok (by rw [← hq.1];exact hq.2.1)
    ·exact ih x hx
 exact all r x hx
theorem af1 {kvs:List (List Key×V)} (ok:HOk P w H h) (e:H a=some (.dT kvs)):kvs.length≤sizeLine∧(a == sysModules)=false∧
  ∃ xs,KT H kvs xs∧h.DictOfH (tupleKind (ff P w)) a xs:=VT ok (.inl e)
end
noncomputable def DGet (H:Hp) (a:Addr) (y:V) (r:Option V):Prop:=
 (∃ kvs k,Rd H a (.dK kvs)∧y=kV k∧r=valV kvs k)∨∃ kvs k b,Rd H a (.dT kvs)∧y= .ref b∧H b=some (.tup (k.map kV))∧r=valV kvs k
noncomputable def DPut (H:Hp) (a:Addr) (y v:V) (H':Hp):Prop:=
 (∃ kvs k,H a=some (.dK kvs)∧y=kV k∧kvs.length < sizeLine∧H'=upd H a (.dK (putK kvs k v)))∨
 ∃ kvs k b,H a=some (.dT kvs)∧y= .ref b∧H b=some (.tup (k.map kV))∧kvs.length < sizeLine∧H'=upd H a (.dT (putK kvs k v))
theorem DGet.k {H:Hp} {a:Addr} {kvs:List (Key×V)} {k:Key} (e:H a=some (.dK kvs)):DGet H a (kV k) (valV kvs k):= .inl ⟨kvs,k,.inl e,rfl,rfl⟩
theorem DPut.k {H:Hp} {a:Addr} {kvs:List (Key×V)} {k:Key} {v:V} (e:H a=some (.dK kvs)) (hl:kvs.length < sizeLine):DPut H a (kV k) v (upd H a (.dK (putK kvs k v))):= .inl ⟨kvs,k,e,rfl,hl,rfl⟩
section
variable {X:Cx} {pins:List (Addr×Obj)} {σ:St} {H:Hp} {s:Shared} {a:Addr} {y v:V} {u r:Value} {o:Option V} {A:Around} {E:Value→Shared→Prop}
theorem Inv.big (I:Inv X pins σ H s):sysModules < s.heap.objs.size:=by
 have h:mainGlobals < s.heap.objs.size:=(I.mod.glob.keeps I.bk).lt
 exact Nat.lt_trans (by decide) h
theorem V4 {Q:Value→Shared→Prop} (hu:A.units + 1 < cLine) (I:Inv X pins σ H s) (g:DGet H a y (some v)) (ry:RelV y u) (h:∀ w' s',Inv X pins σ H s'→RelV v w'→Q w' s'):
  wpAny (model X.prog X.w) A (getItem (.ref a) u) Q E s:=by
 rcases g with ⟨kvs,k,e,ey,l⟩ | ⟨kvs,k,b,e,ey,eb,l⟩
 ·subst ey
  obtain ⟨z,hd,vs,rel,dd⟩:=VU I.hok e
  obtain ⟨w',hw,rw'⟩:=RelO.some_of (v:=v) (o:=valueAt vs k) (by rw [l];exact rel.val k)
  exact wpAny_getItem_of (Rt ry) dd.mapOf hw (h w' _ (I.tok _) rw')
 ·subst ey
  cases (show u=Value.ref b from ry)
  obtain ⟨z,hd,xs,rel,dd⟩:=VT I.hok e
  obtain ⟨w',hw,rw'⟩:=RelO.some_of (v:=v) (o:=(atKey xs k).map (·.2)) (by rw [l];exact rel.val k)
  obtain ⟨p,hp,hp2⟩:=Option.map_eq_some_iff.mp hw
  refine wpAny_getItem_heap (tupleKind_room_in1 hu) (JF I.hok eb) dd hp ?_
  rw [hp2]
  exact h w' _ (I.tok _) rw'
theorem d_in {Q:Value→Shared→Prop} (hu:A.units + 1 < cLine) (I:Inv X pins σ H s) (g:DGet H a y o) (ry:RelV y u) (h:∀ s',Inv X pins σ H s'→Q (.bool o.isSome) s'):
  wpAny (model X.prog X.w) A (compareOp .In u (.ref a)) Q E s:=by
 rcases g with ⟨kvs,k,e,ey,l⟩ | ⟨kvs,k,b,e,ey,eb,l⟩
 ·subst ey
  obtain ⟨z,hd,vs,rel,dd⟩:=VU I.hok e
  refine wpAny_in_of (Rt ry) hd dd.mapOf ?_
  rw [← (rel.val k).isSome_eq,← l]
  exact h _ (I.tok _)
 ·subst ey
  cases (show u=Value.ref b from ry)
  obtain ⟨z,hd,xs,rel,dd⟩:=VT I.hok e
  refine wpAny_in_heap (tupleKind_room_in1 hu) (JF I.hok eb) hd dd ?_
  have q:=(rel.val k).isSome_eq
  rw [Option.isSome_map] at q
  rw [← q,← l]
  exact h _ (I.tok _)
theorem acj {Q:Value→Shared→Prop} (hu:A.units + 1 < cLine) (I:Inv X pins σ H s) (g:DGet H a y o) (ry:RelV y u) (h:∀ s',Inv X pins σ H s'→Q (.bool (!o.isSome)) s'):
  wpAny (model X.prog X.w) A (compareOp .NotIn u (.ref a)) Q E s:=by
 rcases g with ⟨kvs,k,e,ey,l⟩ | ⟨kvs,k,b,e,ey,eb,l⟩
 ·subst ey
  obtain ⟨z,hd,vs,rel,dd⟩:=VU I.hok e
  refine wpAny_notIn_of (Rt ry) hd dd.mapOf ?_
  rw [← (rel.val k).isSome_eq,← l]
  exact h _ (I.tok _)
 ·subst ey
  cases (show u=Value.ref b from ry)
  obtain ⟨z,hd,xs,rel,dd⟩:=VT I.hok e
  refine wpAny_notIn_heap (tupleKind_room_in1 hu) (JF I.hok eb) hd dd ?_
  have q:=(rel.val k).isSome_eq
  rw [Option.isSome_map] at q
  rw [← q,← l]
  exact h _ (I.tok _)
theorem V2 {h':Heap} {t':Nat} {ob:HO} (I:Inv X pins σ H s) (mu:Mut (H a)) (hs:Heap.SameBut a s.heap h') (he:∃ q,h'.get? a=some q) (new:gI X.prog X.w (upd H a ob) h' a ob):
  Inv X pins σ (upd H a ob) {s with heap:=h',toks:=t'}:=
 I.write (x:=a) (e:=a) mu (.inl rfl) (fun b q hb z=>(hs.2 b hb).trans z) he new
theorem aeY {P:Program} {w:World} {H':Hp} {h':Heap} {kvs:List (Key×V)} {vs:List (Key×Value)} (z:kvs.length≤sizeLine) (hd:(a == sysModules)=false) (rel:KV kvs vs) (dd:h'.DictOf (ff P w) a vs):
  gI P w H' h' a (.dK kvs):=⟨z,hd,vs,rel,dd⟩
theorem V3 {H':Hp} {Q:Unit→Shared→Prop} (hu:A.units + 1 < cLine) (I:Inv X pins σ H s) (g:DPut H a y v H') (ry:RelV y u) (rv:RelV v r) (h:∀ s',Inv X pins σ H' s'→Q () s'):
  wpAny (model X.prog X.w) A (setItem (.ref a) u r) Q E s:=by
 rcases g with ⟨kvs,k,e,ey,l,eH⟩ | ⟨kvs,k,b,e,ey,eb,l,eH⟩
 ·subst ey eH
  obtain ⟨z,hd,vs,rel,dd⟩:=af2 I.hok e
  have hz:vs.length≤sizeLine:=by rw [← rel.length];exact z
  have hl:(putK kvs k v).length≤sizeLine:=by have:=Aq kvs k v;omega
  refine wpAny_setItem_pairs (hsz:=hz) (Rt ry) dd fun h' dd' hs=>h _ ?_
  have he:∃ q,h'.get? a=some q:=let ⟨q,_,_,hq,_⟩:=dd';⟨q,hq⟩
  exact V2 I (by rw [e];exact True.intro) hs he (aeY hl hd (rel.put k rv) dd')
 ·subst ey eH
  cases (show u=Value.ref b from ry)
  obtain ⟨z,hd,xs,rel,dd⟩:=af1 I.hok e
  have hz:xs.length≤sizeLine:=by rw [← Paired.length rel];exact z
  have hl:(putK kvs k v).length≤sizeLine:=by have:=Aq kvs k v;omega
  refine wpAny_setItem_heap (hsz:=hz) (tupleKind_room_in1 hu) (JF I.hok eb) dd fun h' dd' hs=>h _ ?_
  obtain ⟨q,es,ep,hq,h2,h3,h4,_,h5⟩:=dd'
  refine V2 I (by rw [e];exact True.intro) hs ⟨q,hq⟩ ⟨hl,hd,_,(rel.put k eb rv).keeps fun c ys ec=>?_,q,es,ep,hq,h2,h3,h4,h5⟩
  rw [aB (dB ec e (fun z=>nomatch z))]
  exact ec
end
noncomputable def NoSl (i:Expr):Prop:=∀ ov iv,subscripted i false ov iv=operate [ov,iv] (getItem ov iv)
theorem aaV {prog:Program} {w:World} {A:Around} {E:Value→Shared→Prop} {s:Shared} {env:Env} {value slice:Expr} {pos:Pos} {T id:String} {Q:Value→Shared→Prop}
  (hl:typeLookup (.type T) "__getitem__"=pure (some (.builtin id))) (hs:NoSl slice)
  (h:wpAny (model prog w) A (eval value env) (fun o s₁=>wpAny (model prog w) A (eval slice env) (fun i s₂=>s₂.TypeIs o T∧wpAny (model prog w) A (getItem o i) Q E s₂) E s₁) E s):
  wpAny (model prog w) A (eval (.Subscript value slice pos) env) Q E s:=by
 refine Subscript_ (wpAny_mono h (fun o s₁ h₁=>wpAny_mono h₁ (fun i s₂ h₂=>?_) fun _ _ x=>x) fun _ _ x=>x)
 obtain ⟨hT,h₂⟩:=h₂
 unfold subscriptTail
 refine wpAny_bind ?_
 rw [getitemInPython_of_ne hT.not_modules]
 refine wpAny_bind (wpAny_specialOf hT hl ?_)
 have fin:wpAny (model prog w) A (subscripted slice false o i) (fun r s₃=>wpAny (model prog w) A (letTemporaryGo value o r >>=fun _=>pure r) Q E s₃) E s₂:=by
  rw [hs o i]
  exact wpAny_operating (wpAny_mono h₂ (fun r s₃ h₃=>wpAny_bind (wpAny_letTemporaryGo (wpAny_pure h₃))) fun _ _ x=>x)
 first
  | exact wpAny_pure (wpAny_bind fin)
  | exact wpAny_bind (wpAny_pure (wpAny_bind fin))
  | exact wpAny_bind fin
theorem Na {X:Cx} {pins:List (Addr×Obj)} {σ:St} {H:Hp} {s:Shared} {a:Addr} {y:V} {o:Option V} (I:Inv X pins σ H s) (g:DGet H a y o):s.TypeIs (.ref a) "dict":=by
 rcases g with ⟨kvs,k,e,_,_⟩ | ⟨kvs,k,b,e,_,_,_⟩
 ·obtain ⟨_,_,vs,_,dd⟩:=VU I.hok e
  exact dd.typeIs
 ·obtain ⟨_,_,xs,_,dd⟩:=VT I.hok e
  exact dd.typeIs
noncomputable def add (td ty:TE):TE:=fun σ H Q=>td σ H fun x H1=>ty σ H1 fun y H2=>∃ a v,x= .ref a∧DGet H2 a y (some v)∧Q v H2
noncomputable def tDIn (ty td:TE):TE:=fun σ H Q=>ty σ H fun y H1=>td σ H1 fun x H2=>∃ a o,x= .ref a∧DGet H2 a y o∧Q (.bl o.isSome) H2
noncomputable def Tn (ty td:TE):TE:=fun σ H Q=>ty σ H fun y H1=>td σ H1 fun x H2=>∃ a o,x= .ref a∧DGet H2 a y o∧Q (.bl (!o.isSome)) H2
noncomputable def adS (td ty tv:TE):TS:=fun D σ H=>tv σ H fun v H1=>td σ H1 fun x H2=>ty σ H2 fun y H3=>∃ a H4,x= .ref a∧DPut H3 a y v H4∧D.nx σ H4
section
variable {X:Cx} {o i e value:Expr} {pos pos' tpos:Pos} {td ty tv:TE}
theorem uj (hu:X.A.units + 1 < cLine) (ho:PE X o td) (hi:PE X i ty) (hs:NoSl i):PE X (.Subscript o i pos) (add td ty):=by
 intro pins s σ H Q I h
 refine aaV PySem.F.slot_dict_getitem.lookup hs (thn (ho pins s σ H _ I h) fun u s1 ⟨x,H1,I1,rx,q1⟩=>thn (hi pins s1 σ H1 _ I1 q1) fun iv s2 ⟨y,H2,I2,ry,a,v,ex,g,q2⟩=>?_)
 subst ex
 obtain rfl:u=Value.ref a:=rx
 exact ⟨Na I2 g,V4 hu I2 g ry fun w' s3 I3 rw'=>⟨v,H2,I3,rw',q2⟩⟩
theorem Z5 (hu:X.A.units + 1 < cLine) (hi:PE X i ty) (ho:PE X o td):PC X .In i o (tDIn ty td):=by
 intro pins s σ H Q I h
 refine thn (hi pins s σ H _ I h) fun iv s1 ⟨y,H1,I1,ry,q1⟩=>thn (ho pins s1 σ H1 _ I1 q1) fun u s2 ⟨x,H2,I2,rx,a,ov,ex,g,q2⟩=>?_
 subst ex
 obtain rfl:u=Value.ref a:=rx
 exact d_in hu I2 g ry fun s3 I3=>⟨.bl ov.isSome,H2,I3,rfl,q2⟩
theorem Uo (hu:X.A.units + 1 < cLine) (hi:PE X i ty) (ho:PE X o td):PC X .NotIn i o (Tn ty td):=by
 intro pins s σ H Q I h
 refine thn (hi pins s σ H _ I h) fun iv s1 ⟨y,H1,I1,ry,q1⟩=>thn (ho pins s1 σ H1 _ I1 q1) fun u s2 ⟨x,H2,I2,rx,a,ov,ex,g,q2⟩=>?_
 subst ex
 obtain rfl:u=Value.ref a:=rx
 exact acj hu I2 g ry fun s3 I3=>⟨.bl (!ov.isSome),H2,I3,rfl,q2⟩
theorem Ll (hu:X.A.units + 1 < cLine) (ho:PE X o td) (hi:PE X i ty) (hv:PE X value tv) (hs:swapsWith value (some (.Subscript o i pos')) pos.line X.env=pure false):
  PS X (.Assign [.Subscript o i pos'] value pos) (adS td ty tv):=by
 intro pins s σ H D I h
 refine wpAny_Assign_Subscript (thn (hv pins s σ H _ I h) fun r s1 ⟨v,H1,I1,rv,q1⟩=>thn (ho pins s1 σ H1 _ I1 q1) fun u s2 ⟨x,H2,I2,rx,q2⟩=>thn (hi pins s2 σ H2 _ I2 q2) fun iv s3 ⟨y,H3,I3,ry,a,H4,ex,g,q3⟩=>?_) hs
 subst ex
 obtain rfl:u=Value.ref a:=rx
 exact V3 hu I3 g ry rv fun s4 I4=>⟨σ,H4,I4,q3⟩
end
theorem Y9 {P:Program} {w:World} {H:Hp} (h:Heap) (hb:sysModules < h.objs.size):gI P w H (h.push {cls:= .type "dict",data:= .dict #[]}) h.objs.size (.dK []):=
 ⟨Nat.zero_le _,beq_eq_false_iff_ne.mpr (Ne.symm (Nat.ne_of_lt hb)),[],.nil,Heap.DictOf.new h⟩
noncomputable def ZK:TE:=fun _ H Q=>∀ p,H p=none→Q (.ref p) (upd H p (.dK []))
section
variable {X:Cx} {pos:Pos}
theorem yE:PE X (.Dict [] [] pos) ZK:=fun pins s σ H Q I h=>
 wpAny_Dict_empty ⟨.ref s.heap.objs.size,_,I.laid (a:=s.heap.objs.size) (o:= .dK []) (t':=s.toks) (fun _ _ q=>Heap.get?_push_of_some _ q) (Nat.le_refl _) (Y9 s.heap I.big),rfl,h _ (I.hok.fresh (Nat.le_refl _))⟩
end
structure M1 (X:Cx) (o:Expr) (m:Str) (apos:Pos) (e:Expr) (cpos:Pos):Prop where
 base:attributeBase o m X.env (eval o X.env)=eval o X.env
 few:((backTo cpos (starEach [e] X.env)).all (fun x=> !x.1)&&(backToKw cpos (keywordEach [] X.env)).all (fun x=>x.1.isSome)
  &&decide (([e]:List Expr).length + ([]:List Keyword).length + (if ([]:List Keyword).isEmpty then 0 else 1) < 30))=true
 line:(apos.endLine == cpos.line)=true
 trees:backTo cpos (starEach [e] X.env)=[(false,eval e X.env)]
structure M2 (X:Cx) (o:Expr) (m:Str) (apos:Pos) (e f:Expr) (cpos:Pos):Prop where
 base:attributeBase o m X.env (eval o X.env)=eval o X.env
 few:((backTo cpos (starEach [e,f] X.env)).all (fun x=> !x.1)&&(backToKw cpos (keywordEach [] X.env)).all (fun x=>x.1.isSome)
  &&decide (([e,f]:List Expr).length + ([]:List Keyword).length + (if ([]:List Keyword).isEmpty then 0 else 1) < 30))=true
 line:(apos.endLine == cpos.line)=true
 trees:backTo cpos (starEach [e,f] X.env)=[(false,eval e X.env),(false,eval f X.env)]
section
variable {κ:Type} [DecidableEq κ]
theorem Xv {kvs:List (κ×V)} {k:κ} (h:valV kvs k=none):¬ k∈kvs.map (·.1):=by
 intro m
 obtain ⟨p,hp,e⟩:=List.mem_map.mp m
 have q:(kvs.any fun kv=>decide (kv.1=k))=true:=List.any_eq_true.mpr ⟨p,hp,decide_eq_true e⟩
 rw [rR,h] at q
 exact absurd q (by simp)
theorem aaR {kvs:List (κ×V)} {k:κ} {v:V} (h:valV kvs k=some v):k∈kvs.map (·.1):=by
 have q:(kvs.any fun kv=>decide (kv.1=k))=true:=by
  rw [rR,h]
  all_goals rfl
 obtain ⟨p,hp,e⟩:=List.any_eq_true.mp q
 exact List.mem_map.mpr ⟨p,hp,of_decide_eq_true e⟩
end
end L2
set_option maxHeartbeats 4000000
namespace L2
open PySem PySem.Spec PyProof.Rows
section
variable {P0:Program} {w0:World} {A0:Around} {R0:Result→Shared→Prop} {t0:Shared}
theorem R4 {elt tg iter:Expr} {ifs:List Expr} {sc:Scope} {pos:Pos} {it acc:Value} {ce:Env} (J:Nat→Shared→Prop)
  (turn:∀ n s,J n s→wpAny (model P0 w0) A0 (pyNext it) (fun r s₁=>match r with
   | none=>R0 (.ok .next) s₁
   | some v=>wpAny (model P0 w0) A0 (letOwnedTupleGo tg it v) (fun _ s₂=>wpAny (model P0 w0) A0 (assign tg ce v) (fun _ s₃=>
     wpAny (model P0 w0) A0 (forIn ifs true fun c r=>if r=true then do let ok ← isTrue c ce (eval c ce);pure (ForInStep.yield ok) else pure (ForInStep.yield r)) (fun ok s₄=>
      if ok=true then wpAny (model P0 w0) A0 (eval elt ce) (fun x s₅=>
       wpAny (model P0 w0) A0 (call (.builtin "list.append") [acc,x]) (fun _ s₆=>∃ m,m < n∧J m s₆) (fun _ _=>False) s₅) (fun _ _=>False) s₄
      else ∃ m,m < n∧J m s₄) (fun _ _=>False) s₃) (fun _ _=>False) s₂) (fun _ _=>False) s₁) (fun _ _=>False) s)
  (n:Nat) (h:J n t0):
  codeAny (model P0 w0) A0 (.compLoop (.ListComp elt [⟨tg,iter,ifs,0⟩] sc pos) 0 it acc ce) R0 t0:=by
 have no:∀ {α:Type} {t:Sem α} {Q:α→Shared→Prop} {E:Value→Shared→Prop} {s:Shared},wpAny (model P0 w0) A0 t Q (fun _ _=>False) s→wpAny (model P0 w0) A0 t Q E s:=
  fun h=>wpAny_mono h (fun _ _ q=>q) fun _ _ z=>z.elim
 refine codeAny_loop rfl J (fun n s hJ=>?_) n h
 show wpAny _ A0 ((compTurn (.ListComp elt [⟨tg,iter,ifs,0⟩] sc pos) 0 it acc ce).onRaise (fun x=>do noteFrame x ce;theTreesLotGoes x)) _ _ s
 refine wpAny_noted ?_
 rw [compTurn_list]
 refine wpAny_bind (wpAny_standAt (wpAny_bind (thn (no (turn n s hJ)) fun r s₁ h₁=>?_)))
 cases r with
 | none=>exact wpAny_pure h₁
 | some v=>
   refine wpAny_bind (thn (no h₁) fun _ s₂ h₂=>?_)
   refine wpAny_bind (thn (no h₂) fun _ s₃ h₃=>wpAny_bind (thn (no h₃) fun ok s₄ h₄=>?_))
   cases ok with
   | false=>exact wpAny_pure ⟨rfl,h₄⟩
   | true=>
     rw [if_pos rfl] at h₄
     refine wpAny_bind (wpAny_bind (thn (no h₄) fun x s₅ h₅=>?_))
     refine wpAny_bind (thn (no h₅) fun _ s₆ h₆=>?_)
     exact wpAny_pure (wpAny_pure ⟨rfl,h₆⟩)
end
theorem vM (env:Env):∀ (l:List (Str×NameKind)) (cs:List (Str×Addr)),(∀ y∈l,y.2= .free→∃ c,env.cells.lookup y.1=some c)→
  ∃ r:List (Str×Addr),(forIn l cs (fun (x:Str×NameKind) (r:List (Str×Addr))=>if x.2 == NameKind.free then (do let c ← cellOf env x.1;pure (ForInStep.yield ((x.1,c)::r))) else pure (ForInStep.yield r)):Sem (List (Str×Addr)))=pure r∧
   (∀ p∈r,p∈cs∨env.cells.lookup p.1=some p.2)∧(∀ p∈cs,p∈r)∧(∀ y∈l,y.2= .free→∃ c,(y.1,c)∈r)
 | [],cs,_=>⟨cs,rfl,fun p hp=> .inl hp,fun p hp=>hp,fun y hy=>nomatch hy⟩
 | (x,k)::l,cs,h=>by
   by_cases hk:k= .free
   ·subst hk
    obtain ⟨c,hc⟩:=h (x,.free) List.mem_cons_self rfl
    obtain ⟨r,e,h1,h2,h3⟩:=vM env l ((x,c)::cs) fun y hy=>h y (List.mem_cons_of_mem _ hy)
    refine ⟨r,?_,fun p hp=>?_,fun p hp=>h2 p (List.mem_cons_of_mem _ hp),fun y hy hf=>?_⟩
    ·rw [List.forIn_cons]
     have e2:cellOf env x=pure c:=by unfold cellOf;rw [hc]
     simp only [beq_self_eq_true,if_true,e2,pure_bind]
     exact e
    ·rcases h1 p hp with q | q
     ·rcases List.mem_cons.mp q with z | z
      ·subst z;exact .inr hc
      ·exact .inl z
     ·exact .inr q
    ·rcases List.mem_cons.mp hy with z | z
     ·subst z;exact ⟨c,h2 _ List.mem_cons_self⟩
     ·exact h3 y z hf
   ·obtain ⟨r,e,h1,h2,h3⟩:=vM env l cs fun y hy=>h y (List.mem_cons_of_mem _ hy)
    refine ⟨r,?_,h1,h2,fun y hy hf=>?_⟩
    ·rw [List.forIn_cons]
     have hb:(k == NameKind.free)=false:=by cases k<;>first | rfl | exact absurd rfl hk
     simp only [hb,Bool.false_eq_true,if_false,pure_bind]
     exact e
    ·rcases List.mem_cons.mp hy with z | z
     ·subst z;exact absurd hf hk
     ·exact h3 y z hf
theorem Fe (sc:Scope) (env:Env) (h:∀ y∈sc.names,y.2= .free→∃ c,env.cells.lookup y.1=some c):
  ∃ cl,closureFor sc env=pure cl∧(∀ p∈cl,env.cells.lookup p.1=some p.2)∧∀ y∈sc.names,y.2= .free→∃ c,(y.1,c)∈cl:=by
 obtain ⟨r,e,h1,h2,h3⟩:=vM env sc.names [] h
 refine ⟨r,?_,fun p hp=>(h1 p hp).resolve_left (fun z=>nomatch z),h3⟩
 unfold closureFor
 have:=e
 simp only [bind_pure] at *
 exact e
theorem Gv {κ β:Type} [BEq κ] [LawfulBEq κ]:∀ {l:List (κ×β)} {x:κ} {c:β},(x,c)∈l→∃ c',l.lookup x=some c'
 | [],_,_,h=>nomatch h
 | (y,d)::l,x,c,h=>by
   by_cases e:x=y
   ·subst e;exact ⟨d,by simp [List.lookup_cons]⟩
   ·have hb:(x == y)=false:=beq_eq_false_iff_ne.mpr e
    rcases List.mem_cons.mp h with z | z
    ·exact absurd (congrArg Prod.fst z) e
    ·obtain ⟨c',q⟩:=Gv z
     exact ⟨c',by rw [List.lookup_cons,hb];exact q⟩
theorem rZ {env:Env}:∀ {names:List (Str×NameKind)} {x:Str} {k':NameKind},
  (names.map fun (n,k)=>if (k == NameKind.free&&env.scope.kind == .function&&env.kindOf n == some .cell) then (n,NameKind.cell) else (n,k)).lookup x=some k'→∃ k,(x,k)∈names∧(k'=k∨k= .free)
 | [],_,_,h=>by cases h
 | (y,k)::l,x,k',h=>by
   rw [List.map_cons,List.lookup_cons] at h
   by_cases e:x=y
   ·subst e
    by_cases hc:(k == NameKind.free&&env.scope.kind == .function&&env.kindOf x == some .cell)=true
    ·refine ⟨k,List.mem_cons_self,.inr ?_⟩
     rw [Bool.and_eq_true,Bool.and_eq_true] at hc
     exact eq_of_beq hc.1.1
    ·refine ⟨k,List.mem_cons_self,.inl ?_⟩
     simp only [if_neg hc,beq_self_eq_true] at h
     exact (Option.some.inj h).symm
   ·have hb:(x == y)=false:=beq_eq_false_iff_ne.mpr e
    have h':(l.map fun (n,k)=>if (k == NameKind.free&&env.scope.kind == .function&&env.kindOf n == some .cell) then (n,NameKind.cell) else (n,k)).lookup x=some k':=by
     by_cases hc:(k == NameKind.free&&env.scope.kind == .function&&env.kindOf y == some .cell)=true
     ·simp only [if_pos hc,hb] at h;exact h
     ·simp only [if_neg hc,hb] at h;exact h
    obtain ⟨q,hm,z⟩:=rZ h'
    exact ⟨q,List.mem_cons_of_mem _ hm,z⟩
theorem we {env:Env}:∀ {names:List (Str×NameKind)} {x:Str},names.lookup x=some .free→
  (names.map fun (n,k)=>if (k == NameKind.free&&env.scope.kind == .function&&env.kindOf n == some .cell) then (n,NameKind.cell) else (n,k)).lookup x=some .cell∨
  (names.map fun (n,k)=>if (k == NameKind.free&&env.scope.kind == .function&&env.kindOf n == some .cell) then (n,NameKind.cell) else (n,k)).lookup x=some .free
 | [],_,h=>by cases h
 | (y,k)::l,x,h=>by
   rw [List.lookup_cons] at h
   rw [List.map_cons,List.lookup_cons]
   by_cases e:x=y
   ·subst e
    simp only [beq_self_eq_true] at h
    cases h
    by_cases hc:(NameKind.free == NameKind.free&&env.scope.kind == .function&&env.kindOf x == some .cell)=true
    ·refine .inl ?_
     rw [if_pos hc]
     simp only [beq_self_eq_true]
    ·refine .inr ?_
     rw [if_neg hc]
     simp only [beq_self_eq_true]
   ·have hb:(x == y)=false:=beq_eq_false_iff_ne.mpr e
    simp only [hb] at h
    have q:=we (env:=env) h
    by_cases hc:(k == NameKind.free&&env.scope.kind == .function&&env.kindOf y == some .cell)=true
    ·simp only [if_pos hc,hb];exact q
    ·simp only [if_neg hc,hb];exact q
structure lX (osc:Scope) (ON N:List Str) (n:Nat) (fx:List Nat) (sc:Scope):Prop where
 kind:sc.kind= .function
 noc:∀ y∈sc.names,y.2≠.cell
 own:∀ y∈sc.names,y.2= .local→sc.names.lookup y.1=some .local
 fre:∀ y∈sc.names,y.2= .free→osc.names.lookup y.1=some .cell∨osc.names.lookup y.1=some .free
 len:N.length=n + fx.length
 frn:∀ k,k < fx.length→∃ x j,N[n + k]? =some x∧fx[k]? =some j∧ON[j]? =some x∧sc.names.lookup x=some .free
noncomputable def Y7 (ON:List Str) (sc:Scope):List Str→List Nat→Bool
 | [],[]=>true
 | x::xs,j::js=>decide (ON[j]? =some x)&&decide (sc.names.lookup x=some .free)&&Y7 ON sc xs js
 | _,_=>false
theorem JQ {ON:List Str} {sc:Scope}:∀ {xs:List Str} {js:List Nat},Y7 ON sc xs js=true→xs.length=js.length∧∀ k,k < js.length→∃ x j,xs[k]? =some x∧js[k]? =some j∧ON[j]? =some x∧sc.names.lookup x=some .free
 | [],[],_=>⟨rfl,fun k h=>absurd h (Nat.not_lt_zero k)⟩
 | [],_::_,h=>by cases h
 | _::_,[],h=>by cases h
 | x::xs,j::js,h=>by
   simp only [Y7,Bool.and_eq_true,decide_eq_true_eq] at h
   obtain ⟨l,q⟩:=JQ h.2
   refine ⟨congrArg Nat.succ l,fun k hk=>?_⟩
   cases k with
   | zero=>exact ⟨x,j,rfl,rfl,h.1.1,h.1.2⟩
   | succ k=>
     obtain ⟨x',j',a,b,c⟩:=q k (Nat.lt_of_succ_lt_succ hk)
     exact ⟨x',j',by simpa using a,by simpa using b,c⟩
noncomputable def OV (osc:Scope) (ON N:List Str) (n:Nat) (fx:List Nat) (sc:Scope):Bool:=
 decide (sc.kind= .function)&&decide (∀ y∈sc.names,y.2≠.cell)&&decide (∀ y∈sc.names,y.2= .local→sc.names.lookup y.1=some .local)&&
 decide (∀ y∈sc.names,y.2= .free→osc.names.lookup y.1=some .cell∨osc.names.lookup y.1=some .free)&&decide (n≤N.length)&&Y7 ON sc (N.drop n) fx
theorem lX.of {osc:Scope} {ON N:List Str} {n:Nat} {fx:List Nat} {sc:Scope} (h:OV osc ON N n fx sc=true):lX osc ON N n fx sc:=by
 simp only [OV,Bool.and_eq_true,decide_eq_true_eq] at h
 obtain ⟨⟨⟨⟨⟨h1,h2⟩,h3⟩,h4⟩,h5⟩,h6⟩:=h
 obtain ⟨l,q⟩:=JQ h6
 refine ⟨h1,h2,h3,h4,?_,fun k hk=>?_⟩
 ·rw [List.length_drop] at l;omega
 ·obtain ⟨x,j,a,b⟩:=q k hk
  exact ⟨x,j,by rw [List.getElem?_drop] at a;exact a,b⟩
noncomputable def nh (X:Cx) (N:List Str) (sc:Scope) (cl:List (Str×Addr)) (C:Addr) (fp:List Addr) (s:Shared) (H:Hp):Cx where
 prog:=X.prog
 w:=X.w
 K:=X.K
 mg:=X.mg
 base:=X.base
 A:=X.A
 N:=N
 s₀:=s
 H₀:=H
 env:=compEnvC sc cl C X.env
 outer:=X.stack
 stack:=X.stack
 ex:=fp
 fn:=fun _=>false
 calm:=X.calm
 pn:=[]
 xe:=fun _ _=>False
noncomputable def df (n:Nat) (fx:List Nat) (σ:St):St:=List.replicate n none++fx.map fun j=>(σ[j]?).join
noncomputable def SN (n:Nat) (g:TG):Prop:=∀ v σ H (Q Q':St→Hp→Prop),(∀ σ' H',Q σ' H'→σ'.drop n=σ.drop n→σ'.length=σ.length→Q' σ' H')→g v σ H Q→g v σ H Q'
noncomputable def O3 (n:Nat) (g:TGs):Prop:=∀ vs σ H (Q Q':St→Hp→Prop),(∀ σ' H',Q σ' H'→σ'.drop n=σ.drop n→σ'.length=σ.length→Q' σ' H')→g vs σ H Q→g vs σ H Q'
theorem aF {n i:Nat} (h:i < n):SN n (VH i):=fun v σ H Q Q' k q=>k _ _ q (by rw [List.drop_set_of_lt h]) (by rw [List.length_set])
theorem rn {n:Nat}:O3 n gNil:=fun vs σ H Q Q' k ⟨e,q⟩=>⟨e,k _ _ q rfl rfl⟩
theorem dQ {n:Nat} {t:TG} {u:TGs} (ht:SN n t) (hu:O3 n u):O3 n (aca t u):=fun vs σ H Q Q' k ⟨v,r,e,q⟩=>
 ⟨v,r,e,ht v σ H _ _ (fun σ1 H1 q1 e1 l1=>hu r σ1 H1 Q Q' (fun σ2 H2 q2 e2 l2=>k σ2 H2 q2 (e2.trans e1) (l2.trans l1)) q1) q⟩
theorem AJ {K:PySem.W.Frag} {n m:Nat} {t:TGs} (h:O3 n t):SN n (gTup K m t):=fun v σ H Q Q' k ⟨a,xs,e,hs,hl,q⟩=>⟨a,xs,e,hs,hl,h xs σ H Q Q' k q⟩
noncomputable def PTs (X:Cx) (ifs:List Expr) (t:TT):Prop:=
 ∀ (pins:List (Addr×Obj)) (s:Shared) (σ:St) (H:Hp) (Q:Bool→Hp→Prop),Inv X pins σ H s→t σ H Q→
  wpAny (model X.prog X.w) X.A (forIn ifs true fun c r=>if r=true then do let ok ← isTrue c X.env (eval c X.env);pure (ForInStep.yield ok) else pure (ForInStep.yield r)) (TP X pins σ Q) X.xe s
noncomputable def tYes:TT:=fun _ H Q=>Q true H
theorem bx {X:Cx}:PTs X [] tYes:=fun _ _ _ H _ I h=>wpAny_tests_nil ⟨H,I,h⟩
theorem km {X:Cx} {c:Expr} {t:TT} (h:PT X c t):PTs X [c] t:=fun pins s σ H Q I q=>wpAny_tests_one (h pins s σ H Q I q)
noncomputable def XA (n:Nat) (fx:List Nat) (wi:TI) (g:TG) (tc:TT) (te:TE):TE:=fun σ H Q=>wi σ H fun J H1=>∀ D,H1 D=none→
 ∃ W:Nat→Nat→List V→Hp→Prop,(∃ m,W 0 m [] (upd H1 D (.lst [])))∧∀ i m ys H2,W i m ys H2→(J.stop i H2∧Q (.ref D) H2)∨
   (J.go i H2∧∃ N:List V→Hp→Prop,(∀ ys' H',N ys' H'→∃ m',m' < m∧W (i + 1) m' ys' H')∧∀ x H3,J.yld i H2 x H3→g x (df n fx σ) H3 fun σ4 H4=>tc σ4 H4 fun b H5=>
    if b=true then te σ4 H5 fun v H6=>H6 D=some (.lst ys)∧ys.length < sizeLine∧N (ys++[v]) (upd H6 D (.lst (ys++[v]))) else N ys H5)
section
variable {X:Cx} {pins:List (Addr×Obj)} {σ:St} {H:Hp} {s:Shared}
theorem R6 {n:Nat} {fx:List Nat}:(df n fx σ).length=n + fx.length:=by unfold df;simp
theorem Fd {n:Nat} {fx:List Nat} {i:Nat} {v:V} (e:(df n fx σ)[i]? =some (some v)):∃ k j,i=n + k∧fx[k]? =some j∧σ[j]? =some (some v):=by
 unfold df at e
 by_cases h:i < n
 ·rw [List.getElem?_append_left (by simpa using h),List.getElem?_replicate,if_pos h] at e
  cases e
 ·rw [List.getElem?_append_right (by simpa using h),List.length_replicate,List.getElem?_map] at e
  cases q:fx[i - n]? with
  | none=>rw [q] at e;cases e
  | some j=>
    rw [q] at e
    have e':(σ[j]?).join=some v:=Option.some.inj e
    refine ⟨i - n,j,by omega,q,?_⟩
    cases z:σ[j]? with
    | none=>rw [z] at e';cases e'
    | some o=>rw [z] at e';have:o=some v:=e';rw [this]
theorem Zg {osc:Scope} {ON N:List Str} {n:Nat} {fx:List Nat} {sc:Scope} {cl:List (Str×Addr)} {fp:List Addr} {h4:Heap} {tk:Nat}
  (ho:X.env.scope=osc) (hN:X.N=ON) (S:lX osc ON N n fx sc)
  (hcl1:∀ p∈cl,X.env.cells.lookup p.1=some p.2) (hcl2:∀ y∈sc.names,y.2= .free→∃ c,(y.1,c)∈cl)
  (I:Inv X pins σ H s) (hf:∀ b∈fp,FpOk X pins H b) (hfo:∀ b∈fp,b < s.heap.objs.size)
  (hns:∃ m,h4.Ns s.heap.objs.size m) (old:∀ b o,s.heap.get? b=some o→h4.get? b=some o):
  Inv (nh X N sc cl s.heap.objs.size fp s H) [] (df n fx σ) H {s with heap:=h4,toks:=tk}:=by
 have look:∀ {x:Str} {c:Addr},cl.lookup x=some c→X.env.cells.lookup x=some c:=fun {x c} e=>hcl1 (x,c) (PySem.mem_of_lookup e)
 have ok:(nh X N sc cl s.heap.objs.size fp s H).Ok:=by
  refine ⟨I.ok.mod,S.kind,I.ok.glob,I.ok.blt,Nat.le_refl _,fun x y c h1 h2=>I.ok.inj x y c (look h1) (look h2),fun x hx=>?_,fun x c z=>(by cases z),I.ok.hd,I.ok.frames,.inl rfl,fun b hb=>⟨Nat.ne_of_lt (hfo b hb),fun x c e=>(hf b hb).2.2.2.2.1 x c (look e)⟩,
   I.bs,Nat.le_trans I.ok.bsz I.sz,fun b o e hb=>?_,fun b hb z=>?_,I.stack,I.stkFree⟩
  ·have hx':∃ k',(k'=NameKind.cell∨k'=NameKind.free)∧(sc.names.map fun (n,k)=>if (k == NameKind.free&&X.env.scope.kind == .function&&X.env.kindOf n == some .cell) then (n,NameKind.cell) else (n,k)).lookup x=some k':=by
    rcases hx with hx | hx
    ·exact ⟨_,.inl rfl,hx⟩
    ·exact ⟨_,.inr rfl,hx⟩
   obtain ⟨k',hk,e⟩:=hx'
   obtain ⟨k,hm,z⟩:=rZ e
   have kf:k= .free:=by
    rcases z with z | z
    ·subst z
     rcases hk with q | q
     ·exact absurd q (S.noc _ hm)
     ·exact q
    ·exact z
   subst kf
   obtain ⟨c,hc⟩:=hcl2 _ hm rfl
   exact Gv hc
  ·rcases (hf b hb).2.2.2.1 with z | z
   ·exact I.ok.noex b o e z
   ·exact absurd (Nat.lt_of_lt_of_le (Heap.lt_size (I.ok.bs b o e).1) z) (Nat.lt_irrefl _)
  ·rcases List.mem_cons.mp (I.stkSub b z) with q | q
   ·exact (hf b hb).2.1 q
   ·exact (hf b hb).2.2.1 q
 obtain ⟨m,hns⟩:=hns
 refine ⟨ok,rfl,I.bare,Un.kept old,⟨m,hns,fun i x v e1 e2 e3=>?_⟩,fun x c e=>?_,I.hok.fresh (Nat.le_refl _),fun x c e=>I.freeC x c (look e),fun p hp=>absurd (show p∈([]:List (Addr×Obj)) from hp) (by simp),I.hok.kept old,?_⟩
 ·obtain ⟨k,j,rfl,hj,hv⟩:=Fd e2
  obtain ⟨x',j',a1,a2,a3,a4⟩:=S.frn k (List.getElem?_eq_some_iff.mp hj).1
  have ex:x'=x:=Option.some.inj (a1.symm.trans e1)
  have ej:j'=j:=Option.some.inj (a2.symm.trans hj)
  subst ex;subst ej
  obtain ⟨m',_,hl⟩:=I.loc
  have hk:X.env.scope.names.lookup x'=some .cell∨X.env.scope.names.lookup x'=some .free:=by rw [ho];exact S.fre _ (PySem.mem_of_lookup a4) rfl
  have vis:Vis X.env.scope x':=by rcases hk with z | z;exact .inr (.inl z);exact .inr (.inr z)
  obtain ⟨u,r,q⟩:=hl j' x' v (by rw [hN];exact a3) hv vis
  rcases q with ⟨z,_⟩ | ⟨_,c,ec,ic⟩
  ·have z':X.env.scope.names.lookup x'=some .local:=z
   rcases hk with q | q<;>(rw [q] at z';cases z')
  ·refine ⟨u,r,.inr ⟨we a4,c,?_,ic.keeps old⟩⟩
   obtain ⟨c0,hc0⟩:=hcl2 _ (PySem.mem_of_lookup a4) rfl
   obtain ⟨c1,hc1⟩:=Gv hc0
   have:=look hc1
   rw [ec] at this
   cases this
   exact hc1
 ·obtain ⟨v,q⟩:=I.cell x c (look e)
  exact ⟨v,q.keeps old⟩
 ·show _=N.length
  rw [R6,S.len]
theorem Kc {osc:Scope} {ON N:List Str} {n:Nat} {fx:List Nat} {sc:Scope} {cl:List (Str×Addr)} {elt tg iter:Expr} {ifs:List Expr} {pos:Pos} {wi:TI} {g:TG} {tc:TT} {te:TE} {Q:VK} {RR:Value→Addr→Result→Shared→Prop}
  (hcalm:X.calm=true) (ho:X.env.scope=osc) (hN:X.N=ON) (S:lX osc ON N n fx sc)
  (hcl1:∀ p∈cl,X.env.cells.lookup p.1=some p.2) (hcl2:∀ y∈sc.names,y.2= .free→∃ c,(y.1,c)∈cl)
  (hi:PI X tg iter wi) (gk:SN n g) (hb:∀ cl C fp s H,PG (nh X N sc cl C fp s H) tg g∧PTs (nh X N sc cl C fp s H) ifs tc∧PE (nh X N sc cl C fp s H) elt te)
  (I:Inv X pins σ H s) (h:XA n fx wi g tc te σ H Q)
  (hRR:∀ D C H' s',Inv X pins σ H' s'→(∃ m,s'.heap.Ns C m)→FpOk X pins H' C→Q (.ref D) H'→RR (.ref D) C (.ok .next) s'):
  wpAny (model X.prog X.w) X.A (eval iter X.env) (fun x s₁=>wpAny (model X.prog X.w) X.A (pyIter x) (fun it s₂=>wpAny (model X.prog X.w) X.A (newList []) (fun acc s₃=>
   wpAny (model X.prog X.w) X.A (newFunctionEnv sc X.env.globals cl [] X.env.qual none .none (some X.env)) (fun cenv s₄=>
    codeAny (model X.prog X.w) X.A (.compStart (.ListComp elt [⟨tg,iter,ifs,0⟩] sc pos) 0 it acc {cenv with scope:=relabel sc X.env}) (RR acc cenv.locals) s₄) X.xe s₃) X.xe s₂) X.xe s₁) X.xe s:=by
 refine thn (hi pins s σ H _ I h) fun v s1 h1=>thn h1 fun itv s2 h2=>?_
 obtain ⟨it,fp,tn,J,H2,e2,I2,T,st2,f2,hW⟩:=h2
 subst e2
 obtain ⟨W,⟨m0,w0⟩,hturn⟩:=hW s2.heap.objs.size I2.fresh
 refine wpAny_newObj_type ?_
 have I3:Inv X pins σ (upd H2 s2.heap.objs.size (.lst [])) {s2 with heap:=s2.heap.push {cls:= .type "list",data:= .seq ([]:List Value).toArray}}:=I2.lnew (t':=s2.toks) (its:=[]) .nil (Nat.zero_le _)
 have f3:∀ b∈fp,FpOk X pins (upd H2 s2.heap.objs.size (.lst [])) b∧b < s2.heap.objs.size:=fun b hb=>by
  obtain ⟨o,e,_⟩:=T.obj _ _ st2 b hb
  have l:=Heap.lt_size e
  obtain ⟨a1,a2⟩:=f2 b hb
  exact ⟨⟨by rw [aB (Nat.ne_of_lt l)];exact a1,a2⟩,l⟩
 have sz:({s2 with heap:=s2.heap.push {cls:= .type "list",data:= .seq ([]:List Value).toArray}}:Shared).heap.objs.size=s2.heap.objs.size + 1:=Heap.size_push ..
 generalize hs3:({s2 with heap:=s2.heap.push {cls:= .type "list",data:= .seq ([]:List Value).toArray}}:Shared)=s3 at I3 sz ⊢
 generalize hH3:upd H2 s2.heap.objs.size (.lst [])=H3 at I3 f3 w0
 have old3:∀ b o,s2.heap.get? b=some o→s3.heap.get? b=some o:=fun b o e=>by rw [← hs3];exact Heap.get?_push_of_some _ e
 refine wpAny_newFunctionEnv (fun y hy=>S.noc y hy) (fun y hy=>nomatch hy) (fun h4 hns hsb=>?_) S.kind
 have old4:∀ b o,s3.heap.get? b=some o→h4.get? b=some o:=fun b o e=>hsb.extBut b o (Nat.ne_of_lt (Heap.lt_size e)) (Heap.get?_push_of_some _ e)
 have I4:=Zg (tk:=s3.toks + ([]:List (Str×Value)).length) ho hN S hcl1 hcl2 I3 (fun b hb=>(f3 b hb).1) (fun b hb=>by rw [sz];exact Nat.lt_succ_of_lt (f3 b hb).2) ⟨_,hns⟩ old4
 have hb':=hb cl s3.heap.objs.size fp s3 H3
 generalize hY:nh X N sc cl s3.heap.objs.size fp s3 H3=Y at I4 hb'
 have stat:∀ {H':Hp},(∀ b∈fp,H' b=none)→∀ b∈fp,FpOk Y [] H' b:=fun {H'} hn b hb=>by
  subst hY
  obtain ⟨⟨a1,a2,a3,a4,a5,a6⟩,l⟩:=f3 b hb
  refine ⟨hn b hb,Nat.ne_of_lt (show b < s3.heap.objs.size by rw [sz];exact Nat.lt_succ_of_lt l),fun z=>?_,.inl hb,fun x c e=>a5 x c (hcl1 (x,c) (PySem.mem_of_lookup e)),fun p hp=>absurd (show p∈([]:List (Addr×Obj)) from hp) (by simp)⟩
  rcases List.mem_cons.mp (I3.stkSub b z) with q | q
  ·exact a2 q
  ·exact a3 q
 have fin:∀ {σ6:St} {H6:Hp} {s6:Shared},Inv Y [] σ6 H6 s6→Q (.ref s2.heap.objs.size) H6→RR (.ref s2.heap.objs.size) s3.heap.objs.size (.ok .next) s6:=fun {σ6 H6 s6} I6 q=>by
  subst hY
  refine hRR _ _ H6 s6 ?_ (let ⟨m,hm,_⟩:=I6.loc;⟨m,hm⟩) (I3.fpOk (Nat.le_refl _) I6.free) q
  obtain ⟨hh,gg,dd,tt,os'⟩:=s6
  obtain rfl:os'=s3.os:=I6.os
  exact I3.call (h':=hh) (g':=gg) (d':=dd) (t':=tt) (ch:=fp) I6.base I6.hok I6.bare fun b hb=>by
   obtain ⟨⟨a1,a2,a3,a4,a5,a6⟩,l⟩:=f3 b hb
   exact ⟨a4,a2,a5,a6⟩
 have pY:Y.prog=X.prog:=by subst hY;rfl
 have wY:Y.w=X.w:=by subst hY;rfl
 have kY:Y.K=X.K:=by subst hY;rfl
 have aY:Y.A=X.A:=by subst hY;rfl
 have cY:Y.calm=true:=by subst hY;exact hcalm
 have eY:Y.env=compEnvC sc cl s3.heap.objs.size X.env:=by subst hY;rfl
 have xY:Y.xe=fun _ _=>False:=by subst hY;rfl
 have T':Turn Y.prog Y.w Y.K tg J fp it tn:=by rw [pY,wY,kY];exact T
 have tn4:tn 0 h4:=T.keep _ _ _ st2 fun b hb o e=>old4 b o (old3 b o e)
 have loop:codeAny (model X.prog X.w) X.A (.compLoop (.ListComp elt [⟨tg,iter,ifs,0⟩] sc pos) 0 (.ref it) (.ref s2.heap.objs.size) (compEnvC sc cl s3.heap.objs.size X.env)) (RR (.ref s2.heap.objs.size) s3.heap.objs.size)
   {s3 with heap:=h4,toks:=s3.toks + ([]:List (Str×Value)).length}:=by
  rw [← pY,← wY,← aY,← eY]
  refine R4 (fun k s'=>∃ i ys σ' H',Inv Y [] σ' H' s'∧σ'.drop n=(df n fx σ).drop n∧σ'.length=(df n fx σ).length∧tn i s'.heap∧(∀ b∈fp,H' b=none)∧W i k ys H') ?_ m0 ⟨0,[],_,H3,I4,rfl,rfl,tn4,fun b hb=>(f3 b hb).1.1,w0⟩
  rintro k s5 ⟨i,ys,σ5,H5,I5,ed,el,st5,fr5,w5⟩
  have I5:Inv Y [] (df n fx σ) H5 s5:=I5.weak el.symm fun j v e=>by
   obtain ⟨k',j',rfl,_,_⟩:=Fd e
   have q:=congrArg (fun l=>l[k']?) ed
   simp only [List.getElem?_drop] at q
   rw [q];exact e
  rcases hturn i k ys H5 w5 with ⟨stop,q⟩ | ⟨go,N',hN',step⟩
  ·refine wpAny_mono (T'.done Y rfl rfl rfl cY i [] s5 _ H5 (fun _ _=>False) I5 (stat fr5) st5 stop) (fun r s6 ⟨hr,I6⟩=>?_) fun _ _ z=>z
   subst hr
   exact fin I6 q
  ·rw [← xY]
   refine thn (T'.item Y rfl rfl rfl cY i [] s5 _ H5 Y.xe I5 (stat fr5) st5 go) fun r s6 ⟨u,hr,h6⟩=>?_
   subst hr
   show wpAny _ _ _ _ _ _
   refine thn h6 fun _ s7 ⟨x,H7,I7,r7,y7,st7,fr7⟩=>?_
   have I7':=I7.pinned (stat fr7) (T.obj _ _ st7)
   refine thn (hb'.1 _ s7 _ H7 x u _ I7' r7 (gk _ _ _ _ _ (fun σ' H' q e l=>(⟨q,e,l⟩:_∧_∧_)) (step x H7 y7))) fun _ s8 ⟨σ8,H8,I8,q8,ed8,el8⟩=>?_
   refine thn (hb'.2.1 _ s8 σ8 H8 _ I8 q8) fun ok s9 ⟨H9,I9,q9⟩=>?_
   have again:∀ {H10:Hp} {s10:Shared} {zs:List V},Inv Y ([]++Iz fp s7.heap) σ8 H10 s10→N' zs H10→
     ∃ m,m < k∧∃ i ys σ' H',Inv Y [] σ' H' s10∧σ'.drop n=(df n fx σ).drop n∧σ'.length=(df n fx σ).length∧tn i s10.heap∧(∀ b∈fp,H' b=none)∧W i m ys H':=fun {H10 s10 zs} I10 n10=>by
    obtain ⟨m',hm,w10⟩:=hN' _ _ n10
    refine ⟨m',hm,i + 1,zs,σ8,H10,I10.unpinned,ed8,el8,T.keep _ _ _ st7 fun b hb o e=>(I10.pin (b,o) (List.mem_append_right _ (List.mem_append_right _ (pc hb e)))).1,fun b hb=>?_,w10⟩
    obtain ⟨o,e,d⟩:=T.obj _ _ st7 b hb
    exact (I10.pin (b,o) (List.mem_append_right _ (List.mem_append_right _ (pc hb e)))).2.1
   cases ok with
   | false=>exact again I9 q9
   | true=>
     rw [if_pos rfl]
     refine thn (hb'.2.2 _ s9 σ8 H9 _ I9 q9) fun y s10 ⟨v',H10,I10,r10,hD10,hl10,n10⟩=>?_
     refine thn (lF (X:=Y) _ s10 σ8 H10 (.ref s2.heap.objs.size) [v'] (.ref s2.heap.objs.size) [y] (fun _ H'=>H'=upd H10 s2.heap.objs.size (.lst (ys++[v']))) I10 rfl (.cons r10 .nil) ⟨_,ys,v',rfl,rfl,hD10,hl10,rfl⟩) fun _ s11 ⟨_,H11,I11,_,e11⟩=>?_
     subst e11
     exact again I11 n10
 exact codeAny_compStart_list loop (T.self X.A 0 _ _ _ tn4 loop)
theorem ci {osc:Scope} {ON N:List Str} {n:Nat} {fx:List Nat} {sc:Scope} {elt tg iter:Expr} {ifs:List Expr} {pos:Pos} {wi:TI} {g:TG} {tc:TT} {te:TE}
  (hcalm:X.calm=true) (ho:X.env.scope=osc) (hN:X.N=ON) (S:OV osc ON N n fx sc=true) (hi:PI X tg iter wi) (gk:SN n g)
  (hb:∀ cl C fp s H,PG (nh X N sc cl C fp s H) tg g∧PTs (nh X N sc cl C fp s H) ifs tc∧PE (nh X N sc cl C fp s H) elt te)
  (hs:∀ x,foldedSetIterable iter X.env x=pure x:=by intro _;rfl):PE X (.ListComp elt [⟨tg,iter,ifs,0⟩] sc pos) (XA n fx wi g tc te):=by
 intro pins s σ H Q I h
 have S:=lX.of S
 obtain ⟨cl,hcl,hcl1,hcl2⟩:=Fe sc X.env fun y hy hf=>I.ok.has y.1 (by show X.env.scope.names.lookup y.1=some .cell∨X.env.scope.names.lookup y.1=some .free;rw [ho];exact S.fre y hy hf)
 rw [eval_ListComp]
 refine wpAny_comprehension_free (use:=none) rfl hs hcl S.kind S.own (Kc (RR:=fun acc C=>compPost (model X.prog X.w) X.A X.xe none (EP X pins σ Q) acc C) hcalm ho hN S hcl1 hcl2 hi gk hb I h ?_)
 intro D C H' s' I' hm hf q
 obtain ⟨m,hm⟩:=hm
 obtain ⟨f0,f1,f2,f3,f4,f5⟩:=hf
 exact ⟨m,hm,fun h' hsb=>⟨.ref D,H',I'.turned (t':=s'.toks) (fun b o hb e=>(hsb.2 b hb).trans e) f0 f1 f3 f4 f5,rfl,q⟩⟩
theorem c6 {i:Nat} {x:Str} {px:Pos} {spos:Pos} {osc:Scope} {ON N:List Str} {n:Nat} {fx:List Nat} {sc:Scope} {elt tg iter:Expr} {ifs:List Expr} {pos:Pos} {wi:TI} {g:TG} {tc:TT} {te:TE}
  (hnd:X.N.Nodup) (hx:X.N[i]? =some x) (hl:X.env.scope.names.lookup x=some .local) (hsw:swapsWith (.ListComp elt [⟨tg,iter,ifs,0⟩] sc pos) (some (.Name x px)) spos.line X.env=pure true)
  (hcalm:X.calm=true) (ho:X.env.scope=osc) (hN:X.N=ON) (S:OV osc ON N n fx sc=true) (hi:PI X tg iter wi) (gk:SN n g)
  (hb:∀ cl C fp s H,PG (nh X N sc cl C fp s H) tg g∧PTs (nh X N sc cl C fp s H) ifs tc∧PE (nh X N sc cl C fp s H) elt te)
  (hs:∀ x,foldedSetIterable iter X.env x=pure x:=by intro _;rfl):PS X (.Assign [.Name x px] (.ListComp elt [⟨tg,iter,ifs,0⟩] sc pos) spos) (tAsg (XA n fx wi g tc te) (VH i)):=by
 intro pins s σ H D I h
 have S:=lX.of S
 obtain ⟨cl,hcl,hcl1,hcl2⟩:=Fe sc X.env fun y hy hf=>I.ok.has y.1 (by show X.env.scope.names.lookup y.1=some .cell∨X.env.scope.names.lookup y.1=some .free;rw [ho];exact S.fre y hy hf)
 rw [exec_Assign_Name_used _ _ _ _ hsw]
 refine wpAny_bind (wpAny_standAt (wpAny_bind ?_))
 show wpAny _ X.A (do let _ ← comprehension (.ListComp elt [⟨tg,iter,ifs,0⟩] sc pos) sc X.env _ (newList []) false (eval iter X.env) (some (assign (.Name x px) X.env))) _ _ s
 refine wpAny_bind (thn (wpAny_comprehension_free (use:=some (assign (.Name x px) X.env)) (Q:=fun _ s'=>SP X pins D .next s') rfl hs hcl S.kind S.own
  (Kc (RR:=fun acc C=>compPost (model X.prog X.w) X.A X.xe (some (assign (.Name x px) X.env)) (fun _ s'=>SP X pins D .next s') acc C) hcalm ho hN S hcl1 hcl2 hi gk hb I h ?_)) fun _ s' q=>wpAny_pure (wpAny_pure q))
 intro D' C H' s' I' hm hf q
 obtain ⟨m,hm⟩:=hm
 obtain ⟨f0,f1,f2,f3,f4,f5⟩:=hf
 show wpAny _ X.A (assign (.Name x px) X.env (.ref D')) _ _ _
 refine wpAny_assign_Name (Ia I' hnd hx (.inl hl) (v:= .ref D') rfl (fun s2 I2 hch=>?_) (.inr hl))
 obtain ⟨a,hsb,ha⟩:=hch
 have hCa:C≠a:=by
  rcases ha with z | z
  ·rw [z];exact f1
  ·exact fun e=>f4 _ _ z e.symm
 exact ⟨m,hm.sameBut hsb hCa,fun h' hsb'=>⟨_,H',I2.turned (t':=s2.toks) (fun b o hb e=>(hsb'.2 b hb).trans e) f0 f1 f3 f4 f5,q⟩⟩
end
section
variable {K:PySem.W.Frag} {n:Nat} {fx:List Nat} {g:TG} {tc:TT} {te:TE} {σ:St} {H1:Hp} {D:Addr} {Q:Hp→Prop}
theorem g5 {lo:Int} {k:Nat} (Pv:Nat→List V→Hp→Prop) (h0:Pv 0 [] (upd H1 D (.lst [])))
  (hs:∀ i ys H,i < k→Pv i ys H→g (.int (lo + i)) (df n fx σ) H fun σ4 H4=>tc σ4 H4 fun b H5=>if b=true then te σ4 H5 fun v H6=>H6 D=some (.lst ys)∧ys.length < sizeLine∧Pv (i + 1) (ys++[v]) (upd H6 D (.lst (ys++[v]))) else Pv (i + 1) ys H5)
  (hd:∀ ys H,Pv k ys H→Q H):
  ∃ W:Nat→Nat→List V→Hp→Prop,(∃ m,W 0 m [] (upd H1 D (.lst [])))∧∀ i m ys H2,W i m ys H2→((Itr lo k).stop i H2∧Q H2)∨
    ((Itr lo k).go i H2∧∃ N:List V→Hp→Prop,(∀ ys' H',N ys' H'→∃ m',m' < m∧W (i + 1) m' ys' H')∧∀ x H3,(Itr lo k).yld i H2 x H3→g x (df n fx σ) H3 fun σ4 H4=>tc σ4 H4 fun b H5=>
      if b=true then te σ4 H5 fun v H6=>H6 D=some (.lst ys)∧ys.length < sizeLine∧N (ys++[v]) (upd H6 D (.lst (ys++[v]))) else N ys H5):=by
 refine ⟨fun i m ys H=>m=k - i∧i≤k∧Pv i ys H,⟨k,by simp,Nat.zero_le _,h0⟩,?_⟩
 rintro i m ys H ⟨rfl,hi,p⟩
 by_cases hlt:i < k
 ·refine .inr ⟨hlt,Pv (i + 1),fun ys' H' p'=>⟨k - (i + 1),by omega,rfl,hlt,p'⟩,fun x H' y=>?_⟩
  obtain ⟨e,y⟩:=y
  subst e;subst y
  exact hs i ys _ hlt p
 ·have e:i=k:=by omega
  subst e
  exact .inl ⟨Nat.le_refl _,hd ys H p⟩
theorem aX {a:Addr} {xs:List V} (Pv:Nat→List V→Hp→Prop) (h0:Pv 0 [] (upd H1 D (.lst []))) (hl:∀ i ys H,i≤xs.length→Pv i ys H→SqL K H a xs)
  (hs:∀ i x ys H,xs[i]? =some x→Pv i ys H→g x (df n fx σ) H fun σ4 H4=>tc σ4 H4 fun b H5=>if b=true then te σ4 H5 fun v H6=>H6 D=some (.lst ys)∧ys.length < sizeLine∧Pv (i + 1) (ys++[v]) (upd H6 D (.lst (ys++[v]))) else Pv (i + 1) ys H5)
  (hd:∀ ys H,Pv xs.length ys H→Q H):
  ∃ W:Nat→Nat→List V→Hp→Prop,(∃ m,W 0 m [] (upd H1 D (.lst [])))∧∀ i m ys H2,W i m ys H2→((Itl K a).stop i H2∧Q H2)∨
    ((Itl K a).go i H2∧∃ N:List V→Hp→Prop,(∀ ys' H',N ys' H'→∃ m',m' < m∧W (i + 1) m' ys' H')∧∀ x H3,(Itl K a).yld i H2 x H3→g x (df n fx σ) H3 fun σ4 H4=>tc σ4 H4 fun b H5=>
      if b=true then te σ4 H5 fun v H6=>H6 D=some (.lst ys)∧ys.length < sizeLine∧N (ys++[v]) (upd H6 D (.lst (ys++[v]))) else N ys H5):=by
 refine ⟨fun i m ys H=>m=xs.length - i∧i≤xs.length∧Pv i ys H,⟨xs.length,by simp,Nat.zero_le _,h0⟩,?_⟩
 rintro i m ys H ⟨rfl,hi,p⟩
 have q:=hl i ys H hi p
 by_cases hlt:i < xs.length
 ·refine .inr ⟨⟨xs,xs[i],q,by simp [hlt]⟩,Pv (i + 1),fun ys' H' p'=>⟨xs.length - (i + 1),by omega,rfl,hlt,p'⟩,fun x H' y=>?_⟩
  obtain ⟨e,y⟩:=y
  subst e
  exact hs i x ys _ (y xs q) p
 ·have e:i=xs.length:=by omega
  subst e
  exact .inl ⟨⟨xs,q,Nat.le_refl _⟩,hd ys H p⟩
theorem Hg {a:Addr} {xs:List V} (Pv:Nat→List V→Hp→Prop) (h0:Pv 0 [] (upd H1 D (.lst []))) (hl:∀ i ys H,i≤xs.length→Pv i ys H→SqT K H a xs)
  (hs:∀ i x ys H,xs[i]? =some x→Pv i ys H→g x (df n fx σ) H fun σ4 H4=>tc σ4 H4 fun b H5=>if b=true then te σ4 H5 fun v H6=>H6 D=some (.lst ys)∧ys.length < sizeLine∧Pv (i + 1) (ys++[v]) (upd H6 D (.lst (ys++[v]))) else Pv (i + 1) ys H5)
  (hd:∀ ys H,Pv xs.length ys H→Q H):
  ∃ W:Nat→Nat→List V→Hp→Prop,(∃ m,W 0 m [] (upd H1 D (.lst [])))∧∀ i m ys H2,W i m ys H2→((Itt K a).stop i H2∧Q H2)∨
    ((Itt K a).go i H2∧∃ N:List V→Hp→Prop,(∀ ys' H',N ys' H'→∃ m',m' < m∧W (i + 1) m' ys' H')∧∀ x H3,(Itt K a).yld i H2 x H3→g x (df n fx σ) H3 fun σ4 H4=>tc σ4 H4 fun b H5=>
      if b=true then te σ4 H5 fun v H6=>H6 D=some (.lst ys)∧ys.length < sizeLine∧N (ys++[v]) (upd H6 D (.lst (ys++[v]))) else N ys H5):=by
 refine ⟨fun i m ys H=>m=xs.length - i∧i≤xs.length∧Pv i ys H,⟨xs.length,by simp,Nat.zero_le _,h0⟩,?_⟩
 rintro i m ys H ⟨rfl,hi,p⟩
 have q:=hl i ys H hi p
 by_cases hlt:i < xs.length
 ·refine .inr ⟨⟨xs,xs[i],q,by simp [hlt]⟩,Pv (i + 1),fun ys' H' p'=>⟨xs.length - (i + 1),by omega,rfl,hlt,p'⟩,fun x H' y=>?_⟩
  obtain ⟨e,y⟩:=y
  subst e
  exact hs i x ys _ (y xs q) p
 ·have e:i=xs.length:=by omega
  subst e
  exact .inl ⟨⟨xs,q,Nat.le_refl _⟩,hd ys H p⟩
end
noncomputable def rj (K:PySem.W.Frag) (H:Hp) (x:V) (k:String):Prop:=match x with
 | .non=>k="NoneType"
 | .bl _=>k="bool"
 | .int _=>k="int"
 | .str _=>k="str"
 | .ref p=>(k="list"∧∃ xs,SqL K H p xs)∨(k="tuple"∧∃ xs,SqT K H p xs)∨(k="dict"∧∃ kvs,Rd H p (.dK kvs))
 | _=>False
noncomputable def subB (k T:String):Bool:=k == T||(k == "bool"&&T == "int")
noncomputable def rIsi (K:PySem.W.Frag):List V→Hp→VK→Prop:=fun xs H Q=>∃ x k T,xs=[x,.ty T]∧rj K H x k∧T∈["int","bool","str","list","tuple","dict"]∧Q (.bl (subB k T)) H
section
variable {X:Cx}
theorem Zi:rP X (.builtin "isinstance") (rIsi X.K):=by
 intro pins s σ H xs us Q I r h
 obtain ⟨x,k,T,rfl,hk,hT,q⟩:=h
 obtain ⟨u,v,rfl,rx,rt⟩:=Xt r
 cases rt
 have f0:∀ b,b=subB k T→EP X pins σ Q (.bool b) s:=fun b e=>⟨.bl b,H,I,rfl,by rw [e];exact q⟩
 have f1:∀ b,b=subB k T→EP X pins σ Q (.bool b) {s with toks:=s.toks + 1}:=fun b e=>⟨.bl b,H,I.tok _,rfl,by rw [e];exact q⟩
 simp only [List.mem_cons,List.not_mem_nil,or_false] at hT
 cases x with
 | non=>
   cases rx;cases hk
   rcases hT with rfl | rfl | rfl | rfl | rfl | rfl
   ·exact IsiPair.NoneType_int (f1 _ (by decide))
   ·exact IsiPair.NoneType_bool (f1 _ (by decide))
   ·exact IsiPair.NoneType_str (f1 _ (by decide))
   ·exact IsiPair.NoneType_list (f1 _ (by decide))
   ·exact IsiPair.NoneType_tuple (f1 _ (by decide))
   ·exact IsiPair.NoneType_dict (f1 _ (by decide))
 | bl b=>
   cases rx;cases hk
   rcases hT with rfl | rfl | rfl | rfl | rfl | rfl
   ·exact IsiPair.bool_int (f0 _ (by decide))
   ·exact IsiPair.bool_bool (f0 _ (by decide))
   ·exact IsiPair.bool_str (f1 _ (by decide))
   ·exact IsiPair.bool_list (f1 _ (by decide))
   ·exact IsiPair.bool_tuple (f1 _ (by decide))
   ·exact IsiPair.bool_dict (f1 _ (by decide))
 | int i=>
   obtain ⟨t,rfl⟩:=rx;cases hk
   rcases hT with rfl | rfl | rfl | rfl | rfl | rfl
   ·exact IsiPair.int_int (f0 _ (by decide))
   ·exact IsiPair.int_bool (f1 _ (by decide))
   ·exact IsiPair.int_str (f1 _ (by decide))
   ·exact IsiPair.int_list (f1 _ (by decide))
   ·exact IsiPair.int_tuple (f1 _ (by decide))
   ·exact IsiPair.int_dict (f1 _ (by decide))
 | str z=>
   obtain ⟨t,rfl⟩:=rx;cases hk
   rcases hT with rfl | rfl | rfl | rfl | rfl | rfl
   ·exact IsiPair.str_int (f1 _ (by decide))
   ·exact IsiPair.str_bool (f1 _ (by decide))
   ·exact IsiPair.str_str (f0 _ (by decide))
   ·exact IsiPair.str_list (f1 _ (by decide))
   ·exact IsiPair.str_tuple (f1 _ (by decide))
   ·exact IsiPair.str_dict (f1 _ (by decide))
 | ref p=>
   cases rx
   rcases hk with ⟨rfl,xs,hq⟩ | ⟨rfl,xs,hq⟩ | ⟨rfl,kvs,hq⟩
   ·obtain ⟨its,_,pl,_⟩:=I.list hq
    obtain ⟨o,ho,hc,_⟩:=pl.isList
    rcases hT with rfl | rfl | rfl | rfl | rfl | rfl
    ·exact IsiPair.list_int ho hc (f1 _ (by decide))
    ·exact IsiPair.list_bool ho hc (f1 _ (by decide))
    ·exact IsiPair.list_str ho hc (f1 _ (by decide))
    ·exact IsiPair.list_list ho hc (f0 _ (by decide))
    ·exact IsiPair.list_tuple ho hc (f1 _ (by decide))
    ·exact IsiPair.list_dict ho hc (f1 _ (by decide))
   ·obtain ⟨its,_,pl,_⟩:=I.tuple hq
    obtain ⟨o,ho,hc,_⟩:=pl
    rcases hT with rfl | rfl | rfl | rfl | rfl | rfl
    ·exact IsiPair.tuple_int ho hc (f1 _ (by decide))
    ·exact IsiPair.tuple_bool ho hc (f1 _ (by decide))
    ·exact IsiPair.tuple_str ho hc (f1 _ (by decide))
    ·exact IsiPair.tuple_list ho hc (f1 _ (by decide))
    ·exact IsiPair.tuple_tuple ho hc (f0 _ (by decide))
    ·exact IsiPair.tuple_dict ho hc (f1 _ (by decide))
   ·obtain ⟨_,_,_,_,o,_,_,ho,ex,_⟩:=hq.ok I.hok
    have hc:o.cls= .type "dict":=ex.1
    rcases hT with rfl | rfl | rfl | rfl | rfl | rfl
    ·exact IsiPair.dict_int ho hc (f1 _ (by decide))
    ·exact IsiPair.dict_bool ho hc (f1 _ (by decide))
    ·exact IsiPair.dict_str ho hc (f1 _ (by decide))
    ·exact IsiPair.dict_list ho hc (f1 _ (by decide))
    ·exact IsiPair.dict_tuple ho hc (f1 _ (by decide))
    ·exact IsiPair.dict_dict ho hc (f0 _ (by decide))
 | _=>exact False.elim hk
noncomputable def adX:V→List V→Hp→VK→Prop:=fun x xs H Q=>∃ i,x= .int i∧xs=[]∧Q (.int (Builtin.Int.intBits i:Nat)) H
theorem Mx:MtR X "int.bit_length" adX:=by
 intro pins s σ H x xs v us Q I rx rs h
 obtain ⟨i,rfl,rfl,q⟩:=h
 obtain ⟨t,rfl⟩:=rx
 cases rs
 exact call_int_bit_length ⟨.int _,H,I.tok _,⟨_,rfl⟩,q⟩
noncomputable def eqVs (xs ys:List V):Bool:=xs.length == ys.length&&(List.range xs.length).all fun j=>eqV (xs.getD j .non) (ys.getD j .non)
noncomputable def rEqL (K:PySem.W.Frag) (neg:Bool):R2:=fun x y H Q=>∃ a b xs ys,x= .ref a∧y= .ref b∧SqL K H a xs∧SqL K H b ys∧xs.all ox=true∧ys.all ox=true∧Q (.bl (if neg then !eqVs xs ys else eqVs xs ys)) H
theorem tW {xs:List V} {us:List Value} (r:Vals xs us) {j:Nat} (h:j < us.toArray.size):RelV (xs.getD j .non) (us.toArray[j]):=by
 have hl:=r.length
 have h':j < us.length:=by simpa using h
 obtain ⟨u,e,ru⟩:=r.get (i:=j) (x:=xs.getD j .non) (by rw [List.getD_eq_getElem?_getD,List.getElem?_eq_getElem (by omega)];rfl)
 have e2:us.toArray[j]=u:=by
  rw [List.getElem?_eq_getElem h'] at e
  have:=Option.some.inj e
  simpa using this
 rw [e2];exact ru
theorem M8 {xs:List V} (f:xs.all ox=true) (j:Nat):ox (xs.getD j .non)=true:=by
 rw [List.getD_eq_getElem?_getD]
 cases e:xs[j]? with
 | none=>rfl
 | some x=>exact List.all_eq_true.mp f x (List.mem_of_getElem? e)
theorem Ot {pins:List (Addr×Obj)} {σ:St} {H:Hp} {s:Shared} {a b:Addr} {xs ys:List V} {A:Around} (hu:A.units < cLine) (I:Inv X pins σ H s) (ha:SqL X.K H a xs) (hb:SqL X.K H b ys) (fx:xs.all ox=true) (fy:ys.all ox=true):
  SeqAt.RcAt A s (.ref a) (.ref b) (eqVs xs ys)∧SeqAt.RcNeAt A s (.ref a) (.ref b) (!eqVs xs ys):=by
 obtain ⟨its,r,pl,_⟩:=I.list ha
 obtain ⟨jts,r',pl',_⟩:=I.list hb
 have l1:=r.length
 have l2:=r'.length
 by_cases hl:xs.length=ys.length
 ·have e:eqVs xs ys=(List.range its.toArray.size).all fun j=>eqV (xs.getD j .non) (ys.getD j .non):=by
   unfold eqVs
   rw [hl,beq_self_eq_true,Bool.true_and,List.size_toArray,← l1,hl]
  rw [e]
  have hz:its.toArray.size=jts.toArray.size:=by simp;omega
  have he:∀ j (h1:j < its.toArray.size) (h2:j < jts.toArray.size),SeqAt.EqAt A.in1 s its.toArray[j] jts.toArray[j] (eqV (xs.getD j .non) (ys.getD j .non)):=fun j h1 h2=>
   aaw (tW r h1) (tW r' h2) (M8 fx j) (M8 fy j)
  exact ⟨SeqAt.RcAt.lists pl.isList pl'.isList hz hu he,SeqAt.RcNeAt.lists pl.isList pl'.isList hz hu he⟩
 ·have e:eqVs xs ys=false:=by
   unfold eqVs
   rw [beq_eq_false_iff_ne.mpr hl,Bool.false_and]
  rw [e]
  have hz:(its.toArray.size != jts.toArray.size)=true:=by simp;omega
  exact ⟨SeqAt.RcAt.lists_lengths pl.isList pl'.isList hz hu,SeqAt.RcNeAt.lists_lengths pl.isList pl'.isList hz hu⟩
theorem aej (hu:X.A.units < cLine):OpR X (compareOp .Eq) (rEqL X.K false):=by
 intro pins s σ H x y v u Q I rx ry h
 obtain ⟨a,b,xs,ys,rfl,rfl,ha,hb,fx,fy,q⟩:=h
 cases rx;cases ry
 exact (Ot hu I ha hb fx fy).1 X.prog X.w X.xe _ ⟨.bl _,H,I,rfl,q⟩
theorem aeg (hu:X.A.units < cLine):OpR X (compareOp .NotEq) (rEqL X.K true):=by
 intro pins s σ H x y v u Q I rx ry h
 obtain ⟨a,b,xs,ys,rfl,rfl,ha,hb,fx,fy,q⟩:=h
 cases rx;cases ry
 exact (Ot hu I ha hb fx fy).2 X.prog X.w X.xe _ ⟨.bl _,H,I,rfl,q⟩
end
theorem VN {xs:List V} (f:xs.all ox=true):eqVs xs xs=true:=by
 unfold eqVs
 rw [beq_self_eq_true,Bool.true_and,List.all_eq_true]
 intro j _
 have:=M8 f j
 generalize xs.getD j .non=x at this
 cases x<;>first | rfl | exact beq_self_eq_true _ | cases this
theorem lQ (a b:Nat):Builtin.bitAnd (a:Int) (b:Int)=((a&&&b:Nat):Int):=by
 unfold Builtin.bitAnd
 rw [decide_eq_true (Int.natCast_nonneg a),decide_eq_true (Int.natCast_nonneg b)]
 simp
theorem UQ:typeLookup (.type "list_reverseiterator") "__len__"=pure none:=by rw [typeLookup_type,builtinLookup_eq_fast];kernel_rfl
theorem YW:typeLookup (.type "list_reverseiterator") "__length_hint__"=pure (some (.builtin "list_reverseiterator.__length_hint__")):=by rw [typeLookup_type,builtinLookup_eq_fast];kernel_rfl
section
variable {P0:Program} {w0:World} {A0:Around} {E0':Value→Shared→Prop} {t0:Shared}
theorem RB {R:Result→Shared→Prop} {it l:Addr} {items:Array Value} (hh:A0.handled=none) (hne:l≠it) (hit:t0.heap.IsRevIter it l ((items.size:Int) - 1)) (hl:t0.heap.IsList l items) (hz:items.size≤sizeLine)
  (S:Addr) (res:Value) (c₀:Nat) (hS:t0.heap.get? S=some {cls:= .type "list",data:= .seq #[] c₀}) (hSi:S≠it) (hSl:S≠l)
  (hR:∀ h' tk acc' c',(∀ b o,b≠S→b≠it→t0.heap.get? b=some o→h'.get? b=some o)→h'.get? S=some {cls:= .type "list",dict:=none,data:= .seq acc' c',slots:=#[]}→
   ItemsOf (fun i v=>items[items.size - 1 - i]? =some v) acc' items.size→R (.ok (.ret res)) {t0 with heap:=h',toks:=tk}):
  wpAny (model P0 w0) A0.in1 (Builtin.List.listExtendWith (.ref S) (.ref it) res)
   (fun fin s'=>match fin with | .done f=>R (.ok f) s' | .again c'=>c'.quiet=true∧codeAny (model P0 w0) A0 c' R s') (fun e s'=>R (.error e) s') t0:=by
 have W:=(Walks.listRev (prog:=P0) (w:=w0) (A:=A0.in1) hh it l hne items).toS
 have st0:(0:Nat)≤items.size∧t0.heap.IsRevIter it l ((items.size:Int) - 1 - ((0:Nat):Int))∧t0.heap.IsList l items:=⟨Nat.zero_le _,by simpa using hit,hl⟩
 have h1:Builtin.List.listSameRef (.ref S) (.ref it)=false:=by simp [Builtin.List.listSameRef,hSi]
 have hSf:S∉[it,l]:=by simp [hSi,hSl]
 unfold Builtin.List.listExtendWith
 refine wpAny_bind (wpAny_typeOf hit.typeIs ?_)
 rw [if_neg (by rw [h1];decide)]
 refine wpAny_bind (wpAny_pyIter_revIter hit ?_)
 refine wpAny_bind (wpAny_holding ?_)
 unfold Builtin.List.listLengthHint
 refine wpAny_bind (wpAny_specialOf hit.typeIs UQ ?_)
 show wpAny _ A0.in1 (specialOf (Value.ref it) (Str.ofString "__length_hint__") >>=_) _ _ _
 refine wpAny_bind (wpAny_specialOf hit.typeIs YW ?_)
 (generalize hid:("list_reverseiterator.__length_hint__":String)=id0;wp_delta;rw [show splitId id0=some ("list_reverseiterator","__length_hint__") from by subst hid;decide +kernel];subst hid)
 refine wpAny_bind (wpAny_isInstance (b:=true) hit.typeIs (by rw [isSubtype_type];kernel_rfl) ?_)
 refine wpAny_pure ?_
 rw [if_neg (by decide)]
 refine wpAny_pure ⟨plainId_quiet F.plain_extend_loop _,codeAny_extend_loopS W hz S hSf res items.size 0 t0 #[] c₀ rfl (Nat.zero_le _) st0 hS (ItemsOf.nil _) fun s' acc' c' hm hS' hacc=>?_⟩
 rw [Moved.eq_with hm]
 refine hR s'.heap s'.toks acc' c' (fun b o hb hb2 e=>hm.heap b o (fun hmem=>?_) e) hS' hacc
 rcases List.mem_cons.mp hmem with z | z
 ·exact hb z
 ·exact hb2 (List.mem_singleton.mp z)
theorem YV {R:Result→Shared→Prop} {it l:Addr} {items:Array Value} (hh:A0.handled=none) (hne:l≠it) (hit:t0.heap.IsRevIter it l ((items.size:Int) - 1)) (hl:t0.heap.IsList l items) (hz:items.size≤sizeLine)
  (S:Addr) (hS:t0.heap.get? S=some {cls:= .type "list",data:= .seq #[]}) (hSi:S≠it) (hSl:S≠l)
  (hR:∀ h' tk acc' c',(∀ b o,b≠S→b≠it→t0.heap.get? b=some o→h'.get? b=some o)→h'.get? S=some {cls:= .type "list",dict:=none,data:= .seq acc' c',slots:=#[]}→
   ItemsOf (fun i v=>items[items.size - 1 - i]? =some v) acc' items.size→R (.ok (.ret .none)) {t0 with heap:=h',toks:=tk}):
  wpAny (model P0 w0) A0.in1 (Builtin.«list.__init__» ⟨[.ref S,.ref it],[]⟩)
   (fun fin s'=>match fin with | .done f=>R (.ok f) s' | .again c'=>c'.quiet=true∧codeAny (model P0 w0) A0 c' R s') (fun e s'=>R (.error e) s') t0:=by
 show wpAny _ _ (do let old ← Builtin.List.listItems (.ref S);Builtin.List.listUpdate (.ref S) (fun _=>#[]);letGo old.toList.reverse;Builtin.List.listExtendWith (.ref S) (.ref it) .none) _ _ t0
 refine wpAny_bind ?_
 unfold Builtin.List.listItems
 refine wpAny_bind (wpAny_seqItems hS rfl (wpAny_pure ?_))
 show wpAny _ _ (updateSeq S (fun _=>#[]) >>=fun _=>letGo (#[]:Array Value).toList.reverse >>=fun _=>Builtin.List.listExtendWith (.ref S) (.ref it) .none) _ _ t0
 refine wpAny_bind (wpAny_updateSeq hS rfl ?_)
 have hS2:=Heap.get?_update_self (Obj.mapSeq (fun _=>(#[]:Array Value))) hS rfl
 have oth:∀ b o,b≠S→t0.heap.get? b=some o→(t0.heap.update S (Obj.mapSeq (fun _=>(#[]:Array Value)))).get? b=some o:=fun b o hb e=>(Heap.get?_update_other _ _ (Ne.symm hb)).trans e
 refine wpAny_bind (wpAny_letGo ?_)
 refine RB hh hne (hit.at fun o e=>oth it o (Ne.symm hSi) e) (let ⟨o,e,c⟩:=hl;⟨o,oth l o (Ne.symm hSl) e,c⟩) hz S .none _ hS2 hSi hSl fun h' tk acc' c' hk hS' hacc=>?_
 exact hR h' tk acc' c' (fun b o hb hb2 e=>hk b o hb hb2 (oth b o hb e)) hS' hacc
theorem Hi {Q:Value→Shared→Prop} {it l:Addr} {items:Array Value} (hh:A0.handled=none) (hne:l≠it) (hit:t0.heap.IsRevIter it l ((items.size:Int) - 1)) (hl:t0.heap.IsList l items) (hz:items.size≤sizeLine)
  (hQ:∀ h' tk acc' c',(∀ b o,b≠it→t0.heap.get? b=some o→h'.get? b=some o)→h'.get? t0.heap.objs.size=some {cls:= .type "list",dict:=none,data:= .seq acc' c',slots:=#[]}→
   ItemsOf (fun i v=>items[items.size - 1 - i]? =some v) acc' items.size→Q (.ref t0.heap.objs.size) {t0 with heap:=h',toks:=tk}):
  wpAny (model P0 w0) A0 (call (.type "list") [.ref it]) Q E0' t0:=by
 have lt1:it < t0.heap.objs.size:=let ⟨o,e,_⟩:=hit;Heap.lt_size e
 have lt2:l < t0.heap.objs.size:=let ⟨o,e,_⟩:=hl;Heap.lt_size e
 refine callType_codes (Q₁:=fun obj s₁=>obj= .ref t0.heap.objs.size∧s₁={t0 with heap:=t0.heap.push {cls:= .type "list",data:= .seq #[]}}) F.called_list (F.typeCall_list_1 _) F.entry_list_init (code_list_new _ ⟨rfl,rfl⟩) fun obj s₁ h₁=>?_
 obtain ⟨rfl,rfl⟩:=h₁
 have hS:(t0.heap.push {cls:= .type "list",data:= .seq #[]}).get? t0.heap.objs.size=some {cls:= .type "list",data:= .seq #[]}:=Heap.get?_push_size _ rfl
 refine ⟨⟨_,hS,rfl⟩,F.args_list_init_2 _ _,YV (A0:=A0.in1) hh hne (hit.at fun o e=>Heap.get?_push_of_some _ e) (let ⟨o,e,c⟩:=hl;⟨o,Heap.get?_push_of_some _ e,c⟩) hz _ hS (Ne.symm (Nat.ne_of_lt lt1)) (Ne.symm (Nat.ne_of_lt lt2)) fun h' tk acc' c' hk hS' hacc=>?_⟩
 exact ⟨rfl,hQ h' tk acc' c' (fun b o hb e=>hk b o (Nat.ne_of_lt (Heap.lt_size e)) hb (Heap.get?_push_of_some _ e)) hS' hacc⟩
end
theorem Inv.laidT {X:Cx} {pins:List (Addr×Obj)} {σ:St} {H:Hp} {s:Shared} {h':Heap} {a it:Addr} {o:HO} {t':Nat} (I:Inv X pins σ H s) (k:∀ b u,b≠it→s.heap.get? b=some u→h'.get? b=some u) (hp:s.heap.objs.size≤a)
  (new:gI X.prog X.w (upd H a o) h' a o) (fp:FpOk X pins H it):Inv X pins σ (upd H a o) {s with heap:=h',toks:=t'}:=by
 obtain ⟨f0,f1,f2,f3,f4,f5⟩:=fp
 have fr:H a=none:=I.hok.fresh hp
 have nit:∀ b u,H b=some u→b≠it:=fun b u e z=>by rw [z,f0] at e;cases e
 have nci:∀ {b:Addr},b∉[it]→b≠it:=fun hb z=>hb (by rw [z];exact List.mem_singleton.mpr rfl)
 refine I.step (g':=s.gens) (d':=s.drawn) (ch:=[it]) (fun b hb=>?_) (fun b ob _ _ hc e _=>k b ob (nci hc) e) (fun b ob _ _ hc e _=>⟨ob.slots,k b ob (nci hc) e⟩) (fun b ob _ e n=>?_) (fun b ob hc e=>⟨ob,k b ob (nci hc) e⟩)
  (fun b xs e=>by rw [aB (ai e fr)];exact e) (fun b ob u e=>by rw [aB (ai e fr)];exact e) (fun b ps e=>⟨#[],by rw [aB (ai e fr),e];simp⟩) (fun m hm=>?_) (fun b u e=>?_) I.bare
 ·have e:b=it:=List.mem_singleton.mp hb
  subst e
  exact ⟨f3,f1,f4,f5⟩
 ·rw [aB (Nat.ne_of_lt (Nat.lt_of_lt_of_le (Heap.lt_size e) hp))];exact n
 ·obtain ⟨ob,es,ep,ho,r⟩:=hm
  exact ⟨ob,es,ep,k _ ob (Ne.symm f1) ho,r⟩
 ·by_cases hb:b=a
  ·subst hb;rw [av] at e;cases e;exact new
  ·rw [aB hb] at e
   refine (I.hok b u e).stay (fun c v hc q=>k c v ?_ q) (fun c q=>by rw [aB (ai q fr)];exact q) fun c xs q=>by rw [aB (ai q fr)];exact q
   rcases hc with z | z
   ·rw [z];exact nit b u e
   ·exact nit c _ z
theorem Vu {its:List Value} {acc:Array Value} (h:ItemsOf (fun i v=>its.toArray[its.toArray.size - 1 - i]? =some v) acc its.toArray.size):acc=its.reverse.toArray:=by
 obtain ⟨h1,h2⟩:=h
 apply Array.ext_getElem?
 intro i
 have hs:its.toArray.size=its.length:=by simp
 by_cases hi:i < acc.size
 ·have e:=h2 i acc[i] (Array.getElem?_eq_getElem hi)
  rw [Array.getElem?_eq_getElem hi,← e]
  rw [List.getElem?_toArray,List.getElem?_toArray,List.getElem?_reverse (by omega),hs]
 ·rw [Array.getElem?_eq_none (by omega),Array.getElem?_eq_none (by simp;omega)]
noncomputable def tRev (K:PySem.W.Frag) (te:TE):TE:=fun σ H Q=>te σ H fun x H1=>∃ a xs,x= .ref a∧SqL K H1 a xs∧∀ l,H1 l=none→Q (.ref l) (upd H1 l (.lst xs.reverse))
section
variable {X:Cx}
theorem EN {e:Expr} {te:TE} {p1 p2 q1 q2:Pos} (g1:Gl X "list") (g2:Gl X "reversed") (n1:X.mg "list"=none) (n2:X.mg "reversed"=none) (hc:X.calm=true) (he:PE X e te)
  (h1:starEach [Expr.Call (.Name "reversed" p1) [e] [] p2] X.env=[(false,eval (.Call (.Name "reversed" p1) [e] [] p2) X.env)]:=by rfl) (h2:starEach [e] X.env=[(false,eval e X.env)]:=by rfl):
  PE X (.Call (.Name "list" q1) [.Call (.Name "reversed" p1) [e] [] p2] [] q2) (tRev X.K te):=by
 intro pins s σ H Q I h
 have inner:∀ Q':Value→Shared→Prop,(∀ v s1,(∃ a xs its H1 r,v= .ref r∧SqL X.K H1 a xs∧Vals xs its∧a≠r∧Inv X pins σ H1 s1∧s1.heap.IsRevIter r a ((its.toArray.size:Int) - 1)∧s1.heap.IsList a its.toArray∧its.length≤sizeLine∧H1 r=none∧FpOk X pins H1 r∧(∀ l,H1 l=none→Q (.ref l) (upd H1 l (.lst xs.reverse))))→Q' v s1)→
   wpAny (model X.prog X.w) X.A (eval (.Call (.Name "reversed" p1) [e] [] p2) X.env) Q' X.xe s:=fun Q' hQ'=>by
  refine Call_ (nc I g2 n2 PyProof.Rows.boot_reversed (PyProof.Rows.callWith_type1 (thn (aa he ae h2 p2 pins s σ H (fun vs H1=>match vs with | [x]=>∃ a xs,x= .ref a∧SqL X.K H1 a xs∧∀ l,H1 l=none→Q (.ref l) (upd H1 l (.lst xs.reverse)) | _=>False) I h) fun us s1 ⟨vs,H1,I1,r1,q1⟩=>?_) h2 rfl))
  match vs,r1,q1 with
  | [x],r1,⟨a,xs,e1,hq,q⟩=>
  obtain ⟨u,rfl,ru⟩:=r1.one
  subst e1
  cases ru
  obtain ⟨its,rv,pl,hz⟩:=I1.list hq
  have lt:a < s1.heap.objs.size:=let ⟨o,e,_⟩:=pl.isList;Heap.lt_size e
  refine call_reversed_list pl.isList (hQ' _ _ ⟨a,xs,its,H1,s1.heap.objs.size,rfl,hq,rv,Nat.ne_of_lt lt,I1.kept (t':=s1.toks) fun b o e=>Heap.get?_push_of_some _ e,⟨_,Heap.get?_push_size _ rfl,rfl,rfl⟩,let ⟨o,e,c⟩:=pl.isList;⟨o,Heap.get?_push_of_some _ e,c⟩,by rw [← rv.length];exact hz,I1.fresh,I1.fpOk (Nat.le_refl _) I1.fresh,q⟩)
 refine Call_ (nc I g1 n1 PyProof.Rows.boot_list (PyProof.Rows.callWith_type1 (Q:=EP X pins σ Q) ?_ h1 rfl))
 rw [h1]
 show wpAny _ _ (spliced ((false,eval (.Call (.Name "reversed" p1) [e] [] p2) X.env)::backTo q2 [])) _ _ s
 refine Calls.spliced_cons (inner _ fun v s1 hv=>Calls.spliced_nil ?_)
 obtain ⟨a,xs,its,H1,r,rfl,hq,rv,hne,I1,hit,hl,hz,hf,fp,q⟩:=hv
 refine Hi (I1.ok.hd hc) hne hit hl (by simpa using hz) fun h' tk acc c hk hS hacc=>?_
 have e:=Vu hacc
 subst e
 exact ⟨.ref s1.heap.objs.size,upd H1 s1.heap.objs.size (.lst xs.reverse),I1.laidT hk (Nat.le_refl _) ⟨by rw [List.length_reverse,rv.length];exact hz,its.reverse,c,rv.reverse,hS⟩ fp,rfl,q _ I1.fresh⟩
end
section
variable {X:Cx} {K:PySem.W.Frag}
theorem bv (h:X.K=K):IxR X (rIxL K):=by subst h;exact ab4
theorem bg (h:X.K=K):IxR X (rIxT K):=by subst h;exact aeF
theorem o0 (h:X.K=K):SlR X (rSlL K):=by subst h;exact abe
theorem abD (h:X.K=K) (hu:X.A.units < cLine):OpR X (compareOp .Eq) (rEqL K false):=by subst h;exact aej hu
theorem LC (h:X.K=K) (hu:X.A.units < cLine):OpR X (compareOp .NotEq) (rEqL K true):=by subst h;exact aeg hu
theorem lP (h:X.K=K):rP X (.builtin "isinstance") (rIsi K):=by subst h;exact Zi
noncomputable def rLen (K:PySem.W.Frag):List V→Hp→VK→Prop:=fun xs H Q=>∃ x n,xs=[x]∧LenV K x H n∧Q (.int n) H
theorem aK (h:X.K=K):rP X (.builtin "len") (rLen K):=by subst h;exact Zh
noncomputable def Lj (K:PySem.W.Frag):List V→Hp→VK→Prop:=fun xs H Q=>∃ p ys,xs=[.ref p]∧(SqL K H p ys∨SqT K H p ys)∧∀ l,H l=none→Q (.ref l) (upd H l (.lst ys))
theorem cg (h:X.K=K):rP X (.type "list") (Lj K):=by subst h;exact Kg
noncomputable def T4 (K:PySem.W.Frag):List V→Hp→VK→Prop:=fun xs H Q=>∃ p ys,xs=[.ref p]∧((SqL K H p ys∧∀ l,H l=none→Q (.ref l) (upd H l (.tup ys)))∨(SqT K H p ys∧Q (.ref p) H))
theorem du (h:X.K=K):rP X (.type "tuple") (T4 K):=by subst h;exact Hh
theorem aR {tg l:Expr} {tl:TE} (h:X.K=K) (hl:PE X l tl):PI X tg l (ab6 K tl):=by subst h;exact abB hl
theorem md {tg l:Expr} {tl:TE} (h:X.K=K) (hl:PE X l tl):PI X tg l (iTup K tl):=by subst h;exact ad6 hl
theorem Lz {o:Expr} {to:TE} {name:Str} {apos cpos:Pos} {T id:String} {r:V→List V→Hp→VK→Prop} (h:X.K=K) (pa:PlainAttrs T) (slot:Slot T name id) (hty:typeOf (.builtin id)=pure (.type "method_descriptor")) (hm:MtR X id r) (ho:PE X o to)
  (hbase:attributeBase o name X.env (eval o X.env)=eval o X.env:=by rfl) (hline:(apos.endLine == cpos.line)=true:=by rfl):PE X (.Call (.Attribute o name apos) [] [] cpos) (tBM0 K T r to):=by subst h;exact aed pa slot hty hm ho hbase hline
theorem iO {o e:Expr} {es:List Expr} {to:TE} {t:TA} {name:Str} {apos cpos:Pos} {T id:String} {r:V→List V→Hp→VK→Prop} (h:X.K=K) (pa:PlainAttrs T) (slot:Slot T name id) (hty:typeOf (.builtin id)=pure (.type "method_descriptor")) (hm:MtR X id r) (ho:PE X o to) (ha:PA X (e::es) t)
  (hbase:attributeBase o name X.env (eval o X.env)=eval o X.env:=by rfl)
  (hfew:((backTo cpos (starEach (e::es) X.env)).all (fun x=> !x.1)&&(backToKw cpos (keywordEach [] X.env)).all (fun x=>x.1.isSome)
   &&decide ((e::es).length + ([]:List Keyword).length + (if ([]:List Keyword).isEmpty then 0 else 1) < 30))=true:=by rfl)
  (hline:(apos.endLine == cpos.line)=true:=by rfl) (hs:starEach (e::es) X.env=(false,eval e X.env)::starEach es X.env:=by rfl) (hplain:(backTo cpos (starEach es X.env)).any (·.1)=false:=by rfl):
  PE X (.Call (.Attribute o name apos) (e::es) [] cpos) (tBM K T r to t):=by subst h;exact afU pa slot hty hm ho ha hbase hfew hline hs hplain
end
noncomputable def Its (x:Str):It:=⟨fun i _=>i < x.cps.size,fun i H v H'=>H'=H∧∃ c,x.cps[i]? =some c∧v= .str ⟨#[c]⟩,fun i _=>i=x.cps.size⟩
theorem Ol {P:Program} {w:World} {K:PySem.W.Frag} {tg:Expr} {it:Addr} {x:Str} {t:Tok} {n:String}
  (hn:["enumerate","zip","dict_itemiterator","dict_reverseitemiterator","odict_iterator","itertools.zip_longest","itertools.pairwise"].contains n=false)
  (W:∀ A:Around,A.handled=none→Walks P w A it [it] [it] x.cps.size (SignAt x) (fun i h=>h.IsStrIter it n x t i))
  (hself:∀ (A:Around) (i:Nat) (s:Shared) (Q:Value→Shared→Prop) (E:Value→Shared→Prop),s.heap.IsStrIter it n x t i→Q (.ref it) s→wpAny (model P w) A (pyIter (.ref it)) Q E s):
  Turn P w K tg (Its x) [it] it (fun i h=>h.IsStrIter it n x t i) where
 mem:=by simp
 obj:=fun i h st b hb=>by
  have e:b=it:=by simpa using hb
  subst e
  obtain ⟨o,e,c,d⟩:=st
  exact ⟨o,e,fun v z=>by rw [d] at z;cases z⟩
 keep:=fun i h h' st k=>let ⟨o,e,r⟩:=st;⟨o,k it (by simp) o e,r⟩
 item:=by
  intro X hP hw hK hc i pins s σ H E I hf st hg
  subst hP hw hK
  obtain ⟨f0,f1,f2,f3,f4,f5⟩:=hf it (by simp)
  refine (W X.A (I.ok.hd hc)).item i s _ _ hg st fun v h' tk hv st' kk=>?_
  obtain ⟨c,u,hx,rfl⟩:=hv
  have I1:Inv X pins σ H {s with heap:=h',toks:=tk}:=I.turned (fun b o hb e=>kk b o (by simpa using hb) e) f0 f1 f3 f4 f5
  obtain ⟨o,e,c',d⟩:=id st'
  exact ⟨_,rfl,Y0 (s:={s with heap:=h',toks:=tk}) (n:=n) e c' d hn ⟨.str ⟨#[c]⟩,H,I1,⟨u,rfl⟩,⟨rfl,c,hx,rfl⟩,st',fun b hb=>(hf b hb).1⟩⟩
 done:=by
  intro X hP hw hK hc i pins s σ H E I hf st hg
  subst hP hw hK
  obtain ⟨f0,f1,f2,f3,f4,f5⟩:=hf it (by simp)
  have hg:i=x.cps.size:=hg
  subst hg
  exact (W X.A (I.ok.hd hc)).done s _ _ st fun h' tk kk=>⟨rfl,I.turned (fun b o hb e=>kk b o (by simpa using hb) e) f0 f1 f3 f4 f5⟩
 self:=hself
noncomputable def iStr (tl:TE):TI:=fun σ H R=>tl σ H fun x H1=>∃ z,x= .str z∧R (Its z) H1
section
variable {X:Cx} {tg:Expr}
theorem ad7 {l:Expr} {tl:TE} (hl:PE X l tl):PI X tg l (iStr tl):=by
 intro pins s σ H R I h
 refine thn (hl pins s σ H _ I h) fun v s1 ⟨x,H1,I1,r1,q1⟩=>?_
 obtain ⟨z,e,q⟩:=q1
 subst e
 obtain ⟨t,rfl⟩:=r1
 have fp:∀ (o:Obj),∀ b∈[s1.heap.objs.size],FpOk X pins H1 b:=fun o b hb=>by
  have e:b=s1.heap.objs.size:=by simpa using hb
  subst e
  exact I1.fpOk (Nat.le_refl _) (I1.hok.fresh (Nat.le_refl _))
 cases ha:z.cps.all (· < 128)
 ·refine wpAny_pyIter_wide ha ⟨s1.heap.objs.size,[s1.heap.objs.size],_,_,H1,rfl,I1.kept (t':=s1.toks) fun b o e=>Heap.get?_push_of_some _ e,
   Ol (n:="str_iterator") (t:=t) (by decide) (fun A hA=>Walks.strWide hA _ z t) (fun _ _ _ _ _ st h=>wpAny_pyIter_striter_wide st h),⟨_,Heap.get?_push_size _ rfl,rfl,rfl⟩,fp default,q⟩
 ·refine wpAny_pyIter_ascii ha ⟨s1.heap.objs.size,[s1.heap.objs.size],_,_,H1,rfl,I1.kept (t':=s1.toks) fun b o e=>Heap.get?_push_of_some _ e,
   Ol (n:="str_ascii_iterator") (t:=t) (by decide) (fun A hA=>Walks.strAscii hA _ z t) (fun _ _ _ _ _ st h=>wpAny_pyIter_striter_ascii st h),⟨_,Heap.get?_push_size _ rfl,rfl,rfl⟩,fp default,q⟩
end
section
variable {n:Nat} {fx:List Nat} {g:TG} {tc:TT} {te:TE} {σ:St} {H1:Hp} {D:Addr} {Q:Hp→Prop}
theorem Zf {z:Str} (Pv:Nat→List V→Hp→Prop) (h0:Pv 0 [] (upd H1 D (.lst [])))
  (hs:∀ i c ys H,z.cps[i]? =some c→Pv i ys H→g (.str ⟨#[c]⟩) (df n fx σ) H fun σ4 H4=>tc σ4 H4 fun b H5=>if b=true then te σ4 H5 fun v H6=>H6 D=some (.lst ys)∧ys.length < sizeLine∧Pv (i + 1) (ys++[v]) (upd H6 D (.lst (ys++[v]))) else Pv (i + 1) ys H5)
  (hd:∀ ys H,Pv z.cps.size ys H→Q H):
  ∃ W:Nat→Nat→List V→Hp→Prop,(∃ m,W 0 m [] (upd H1 D (.lst [])))∧∀ i m ys H2,W i m ys H2→((Its z).stop i H2∧Q H2)∨
    ((Its z).go i H2∧∃ N:List V→Hp→Prop,(∀ ys' H',N ys' H'→∃ m',m' < m∧W (i + 1) m' ys' H')∧∀ x H3,(Its z).yld i H2 x H3→g x (df n fx σ) H3 fun σ4 H4=>tc σ4 H4 fun b H5=>
      if b=true then te σ4 H5 fun v H6=>H6 D=some (.lst ys)∧ys.length < sizeLine∧N (ys++[v]) (upd H6 D (.lst (ys++[v]))) else N ys H5):=by
 refine ⟨fun i m ys H=>m=z.cps.size - i∧i≤z.cps.size∧Pv i ys H,⟨z.cps.size,by simp,Nat.zero_le _,h0⟩,?_⟩
 rintro i m ys H ⟨rfl,hi,p⟩
 by_cases hlt:i < z.cps.size
 ·refine .inr ⟨hlt,Pv (i + 1),fun ys' H' p'=>⟨z.cps.size - (i + 1),by omega,rfl,hlt,p'⟩,fun x H' y=>?_⟩
  obtain ⟨e,c,hc,y⟩:=y
  subst e;subst y
  exact hs i c ys _ hc p
 ·have e:i=z.cps.size:=by omega
  subst e
  exact .inl ⟨rfl,hd ys H p⟩
end
theorem Pq {ns:List Str}:∀ {us:List Value},Vals (ns.map V.str) us→StrsAre us ns:=by
 induction ns with
 | nil=>intro us r;rw [List.map_nil] at r;cases r;exact .nil
 | cons n ns ih=>
   intro us r
   rw [List.map_cons] at r
   cases r with
   | cons r1 r2=>
     obtain ⟨t,e⟩:=r1
     subst e
     exact .cons n t (ih r2)
noncomputable def adW (K:PySem.W.Frag):V→List V→Hp→VK→Prop:=fun x xs H Q=>∃ z D ys,x= .str z∧xs=[.ref D]∧SqL K H D (ys.map V.str)∧(ys.map (·.length)).sum + ys.length * z.length≤16777216∧Q (.str (Txt.join z ys)) H
noncomputable def adZ (K:PySem.W.Frag):List V→Hp→VK→Prop:=fun xs H Q=>∃ (a:Addr) (bs:List Bool),xs=[.ref a]∧SqL K H a (bs.map V.bl)∧Q (.bl (bs.all id)) H
noncomputable def adY (K:PySem.W.Frag):List V→Hp→VK→Prop:=fun xs H Q=>∃ (a:Addr) (bs:List Bool),xs=[.ref a]∧SqL K H a (bs.map V.bl)∧Q (.bl (bs.any id)) H
section
variable {X:Cx} {K:PySem.W.Frag}
theorem OP (h:X.K=K):MtR X "str.join" (adW K):=by
 subst h
 intro pins s σ H x xs v us Q I rx rs h
 obtain ⟨z,D,ys,rfl,rfl,hq,hz,q⟩:=h
 obtain ⟨t,rfl⟩:=rx
 obtain ⟨u,rfl,ru⟩:=yL rs
 cases ru
 obtain ⟨its,rv,pl,_⟩:=I.list hq
 exact join_list pl.isList (Pq (by simpa using rv)) hz fun t' k=>⟨.str (Txt.join z ys),H,I.tok k,⟨t',rfl⟩,q⟩
theorem Wl {bs:List Bool} {its:List Value} (rv:Vals (bs.map V.bl) its) {i:Nat} {v:Value} (h:its.toArray[i]? =some v):v= .bool (bs.getD i false):=by
 have h':its[i]? =some v:=by simpa using h
 have hi:i < its.length:=(List.getElem?_eq_some_iff.mp h').1
 have hl:=rv.length
 rw [List.length_map] at hl
 obtain ⟨u,e,r⟩:=rv.get (i:=i) (x:= .bl (bs.getD i false)) (by rw [List.getElem?_map,List.getElem?_eq_getElem (by omega),List.getD_eq_getElem?_getD,List.getElem?_eq_getElem (by omega)];rfl)
 rw [h'] at e
 cases e
 exact r
theorem ae9 (bs:List Bool):(List.range bs.length).all (fun i=>bs.getD i false)=bs.all id:=by
 rw [Bool.eq_iff_iff,List.all_eq_true,List.all_eq_true]
 constructor
 ·intro h x hx
  obtain ⟨i,hi,e⟩:=List.mem_iff_getElem.mp hx
  have:=h i (List.mem_range.mpr hi)
  rw [List.getD_eq_getElem?_getD,List.getElem?_eq_getElem hi,e] at this
  exact this
 ·intro h i hi
  have hi:=List.mem_range.mp hi
  rw [List.getD_eq_getElem?_getD,List.getElem?_eq_getElem hi]
  exact h _ (List.getElem_mem hi)
theorem ae7 (bs:List Bool):(List.range bs.length).any (fun i=>bs.getD i false)=bs.any id:=by
 rw [Bool.eq_iff_iff,List.any_eq_true,List.any_eq_true]
 constructor
 ·rintro ⟨i,hi,h⟩
  have hi:=List.mem_range.mp hi
  rw [List.getD_eq_getElem?_getD,List.getElem?_eq_getElem hi] at h
  exact ⟨_,List.getElem_mem hi,h⟩
 ·rintro ⟨x,hx,h⟩
  obtain ⟨i,hi,e⟩:=List.mem_iff_getElem.mp hx
  refine ⟨i,List.mem_range.mpr hi,?_⟩
  rw [List.getD_eq_getElem?_getD,List.getElem?_eq_getElem hi,e]
  exact h
theorem tm (h:X.K=K) (hc:X.calm=true):rP X (.builtin "all") (adZ K):=by
 subst h
 intro pins s σ H xs us Q I r h
 obtain ⟨a,bs,rfl,hq,q⟩:=h
 obtain ⟨u,rfl,ru⟩:=yL r
 cases ru
 obtain ⟨its,rv,pl,hz⟩:=I.list hq
 have lt:a < s.heap.objs.size:=let ⟨o,e,_⟩:=pl.isList;Heap.lt_size e
 have hl:its.toArray.size=bs.length:=by have:=rv.length;rw [List.length_map] at this;simp [this]
 refine call_all_walk (wpAny_pyIter_list pl.isList ⟨s.heap.objs.size,_,_,its.toArray.size,_,_,fun i=>bs.getD i false,rfl,Walks.list (A:=X.A.in1) (I.ok.hd hc) s.heap.objs.size a (Nat.ne_of_lt lt) its.toArray,⟨⟨_,Heap.get?_push_size _ rfl,rfl,rfl⟩,let ⟨o,e,c⟩:=pl.isList;⟨o,Heap.get?_push_of_some _ e,c⟩⟩,fun i v s Q E hv hQ=>by rw [Wl rv hv];exact wpAny_truthy_bool hQ,fun h' tk kk=>?_⟩)
 rw [hl,ae9]
 exact ⟨.bl _,H,I.kept (fun b o e=>kk b o (fun hm=>by have:=Heap.lt_size e;rw [List.mem_singleton.mp hm] at this;exact absurd this (Nat.lt_irrefl _)) (Heap.get?_push_of_some _ e)),rfl,q⟩
theorem Kh (h:X.K=K) (hc:X.calm=true):rP X (.builtin "any") (adY K):=by
 subst h
 intro pins s σ H xs us Q I r h
 obtain ⟨a,bs,rfl,hq,q⟩:=h
 obtain ⟨u,rfl,ru⟩:=yL r
 cases ru
 obtain ⟨its,rv,pl,hz⟩:=I.list hq
 have lt:a < s.heap.objs.size:=let ⟨o,e,_⟩:=pl.isList;Heap.lt_size e
 have hl:its.toArray.size=bs.length:=by have:=rv.length;rw [List.length_map] at this;simp [this]
 refine call_any_walk (wpAny_pyIter_list pl.isList ⟨s.heap.objs.size,_,_,its.toArray.size,_,_,fun i=>bs.getD i false,rfl,Walks.list (A:=X.A.in1) (I.ok.hd hc) s.heap.objs.size a (Nat.ne_of_lt lt) its.toArray,⟨⟨_,Heap.get?_push_size _ rfl,rfl,rfl⟩,let ⟨o,e,c⟩:=pl.isList;⟨o,Heap.get?_push_of_some _ e,c⟩⟩,fun i v s Q E hv hQ=>by rw [Wl rv hv];exact wpAny_truthy_bool hQ,fun h' tk kk=>?_⟩)
 rw [hl,ae7]
 exact ⟨.bl _,H,I.kept (fun b o e=>kk b o (fun hm=>by have:=Heap.lt_size e;rw [List.mem_singleton.mp hm] at this;exact absurd this (Nat.lt_irrefl _)) (Heap.get?_push_of_some _ e)),rfl,q⟩
end
inductive Dt where
 | non | bl (b:Bool) | int (i:Int) | str (x:Str) | lst (xs:List Dt) | tup (xs:List Dt)
inductive Rep (K:PySem.W.Frag) (H:Hp):V→Dt→Prop where
 | non:Rep K H .non .non
 | bl (b:Bool):Rep K H (.bl b) (.bl b)
 | int (i:Int):Rep K H (.int i) (.int i)
 | str (x:Str):Rep K H (.str x) (.str x)
 | lst {p:Addr} {xs:List V} {ds:List Dt} (h:SqL K H p xs) (l:xs.length=ds.length) (r:∀ (i:Nat) x d,xs[i]? =some x→ds[i]? =some d→Rep K H x d):Rep K H (.ref p) (.lst ds)
 | tup {p:Addr} {xs:List V} {ds:List Dt} (h:SqT K H p xs) (l:xs.length=ds.length) (r:∀ (i:Nat) x d,xs[i]? =some x→ds[i]? =some d→Rep K H x d):Rep K H (.ref p) (.tup ds)
theorem Same.tup {K:PySem.W.Frag} {H H':Hp} {a:Addr} {xs:List V} (e:Same H H') (h:SqT K H a xs):SqT K H' a xs:=by
 rcases h with (h | ⟨o,h⟩) | h
 ·exact .inl (.inl (e _ _ h))
 ·exact .inl (.inr ⟨o,e _ _ h⟩)
 ·exact .inr h
mutual
noncomputable def eqD:Dt→Dt→Bool
 | .non,.non=>true
 | .bl a,.bl b=>a == b
 | .bl a,.int b=>(if a then 1 else 0) == b
 | .int a,.bl b=>a == (if b then 1 else 0)
 | .int a,.int b=>a == b
 | .str a,.str b=>a == b
 | .lst xs,.lst ys=>eqDs xs ys
 | .tup xs,.tup ys=>eqDs xs ys
 | _,_=>false
noncomputable def eqDs:List Dt→List Dt→Bool
 | [],[]=>true
 | x::xs,y::ys=>eqD x y&&eqDs xs ys
 | _,_=>false
end
mutual
noncomputable def depD:Dt→Nat
 | .lst xs=>yb xs + 1
 | .tup xs=>yb xs + 1
 | _=>0
noncomputable def yb:List Dt→Nat
 | []=>0
 | x::xs=>max (depD x) (yb xs)
end
theorem VV {ds:List Dt} {d:Dt} (h:d∈ds):depD d≤yb ds:=by
 induction ds with
 | nil=>cases h
 | cons x xs ih=>
   rw [yb]
   rcases List.mem_cons.mp h with rfl | h
   ·omega
   ·have:=ih h;omega
theorem GX:∀ {xs ys:List Dt},xs.length≠ys.length→eqDs xs ys=false
 | [],[],h=>absurd rfl h
 | [],_::_,_=>rfl
 | _::_,[],_=>rfl
 | x::xs,y::ys,h=>by rw [eqDs,GX (fun z=>h (by simp [z])),Bool.and_false]
theorem GY:∀ {xs ys:List Dt},xs.length=ys.length→eqDs xs ys=(List.range xs.length).all fun i=>eqD (xs.getD i .non) (ys.getD i .non)
 | [],[],_=>rfl
 | [],_::_,h=>by cases h
 | _::_,[],h=>by cases h
 | x::xs,y::ys,h=>by
   rw [eqDs,GY (by simpa using h),List.length_cons,List.range_succ_eq_map,List.all_cons,List.all_map]
   rfl
theorem OT:∀ d:Dt,eqD d d=true:=by
 intro d
 refine Dt.rec (motive_1:=fun d=>eqD d d=true) (motive_2:=fun ds=>eqDs ds ds=true) ?_ ?_ ?_ ?_ ?_ ?_ ?_ ?_ d
 ·rfl
 ·intro b;simp [eqD]
 ·intro b;simp [eqD]
 ·intro b;simp [eqD]
 ·intro xs h;rw [eqD];exact h
 ·intro xs h;rw [eqD];exact h
 ·rfl
 ·intro x xs h1 h2;rw [eqDs,h1,h2];rfl
theorem aav:∀ {d e:Dt},d=e→eqD d e=true:=fun h=>by subst h;exact OT _
section
variable {X:Cx} {pins:List (Addr×Obj)} {σ:St} {H:Hp} {s:Shared}
theorem Inv.notBoth (I:Inv X pins σ H s) {p:Addr} {xs ys:List V} (h1:SqL X.K H p xs) (h2:SqT X.K H p ys):False:=by
 obtain ⟨_,_,pl,_⟩:=I.list h1
 obtain ⟨_,_,⟨o,ho,hc,_⟩,_⟩:=I.tuple h2
 obtain ⟨o',n,ho',hc',_⟩:=pl
 rw [ho] at ho';cases ho'
 rw [hc] at hc'
 exact absurd hc' (by decide)
theorem Rep.fun (I:Inv X pins σ H s) {x:V} {d:Dt} (r:Rep X.K H x d):∀ {e:Dt},Rep X.K H x e→d=e:=by
 induction r with
 | non=>intro e q;cases q;rfl
 | bl b=>intro e q;cases q;rfl
 | int i=>intro e q;cases q;rfl
 | str z=>intro e q;cases q;rfl
 | lst h l r ih=>
   intro e q
   cases q with
   | lst h' l' r'=>
     have ex:=I.list_inj h h'
     subst ex
     congr 1
     refine List.ext_getElem? fun i=>?_
     rename_i xs ds ds'
     by_cases hi:i < ds.length
     ·rw [List.getElem?_eq_getElem hi,List.getElem?_eq_getElem (by omega)]
      have hx:i < xs.length:=by omega
      rw [ih i _ _ (List.getElem?_eq_getElem hx) (List.getElem?_eq_getElem hi) (r' i _ _ (List.getElem?_eq_getElem hx) (List.getElem?_eq_getElem (by omega)))]
     ·rw [List.getElem?_eq_none (by omega),List.getElem?_eq_none (by omega)]
   | tup h' l' r'=>exact (I.notBoth h h').elim
 | tup h l r ih=>
   intro e q
   cases q with
   | tup h' l' r'=>
     have ex:=I.tuple_inj h h'
     subst ex
     congr 1
     refine List.ext_getElem? fun i=>?_
     rename_i xs ds ds'
     by_cases hi:i < ds.length
     ·rw [List.getElem?_eq_getElem hi,List.getElem?_eq_getElem (by omega)]
      have hx:i < xs.length:=by omega
      rw [ih i _ _ (List.getElem?_eq_getElem hx) (List.getElem?_eq_getElem hi) (r' i _ _ (List.getElem?_eq_getElem hx) (List.getElem?_eq_getElem (by omega)))]
     ·rw [List.getElem?_eq_none (by omega),List.getElem?_eq_none (by omega)]
   | lst h' l' r'=>exact (I.notBoth h' h).elim
open SeqAt in
theorem rc_D (I:Inv X pins σ H s) {x:V} {d:Dt} (r:Rep X.K H x d):∀ {A:Around} {e:Dt} {y:V} {u v:Value} (n:Nat),Rep X.K H y e→RelV x u→RelV y v→depD d≤n→A.units + n < cLine→
  EqAt A s u v (eqD d e)∧RcAt A s u v (eqD d e)∧RcNeAt A s u v (!eqD d e):=by
 induction r with
 | non=>
   intro A e y u v n q ru rv hd hu
   cases ru
   cases q with
   | non=>cases rv;exact ⟨EqAt.same _,RcAt.none_none,RcNeAt.none_none⟩
   | bl b=>cases rv;exact ⟨EqAt.none_bool b,RcAt.none_bool b,RcNeAt.none_bool b⟩
   | int b=>obtain ⟨t,rfl⟩:=rv;exact ⟨EqAt.none_int b t,RcAt.none_int b t,RcNeAt.none_int b t⟩
   | str b=>obtain ⟨t,rfl⟩:=rv;exact ⟨EqAt.none_str b t,RcAt.none_str b t,RcNeAt.none_str b t⟩
   | lst h l r=>cases rv;obtain ⟨_,_,pl,_⟩:=I.list h;exact ⟨EqAt.none_list pl.isList (by omega),RcAt.none_list pl.isList (by omega),RcNeAt.none_list pl.isList (by omega)⟩
   | tup h l r=>cases rv;obtain ⟨_,_,pl,_⟩:=I.tuple h;exact ⟨EqAt.none_tuple pl (by omega),RcAt.none_tuple pl (by omega),RcNeAt.none_tuple pl (by omega)⟩
 | bl a=>
   intro A e y u v n q ru rv hd hu
   cases ru
   cases q with
   | non=>cases rv;exact ⟨EqAt.bool_none a,RcAt.bool_none a,RcNeAt.bool_none a⟩
   | bl b=>cases rv;exact ⟨EqAt.bool_bool a b,RcAt.bool_bool a b,RcNeAt.bool_bool a b⟩
   | int b=>obtain ⟨t,rfl⟩:=rv;exact ⟨EqAt.bool_int a b t,RcAt.bool_int a b t,RcNeAt.bool_int a b t⟩
   | str b=>obtain ⟨t,rfl⟩:=rv;exact ⟨EqAt.bool_str a b t,RcAt.bool_str a b t,RcNeAt.bool_str a b t⟩
   | lst h l r=>cases rv;obtain ⟨_,_,pl,_⟩:=I.list h;exact ⟨EqAt.bool_list a pl.isList (by omega),RcAt.bool_list a pl.isList (by omega),RcNeAt.bool_list a pl.isList (by omega)⟩
   | tup h l r=>cases rv;obtain ⟨_,_,pl,_⟩:=I.tuple h;exact ⟨EqAt.bool_tuple a pl (by omega),RcAt.bool_tuple a pl (by omega),RcNeAt.bool_tuple a pl (by omega)⟩
 | int a=>
   intro A e y u v n q ru rv hd hu
   obtain ⟨t',rfl⟩:=ru
   cases q with
   | non=>cases rv;exact ⟨EqAt.int_none a t',RcAt.int_none a t',RcNeAt.int_none a t'⟩
   | bl b=>cases rv;exact ⟨EqAt.int_bool a t' b,RcAt.int_bool a t' b,RcNeAt.int_bool a t' b⟩
   | int b=>obtain ⟨t,rfl⟩:=rv;exact ⟨EqAt.int_int a t' b t,RcAt.int_int a t' b t,RcNeAt.int_int a t' b t⟩
   | str b=>obtain ⟨t,rfl⟩:=rv;exact ⟨EqAt.int_str a t' b t,RcAt.int_str a t' b t,RcNeAt.int_str a t' b t⟩
   | lst h l r=>cases rv;obtain ⟨_,_,pl,_⟩:=I.list h;exact ⟨EqAt.int_list a t' pl.isList (by omega),RcAt.int_list a t' pl.isList (by omega),RcNeAt.int_list a t' pl.isList (by omega)⟩
   | tup h l r=>cases rv;obtain ⟨_,_,pl,_⟩:=I.tuple h;exact ⟨EqAt.int_tuple a t' pl (by omega),RcAt.int_tuple a t' pl (by omega),RcNeAt.int_tuple a t' pl (by omega)⟩
 | str a=>
   intro A e y u v n q ru rv hd hu
   obtain ⟨t',rfl⟩:=ru
   cases q with
   | non=>cases rv;exact ⟨EqAt.str_none a t',RcAt.str_none a t',RcNeAt.str_none a t'⟩
   | bl b=>cases rv;exact ⟨EqAt.str_bool a t' b,RcAt.str_bool a t' b,RcNeAt.str_bool a t' b⟩
   | int b=>obtain ⟨t,rfl⟩:=rv;exact ⟨EqAt.str_int a t' b t,RcAt.str_int a t' b t,RcNeAt.str_int a t' b t⟩
   | str b=>obtain ⟨t,rfl⟩:=rv;exact ⟨EqAt.str_str a t' b t,RcAt.str_str a t' b t,RcNeAt.str_str a t' b t⟩
   | lst h l r=>cases rv;obtain ⟨_,_,pl,_⟩:=I.list h;exact ⟨EqAt.str_list a t' pl.isList (by omega),RcAt.str_list a t' pl.isList (by omega),RcNeAt.str_list a t' pl.isList (by omega)⟩
   | tup h l r=>cases rv;obtain ⟨_,_,pl,_⟩:=I.tuple h;exact ⟨EqAt.str_tuple a t' pl (by omega),RcAt.str_tuple a t' pl (by omega),RcNeAt.str_tuple a t' pl (by omega)⟩
 | @lst p xs ds h l r ih=>
   intro A e y u v n q ru rv hd hu
   cases ru
   obtain ⟨its,rw1,pl,_⟩:=I.list h
   rw [depD] at hd
   cases q with
   | non=>cases rv;exact ⟨EqAt.list_none pl.isList (by omega),RcAt.list_none pl.isList (by omega),RcNeAt.list_none pl.isList (by omega)⟩
   | bl b=>cases rv;exact ⟨EqAt.list_bool b pl.isList (by omega),RcAt.list_bool b pl.isList (by omega),RcNeAt.list_bool b pl.isList (by omega)⟩
   | int b=>obtain ⟨t,rfl⟩:=rv;exact ⟨EqAt.list_int b t pl.isList (by omega),RcAt.list_int b t pl.isList (by omega),RcNeAt.list_int b t pl.isList (by omega)⟩
   | str b=>obtain ⟨t,rfl⟩:=rv;exact ⟨EqAt.list_str b t pl.isList (by omega),RcAt.list_str b t pl.isList (by omega),RcNeAt.list_str b t pl.isList (by omega)⟩
   | tup h' l' r'=>
     cases rv;obtain ⟨_,_,pl',_⟩:=I.tuple h'
     exact ⟨EqAt.list_tuple pl.isList pl' (by omega),RcAt.list_tuple pl.isList pl' (by omega),RcNeAt.list_tuple pl.isList pl' (by omega)⟩
   | @lst p' xs' ds' h' l' r'=>
     cases rv
     obtain ⟨its',rw2,pl',_⟩:=I.list h'
     have n1:=rw1.length
     have n2:=rw2.length
     have core:RcAt A s (.ref p) (.ref p') (eqDs ds ds')∧RcNeAt A s (.ref p) (.ref p') (!eqDs ds ds'):=by
      by_cases hl:ds.length=ds'.length
      ·have e:eqDs ds ds'=(List.range its.toArray.size).all fun i=>eqD (ds.getD i .non) (ds'.getD i .non):=by
        rw [GY hl,List.size_toArray,← n1,l]
       rw [e]
       have hz:its.toArray.size=its'.toArray.size:=by simp;omega
       have he:∀ j (h1:j < its.toArray.size) (h2:j < its'.toArray.size),EqAt A.in1 s its.toArray[j] its'.toArray[j] (eqD (ds.getD j .non) (ds'.getD j .non)):=fun j h1 h2=>by
        have h1':j < its.length:=by simpa using h1
        have h2':j < its'.length:=by simpa using h2
        have hx:j < xs.length:=by omega
        have hx':j < xs'.length:=by omega
        have hds:j < ds.length:=by omega
        have hds':j < ds'.length:=by omega
        have g1:xs[j]? =some (xs.getD j .non):=by rw [List.getD_eq_getElem?_getD,List.getElem?_eq_getElem hx];rfl
        have g2:ds[j]? =some (ds.getD j .non):=by rw [List.getD_eq_getElem?_getD,List.getElem?_eq_getElem hds];rfl
        have g3:xs'[j]? =some (xs'.getD j .non):=by rw [List.getD_eq_getElem?_getD,List.getElem?_eq_getElem hx'];rfl
        have g4:ds'[j]? =some (ds'.getD j .non):=by rw [List.getD_eq_getElem?_getD,List.getElem?_eq_getElem hds'];rfl
        have hn:n≠0:=by omega
        exact (ih j _ _ g1 g2 (n - 1) (r' j _ _ g3 g4) (tW rw1 h1) (tW rw2 h2) (by have:=VV (List.mem_of_getElem? g2);omega) (by show A.units + 1 + (n - 1) < cLine;omega)).1
       exact ⟨RcAt.lists pl.isList pl'.isList hz (by omega) he,RcNeAt.lists pl.isList pl'.isList hz (by omega) he⟩
      ·rw [GX hl]
       have hz:(its.toArray.size != its'.toArray.size)=true:=by simp;omega
       exact ⟨RcAt.lists_lengths pl.isList pl'.isList hz (by omega),RcNeAt.lists_lengths pl.isList pl'.isList hz (by omega)⟩
     rw [eqD]
     refine ⟨?_,core⟩
     by_cases hp:p=p'
     ·subst hp
      have e:Dt.lst ds=Dt.lst ds':=(Rep.lst h l r).fun I (.lst h' l' r')
      have e2:eqDs ds ds'=true:=by have:=aav e;rw [eqD] at this;exact this
      rw [e2]
      exact EqAt.same _
     ·exact EqAt.of_refs hp core.1
 | @tup p xs ds h l r ih=>
   intro A e y u v n q ru rv hd hu
   cases ru
   obtain ⟨its,rw1,pl,_⟩:=I.tuple h
   rw [depD] at hd
   cases q with
   | non=>cases rv;exact ⟨EqAt.tuple_none pl (by omega),RcAt.tuple_none pl (by omega),RcNeAt.tuple_none pl (by omega)⟩
   | bl b=>cases rv;exact ⟨EqAt.tuple_bool b pl (by omega),RcAt.tuple_bool b pl (by omega),RcNeAt.tuple_bool b pl (by omega)⟩
   | int b=>obtain ⟨t,rfl⟩:=rv;exact ⟨EqAt.tuple_int b t pl (by omega),RcAt.tuple_int b t pl (by omega),RcNeAt.tuple_int b t pl (by omega)⟩
   | str b=>obtain ⟨t,rfl⟩:=rv;exact ⟨EqAt.tuple_str b t pl (by omega),RcAt.tuple_str b t pl (by omega),RcNeAt.tuple_str b t pl (by omega)⟩
   | lst h' l' r'=>
     cases rv;obtain ⟨_,_,pl',_⟩:=I.list h'
     exact ⟨EqAt.tuple_list pl pl'.isList (by omega),RcAt.tuple_list pl pl'.isList (by omega),RcNeAt.tuple_list pl pl'.isList (by omega)⟩
   | @tup p' xs' ds' h' l' r'=>
     cases rv
     obtain ⟨its',rw2,pl',_⟩:=I.tuple h'
     have n1:=rw1.length
     have n2:=rw2.length
     have core:RcAt A s (.ref p) (.ref p') (eqDs ds ds')∧RcNeAt A s (.ref p) (.ref p') (!eqDs ds ds'):=by
      have e:eqDs ds ds'=((List.range (min its.toArray.size its'.toArray.size)).all (fun i=>eqD (ds.getD i .non) (ds'.getD i .non))&&its.toArray.size == its'.toArray.size):=by
       by_cases hl:ds.length=ds'.length
       ·have z1:its.toArray.size=ds.length:=by simp;omega
        have z2:its'.toArray.size=ds.length:=by simp;omega
        rw [GY hl,z1,z2,Nat.min_self,beq_self_eq_true,Bool.and_true]
       ·have z:(its.toArray.size == its'.toArray.size)=false:=by rw [beq_eq_false_iff_ne];simp;omega
        rw [GX hl,z,Bool.and_false]
      rw [e]
      have he:∀ j (h1:j < its.toArray.size) (h2:j < its'.toArray.size),EqAt A.in1 s its.toArray[j] its'.toArray[j] (eqD (ds.getD j .non) (ds'.getD j .non)):=fun j h1 h2=>by
       have h1':j < its.length:=by simpa using h1
       have h2':j < its'.length:=by simpa using h2
       have hx:j < xs.length:=by omega
       have hx':j < xs'.length:=by omega
       have hds:j < ds.length:=by omega
       have hds':j < ds'.length:=by omega
       have g1:xs[j]? =some (xs.getD j .non):=by rw [List.getD_eq_getElem?_getD,List.getElem?_eq_getElem hx];rfl
       have g2:ds[j]? =some (ds.getD j .non):=by rw [List.getD_eq_getElem?_getD,List.getElem?_eq_getElem hds];rfl
       have g3:xs'[j]? =some (xs'.getD j .non):=by rw [List.getD_eq_getElem?_getD,List.getElem?_eq_getElem hx'];rfl
       have g4:ds'[j]? =some (ds'.getD j .non):=by rw [List.getD_eq_getElem?_getD,List.getElem?_eq_getElem hds'];rfl
       have hn:n≠0:=by omega
       exact (ih j _ _ g1 g2 (n - 1) (r' j _ _ g3 g4) (tW rw1 h1) (tW rw2 h2) (by have:=VV (List.mem_of_getElem? g2);omega) (by show A.units + 1 + (n - 1) < cLine;omega)).1
      exact ⟨RcAt.tuples pl pl' (by omega) he,RcNeAt.tuples pl pl' (by omega) he⟩
     rw [eqD]
     refine ⟨?_,core⟩
     by_cases hp:p=p'
     ·subst hp
      have e:Dt.tup ds=Dt.tup ds':=(Rep.tup h l r).fun I (.tup h' l' r')
      have e2:eqDs ds ds'=true:=by have:=aav e;rw [eqD] at this;exact this
      rw [e2]
      exact EqAt.same _
     ·exact EqAt.of_refs hp core.1
end
noncomputable def rEqD (K:PySem.W.Frag) (neg:Bool):R2:=fun x y H Q=>∃ d e,Rep K H x d∧Rep K H y e∧depD d≤100∧Q (.bl (if neg then !eqD d e else eqD d e)) H
section
variable {X:Cx} {K:PySem.W.Frag}
theorem LD (h:X.K=K) (hu:X.A.units + 100 < cLine):OpR X (compareOp .NotEq) (rEqD K true):=by
 subst h
 intro pins s σ H x y v u Q I rx ry h
 obtain ⟨d,e,r1,r2,hd,q⟩:=h
 exact (rc_D I r1 100 r2 rx ry hd hu).2.2 X.prog X.w X.xe _ ⟨.bl _,H,I,rfl,q⟩
end
inductive SH:St→Nat→Option V→St→Prop where
 | z {a v:Option V} {l:St}:SH (a::l) 0 v (v::l)
 | s {a v:Option V} {l l':St} {i:Nat}:SH l i v l'→SH (a::l) (i + 1) v (a::l')
theorem SH.eq {l l':St} {i:Nat} {v:Option V} (h:SH l i v l'):l.set i v=l':=by
 induction h with
 | z=>rfl
 | s _ ih=>rw [List.set_cons_succ,ih]
inductive SI:St→Nat→V→Prop where
 | z {v:V} {l:St}:SI (some v::l) 0 v
 | s {a:Option V} {v:V} {l:St} {i:Nat}:SI l i v→SI (a::l) (i + 1) v
theorem SI.eq {l:St} {i:Nat} {v:V} (h:SI l i v):l[i]? =some (some v):=by
 induction h with
 | z=>rfl
 | s _ ih=>rw [List.getElem?_cons_succ];exact ih
section
variable {σ σ':St} {H:Hp} {Q:VK} {D:Ends} {ta tb tc te:TE} {t u:TS} {tt tt':TT} {r r':R2} {x y v:V}
theorem az {N:List Str} {vs:List V} {t:TS} (e:start N vs=σ') (h:t D σ' H):t D (start N vs) H:=by rw [e];exact h
theorem afz {i:Nat} (e:SI σ i v) (h:Q v H):tVar i σ H Q:=⟨v,e.eq,h⟩
theorem s_c (h:Q v H):tC v σ H Q:=h
theorem s_op (h:ta σ H fun x H1=>tb σ H1 fun y H2=>r x y H2 Q):tOp r ta tb σ H Q:=h
theorem s_rI {C:Int→Int→Prop} {g:Int→Int→V} {i j:Int} (c:C i j) (h:Q (g i j) H):rI C g (.int i) (.int j) H Q:=⟨i,j,rfl,rfl,c,h⟩
theorem afF {g:Int→Int→V} {i j:Int} (h:Q (g i j) H):rI0 g (.int i) (.int j) H Q:=⟨i,j,rfl,rfl,h⟩
theorem afG (e:scal x y=true) (h:Q (.bl (decide (x=y))) H):rEq x y H Q:=⟨e,h⟩
theorem afE (e:scal x y=true) (h:Q (.bl (!decide (x=y))) H):rNe x y H Q:=⟨e,h⟩
theorem adn {Q:Bool→Hp→Prop} (h:te σ H fun x H'=>∃ k,x= .bl k∧Q k H'):ac7 te σ H Q:=h
theorem s_tB {Q:Bool→Hp→Prop} (h:te σ H fun x H'=>∃ k,x= .bl k∧Q k H'):tB te σ H Q:=h
theorem afT {Q:Bool→Hp→Prop} (h:tt σ H fun c H1=>if c=true then tt' σ H1 Q else Q false H1):tAnd tt tt' σ H Q:=h
theorem s_or {Q:Bool→Hp→Prop} (h:tt σ H fun c H1=>if c=true then Q true H1 else tt' σ H1 Q):tOr tt tt' σ H Q:=h
theorem afH {Q:Bool→Hp→Prop} (h:tt σ H fun c H1=>Q (!c) H1):tNot tt σ H Q:=h
theorem adR (h:ta σ H fun x H1=>∃ c,x= .bl c∧if c=true then tb σ H1 Q else Q (.bl false) H1):adf ta tb σ H Q:=h
theorem adt (h:ta σ H fun x H1=>∃ c,x= .bl c∧Q (.bl (!c)) H1):ac9 ta σ H Q:=h
theorem afN (h:tt σ H fun c H1=>if c=true then ta σ H1 Q else tb σ H1 Q):tIf tt ta tb σ H Q:=h
theorem adu (h:D.nx σ H):ada D σ H:=h
theorem afC (h:t {D with nx:=u D} σ H):tSeq t u D σ H:=h
theorem adI (h:te σ H fun _ H1=>D.nx σ H1):adc te D σ H:=h
theorem afD (h:te σ H D.rt):tRet te D σ H:=h
theorem s_if (h:tt σ H fun b H1=>if b=true then t D σ H1 else u D σ H1):tIfS tt t u D σ H:=h
theorem afS {g:TG} (h:te σ H fun x H1=>g x σ H1 D.nx):tAsg te g D σ H:=h
theorem abm {i:Nat} {Q:St→Hp→Prop} (e:SH σ i (some v) σ') (h:Q σ' H):VH i v σ H Q:=by show Q (σ.set i (some v)) H;rw [e.eq];exact h
theorem adH {Q:St→Hp→Prop} (h:Q σ H):gNil [] σ H Q:=⟨rfl,h⟩
theorem abn {g:TG} {gs:TGs} {vs:List V} {Q:St→Hp→Prop} (h:g v σ H fun σ' H'=>gs vs σ' H' Q):aca g gs (v::vs) σ H Q:=⟨v,vs,rfl,h⟩
theorem adF {K:PySem.W.Frag} {n:Nat} {gs:TGs} {p:Addr} {xs:List V} {Q:St→Hp→Prop} (e:SqT K H p xs) (l:xs.length=n) (h:gs xs σ H Q):gTup K n gs (.ref p) σ H Q:=⟨p,xs,rfl,e,l,h⟩
theorem afI {Q:List V→Hp→Prop} (h:Q [] H):tNil σ H Q:=h
theorem adO {tr:TA} {Q:List V→Hp→Prop} (h:ta σ H fun x H1=>tr σ H1 fun xs H2=>Q (x::xs) H2):ade ta tr σ H Q:=h
noncomputable def NewT (Q:VK) (xs:List V) (H:Hp):Prop:=xs.length≤sizeLine∧∀ p,H p=none→Q (.ref p) (upd H p (.tup xs))
noncomputable def NewL (Q:VK) (xs:List V) (H:Hp):Prop:=xs.length≤sizeLine∧∀ p,H p=none→Q (.ref p) (upd H p (.lst xs))
theorem afA {tr:TA} (h:tr σ H (NewT Q)):tTup tr σ H Q:=h
theorem afJ {tr:TA} (h:tr σ H (NewL Q)):tLst tr σ H Q:=h
theorem bf {H:Hp} {D:Addr} {o:HO} (h:H D=none):Same H (upd H D o):=fun b u e=>by rw [aB (ai e h)];exact e
theorem jl {o:HO} (h:∀ p H2,H p=none→Same H H2→H2 p=some o→Q (.ref p) H2):∀ p,H p=none→Q (.ref p) (upd H p o):=fun p hp=>h p _ hp (bf hp) av
theorem Same.get {H H':Hp} (e:Same H H') {b:Addr} {o:HO} (h:H b=some o):H' b=some o:=e b o h
theorem adv {xs:List V} (l:xs.length≤sizeLine) (h:∀ p H2,H p=none→Same H H2→H2 p=some (.tup xs)→Q (.ref p) H2):NewT Q xs H:=⟨l,jl h⟩
theorem adw {xs:List V} (l:xs.length≤sizeLine) (h:∀ p H2,H p=none→Same H H2→H2 p=some (.lst xs)→Q (.ref p) H2):NewL Q xs H:=⟨l,jl h⟩
theorem abt {sp:Sp} {E:XK} {tr:TA} (h:tr σ H fun vs H1=>sp vs H1 Q E):XB sp [] E tr σ H Q:=by unfold XB;simp only [List.append_nil];exact h
theorem s_cb {r:List V→Hp→VK→Prop} {tr:TA} (h:tr σ H fun vs H1=>r vs H1 Q):tCB r tr σ H Q:=h
theorem X5 {Q:Option Int→Hp→Prop} (h:Q none H):Tm σ H Q:=h
theorem ads {Q:Option Int→Hp→Prop} (h:te σ H fun x H1=>∃ i,x= .int i∧Q (some i) H1):ac8 te σ H Q:=h
theorem s_sl {r:V→Option Int→Option Int→Hp→VK→Prop} {tl th:TO} (h:te σ H fun x H1=>tl σ H1 fun l H2=>th σ H2 fun u H3=>r x l u H3 Q):tSl r te tl th σ H Q:=h
theorem afB {K:PySem.W.Frag} {p:Addr} {xs:List V} {lo hi:Option Int} (e:SqL K H p xs) (h:∀ q H2,H q=none→Same H H2→H2 q=some (.lst (cutV xs lo hi))→Q (.ref q) H2):rSlL K (.ref p) lo hi H Q:=⟨p,xs,rfl,e,jl h⟩
theorem afL {K:PySem.W.Frag} {p:Addr} {xs:List V} {i:Int} (e:SqL K H p xs) (a:atI xs i=some v) (h:Q v H):rIxL K (.ref p) (.int i) H Q:=⟨p,xs,i,v,rfl,rfl,e,a,h⟩
theorem afK {K:PySem.W.Frag} {p:Addr} {xs:List V} {i:Int} (e:SqT K H p xs) (a:atI xs i=some v) (h:Q v H):rIxT K (.ref p) (.int i) H Q:=⟨p,xs,i,v,rfl,rfl,e,a,h⟩
theorem adC {z:Str} {i:Int} {c:Nat} (e:z.length≤sizeLine) (a:atI z.cps.toList i=some c) (h:Q (.str ⟨#[c]⟩) H):rIxS (.str z) (.int i) H Q:=⟨z,i,c,rfl,rfl,e,a,h⟩
theorem afR {K:PySem.W.Frag} {T:String} {r:V→List V→Hp→VK→Prop} (h:te σ H fun x H1=>tyV K T x H1∧r x [] H1 Q):tBM0 K T r te σ H Q:=h
theorem s_bm {K:PySem.W.Frag} {T:String} {r:V→List V→Hp→VK→Prop} {tr:TA} (h:te σ H fun x H1=>tyV K T x H1∧tr σ H1 fun xs H2=>r x xs H2 Q):tBM K T r te tr σ H Q:=h
theorem U7 {n:Nat} (h:n≤1000):n≤sizeLine:=Nat.le_of_lt (aP h)
theorem abp {K:PySem.W.Frag} {neg:Bool} {d e:Dt} (r1:Rep K H x d) (r2:Rep K H y e) (hd:depD d≤100) (h:Q (.bl (if neg then !eqD d e else eqD d e)) H):rEqD K neg x y H Q:=⟨d,e,r1,r2,hd,h⟩
theorem s_ty {K:PySem.W.Frag} {T:String} {A:Prop} (e:tyV K T x H) (h:A):tyV K T x H∧A:=⟨e,h⟩
theorem adQ {i:Int} (h:Q (.int (Builtin.Int.intBits i:Nat)) H):adX (.int i) [] H Q:=⟨i,rfl,rfl,h⟩
theorem ZM {K:PySem.W.Frag} {z:Str} {p:Addr} {ys:List Str} (e:SqL K H p (ys.map V.str)) (l:(ys.map (·.length)).sum + ys.length * z.length≤16777216) (h:Q (.str (Txt.join z ys)) H):adW K (.str z) [.ref p] H Q:=⟨z,p,ys,rfl,rfl,e,l,h⟩
theorem adB {K:PySem.W.Frag} {p:Addr} {xs:List V} (e:SqL K H p xs) (h:Q (.int xs.length) H):rLen K [.ref p] H Q:=⟨_,_,rfl,.inl ⟨xs,e,rfl⟩,h⟩
theorem adz {K:PySem.W.Frag} {p:Addr} {xs:List V} (e:SqT K H p xs) (h:Q (.int xs.length) H):rLen K [.ref p] H Q:=⟨_,_,rfl,.inr ⟨xs,e,rfl⟩,h⟩
theorem adA {K:PySem.W.Frag} {z:Str} (e:z.length≤sizeLine) (h:Q (.int z.length) H):rLen K [.str z] H Q:=⟨_,_,rfl,⟨e,rfl⟩,h⟩
theorem afM {K:PySem.W.Frag} {T k:String} (e:rj K H x k) (m:T∈["int","bool","str","list","tuple","dict"]) (h:Q (.bl (subB k T)) H):rIsi K [x,.ty T] H Q:=⟨x,k,T,rfl,e,m,h⟩
theorem adL (h:∀ p H2,H p=none→Same H H2→H2 p=some (.dK [])→Q (.ref p) H2):ZK σ H Q:=jl h
theorem afO {wi:TI} {g:TG} {tb:TS} (h:wi σ H fun J H1=>∃ W:Nat→Nat→St→Hp→Prop,(∃ m,W 0 m σ H1)∧∀ i m σ H,W i m σ H→(J.stop i H∧D.nx σ H)∨(J.go i H∧∃ N:St→Hp→Prop,(∀ σ' H',N σ' H'→∃ m',m' < m∧W (i + 1) m' σ' H')∧∀ x H',J.yld i H x H'→g x σ H' fun σ2 H2=>tb {D with nx:=N,ct:=N,bk:=D.nx} σ2 H2)):tFor wi g tb D σ H:=h
theorem abk {K:PySem.W.Frag} {R:It→Hp→Prop} (h:te σ H fun x H1=>∃ a,x= .ref a∧(∃ xs,SqL K H1 a xs)∧R (Itl K a) H1):ab6 K te σ H R:=h
theorem adD {K:PySem.W.Frag} {R:It→Hp→Prop} (h:te σ H fun x H1=>∃ a,x= .ref a∧(∃ xs,SqT K H1 a xs)∧R (Itt K a) H1):iTup K te σ H R:=h
theorem adE {R:It→Hp→Prop} (h:te σ H fun x H1=>∃ z,x= .str z∧R (Its z) H1):iStr te σ H R:=h
theorem adq {tr:TA} {R:It→Hp→Prop} (h:tr σ H fun vs H1=>∃ j:Int,vs=[.int j]∧-(2 ^ 62)≤j∧j < 2 ^ 62∧R (Itr 0 j.toNat) H1):aeH tr σ H R:=h
theorem adp {tr:TA} {R:It→Hp→Prop} (h:tr σ H fun vs H1=>∃ i j:Int,vs=[.int i,.int j]∧(-(2 ^ 62)≤i∧i < 2 ^ 62∧-(2 ^ 62)≤j∧j < 2 ^ 62)∧R (Itr i (j - i).toNat) H1):aeG tr σ H R:=h
theorem afy {Q:Bool→Hp→Prop} (h:Q true H):tYes σ H Q:=h
theorem adm {A B:Prop} (h:A):if true=true then A else B:=by rw [if_pos rfl];exact h
theorem abo {A B:Prop} (h:B):if false=true then A else B:=by rw [if_neg Bool.false_ne_true];exact h
theorem rW {c:Bool} {A B:Prop} (e:c=true) (h:A):if c=true then A else B:=by rw [if_pos e];exact h
theorem iS {c:Bool} {A B:Prop} (e:c=false) (h:B):if c=true then A else B:=by rw [e,if_neg Bool.false_ne_true];exact h
theorem adP {n:Nat} {fx:List Nat} {wi:TI} {g:TG} (h:wi σ H fun J H1=>∀ D,H1 D=none→
 ∃ W:Nat→Nat→List V→Hp→Prop,(∃ m,W 0 m [] (upd H1 D (.lst [])))∧∀ i m ys H2,W i m ys H2→(J.stop i H2∧Q (.ref D) H2)∨
   (J.go i H2∧∃ N:List V→Hp→Prop,(∀ ys' H',N ys' H'→∃ m',m' < m∧W (i + 1) m' ys' H')∧∀ x H3,J.yld i H2 x H3→g x (df n fx σ) H3 fun σ4 H4=>tt σ4 H4 fun b H5=>
    if b=true then te σ4 H5 fun v H6=>H6 D=some (.lst ys)∧ys.length < sizeLine∧N (ys++[v]) (upd H6 D (.lst (ys++[v]))) else N ys H5)):XA n fx wi g tt te σ H Q:=h
theorem Ik {K:PySem.W.Frag} {p:Addr} {bs:List Bool} (e:SqL K H p (bs.map V.bl)) (h:Q (.bl (bs.all id)) H):adZ K [.ref p] H Q:=⟨p,bs,rfl,e,h⟩
theorem ZQ {K:PySem.W.Frag} {p:Addr} {bs:List Bool} (e:SqL K H p (bs.map V.bl)) (h:Q (.bl (bs.any id)) H):adY K [.ref p] H Q:=⟨p,bs,rfl,e,h⟩
theorem X7 {j:Int} {A:Prop} (h1: -(2 ^ 62)≤j) (h2:j < 2 ^ 62) (h:A): -(2 ^ 62)≤j∧j < 2 ^ 62∧A:=⟨h1,h2,h⟩
end
noncomputable def tCut (t u:TS):TS:=fun D σ H=>∃ P:St→Hp→Prop,t {D with nx:=P} σ H∧∀ σ' H',P σ' H'→u D σ' H'
theorem Ue {X:Cx} {st:Stmt} {rest:List Stmt} {t u:TS} (h1:PS X st t) (h2:PSs X rest u):PSs X (st::rest) (tCut t u):=by
 intro pins s σ H D I ⟨P,a,b⟩
 refine wpAny_execs_cons (thn (h1 pins s σ H {D with nx:=P} I a) fun f s1 q=>?_)
 cases f with
 | next=>obtain ⟨σ1,H1,I1,q1⟩:=q;exact h2 pins s1 σ1 H1 D I1 (b σ1 H1 q1)
 | brk=>exact q
 | cont=>exact q
 | ret v=>exact q
theorem adN {t u:TS} {D:Ends} {σ:St} {H:Hp} (P:St→Hp→Prop) (h:t {D with nx:=P} σ H) (k:∀ σ' H',P σ' H'→u D σ' H'):tCut t u D σ H:=⟨P,h,k⟩
section
variable {K:PySem.W.Frag} {n:Nat} {fx:List Nat} {g:TG} {tc:TT} {te:TE} {σ:St} {H1:Hp} {D:Addr} {Q:Hp→Prop}
structure Cs (Pv:Nat→List V→Prop) (H1:Hp) (D:Addr) (i:Nat) (ys:List V) (H:Hp):Prop where
 pv:Pv i ys
 same:Same H1 H
 at':H D=some (.lst ys)
 len:ys.length≤i
theorem Cs.put {Pv:Nat→List V→Prop} {i:Nat} {ys:List V} {v:V} {H6:Hp} (f:H1 D=none) (s:Same H1 H6) (e:H6 D=some (.lst ys)) (l:ys.length≤i) (hi:i < 16777216) (p:Pv (i + 1) (ys++[v])):
  H6 D=some (.lst ys)∧ys.length < sizeLine∧Cs Pv H1 D (i + 1) (ys++[v]) (upd H6 D (.lst (ys++[v]))):=
 ⟨e,by rw [sizeLine_eq];omega,p,fun b o h=>by rw [aB (ai h f)];exact s b o h,av,by rw [List.length_append];simpa using l⟩
theorem Cs.skip {Pv:Nat→List V→Prop} {i:Nat} {ys:List V} {H6:Hp} (s:Same H1 H6) (e:H6 D=some (.lst ys)) (l:ys.length≤i) (p:Pv (i + 1) ys):Cs Pv H1 D (i + 1) ys H6:=⟨p,s,e,by omega⟩
theorem Cs.zero {Pv:Nat→List V→Prop} (f:H1 D=none) (p:Pv 0 []):Cs Pv H1 D 0 [] (upd H1 D (.lst [])):=⟨p,bf f,av,Nat.le_refl _⟩
end
structure aaK (K:PySem.W.Frag) (C:Addr) (m:Str) (f:Addr):Prop where
 ga:PySem.W.specialIn K (.ref C) "__getattribute__"=some (some (.builtin "type.__getattribute__"))
 rd:PySem.W.readsIn K C (.type "type")=true
 fd:PySem.W.findCls K (.ref C) (.type "type") m=some (.val (.ref f))
 hd:PySem.W.handedIn (.ref f)=true
 kp:PySem.W.keepIn K (.ref f)=true
section
variable {X:Cx} {CX:CXT} {k:Nat} {f C:Addr} {fd:FuncData} {ps:List Str} {sp:Sp} {dvs:List V} {ds:List Value} {E:XK} {x m:Str} {p pos apos:Pos} {e o:Expr} {es:List Expr} {ta:TE} {t:TA}
theorem zl {pl:Sem Bool} (hg:Gl X x) (hx:X.mg x=some (.ref C)) (c:aaK X.K C m f) (F:FnOk X.prog X.w X.K X.mg X.base CX k f fd ps sp) (hr:Room k X.A) (hb:aZ X.K fd ps ds) (hd:Vals dvs ds) (hpass:wG CX X E) (ha:PA X (e::es) t)
  (hdb:(x == ("__debug__":Str))=false:=by decide) (hst:starEach (e::es) X.env=(false,eval e X.env)::starEach es X.env:=by rfl) (hpl:(backTo pos (starEach es X.env)).any (·.1)=false:=by rfl)
  (ht:eval (.Call (.Attribute (.Name x p) m apos) (e::es) [] pos) X.env=(do
   let ov ← eval (.Name x p) X.env
   standAt apos.atName
   let (f,first) ← holding [ov] (getMethod ov m pl)
   callWith pos f first (backTo pos (starEach (e::es) X.env)) (backToKw pos (keywordEach [] X.env))):=by rfl):
  PE X (.Call (.Attribute (.Name x p) m apos) (e::es) [] pos) (XB sp dvs E t):=by
 intro pins s σ H Q I h
 refine PySem.W.methodCall_KW (pl:=pl) (u0 I hg hx ?_ hdb) ht
 refine PySem.W.method_cls I.kIn c.ga (PySem.W.cls_value I.kIn c.rd c.fd c.hd ?_)
 have I1:=I.tok (s.toks + 1)
 refine PySem.W.callWith_K (first:=[]) (h₀:=X.base) I1.ok.mod.kin c.kp (thn (ha pos pins _ σ H _ I1 h) fun us s2 ⟨vs,H2,I2,r,q2⟩=>⟨I2.kIn,?_⟩) hst hpl
 exact Os (us:=us) (vs:=vs) F hr hb hd hpass I2 r q2
end
structure Oc (K:PySem.W.Frag) (D:Addr):Prop where
 cls:Cls K D
 ha:PySem.W.findIn K (.ref D) "__class__"=some (some (.builtin "object.__class__"))
 hn:PySem.W.specialIn K (.builtin "object.__class__") "__get__"=some (some (.builtin "getset_descriptor.__get__"))
 tk:PySem.W.takesIn K (.builtin "object.__class__")=some true
 hm:PySem.W.mroIn K D (.type "object")=some true
section
variable {X:Cx} {K:PySem.W.Frag}
theorem aN {e:Expr} {ta:TE} {f:Str} {pos:Pos} (h:X.K=K) (he:PE X e ta) (hb:attributeBase e f X.env (eval e X.env)=eval e X.env):PE X (.Attribute e f pos) (tFld K ta f):=by subst h;exact aeb he hb
theorem cZ {o value:Expr} {ta tv:TE} {f:Str} {pos pos':Pos} (h:X.K=K) (ha:PE X o ta) (hv:PE X value tv) (hs:swapsWith value (some (.Attribute o f pos')) pos.line X.env=pure false):PS X (.Assign [.Attribute o f pos'] value pos) (sFld K ta tv f):=by subst h;exact ad4 ha hv hs
theorem PE.or {e:Expr} {t u:TE} (h:PE X e t) (h':PE X e u):PE X e (fun σ H Q=>t σ H Q∨u σ H Q):=by
 intro pins s σ H Q I q
 rcases q with q | q
 ·exact h pins s σ H Q I q
 ·exact h' pins s σ H Q I q
end
section
variable {σ:St} {H:Hp} {Q:VK} {D:Ends} {te tv ta:TE} {x y v:V}
noncomputable def acC (K:PySem.W.Frag) (f:Str) (Q:VK) (x:V) (H:Hp):Prop:=∃ a C dx fs v,x= .ref a∧H a=some (.ins C dx fs)∧Cls K C∧ao K C f∧fs.lookup f=some v∧Q v H
theorem afP {K:PySem.W.Frag} {f:Str} (h:te σ H (acC K f Q)):tFld K te f σ H Q:=h
theorem aH {K:PySem.W.Frag} {f:Str} {p C dx:Addr} {fs:List (Str×V)} (e:H p=some (.ins C dx fs)) (c:Cls K C) (n:ao K C f) (l:fs.lookup f=some v) (h:Q v H):acC K f Q (.ref p) H:=⟨p,C,dx,fs,v,rfl,e,c,n,l,h⟩
structure Upd (H H':Hp) (p:Addr) (o:HO):Prop where
 at':H' p=some o
 oth:∀ b u,b≠p→H b=some u→H' b=some u
 non:∀ b,b≠p→H b=none→H' b=none
theorem Upd.of {H:Hp} {p:Addr} {o:HO}:Upd H (upd H p o) p o:=⟨av,fun b u n h=>by rw [aB n];exact h,fun b n h=>by rw [aB n];exact h⟩
noncomputable def afg (K:PySem.W.Frag) (f:Str) (y:V) (D:Ends) (σ:St) (x:V) (H:Hp):Prop:=∃ a C dx fs,x= .ref a∧H a=some (.ins C dx fs)∧Cls K C∧ao K C f∧fs.length < 1000∧D.nx σ (upd H a (.ins C dx (putF f y fs)))
theorem X4 {K:PySem.W.Frag} {f:Str} (h:tv σ H fun y H1=>te σ H1 (afg K f y D σ)):sFld K te tv f D σ H:=h
theorem cS {K:PySem.W.Frag} {f:Str} {p C dx:Addr} {fs fs':List (Str×V)} (e:H p=some (.ins C dx fs)) (c:Cls K C) (n:ao K C f) (l:fs.length < 1000) (ef:putF f y fs=fs') (h:∀ H2,Upd H H2 p (.ins C dx fs')→D.nx σ H2):
  afg K f y D σ (.ref p) H:=⟨p,C,dx,fs,rfl,e,c,n,l,by rw [ef];exact h _ Upd.of⟩
noncomputable def aaF (C:Addr) (sp:Sp) (E:XK) (Q:VK) (vs:List V) (H:Hp):Prop:=∀ x dx,H x=none→H dx=none→dx≠x→sp (.ref x::(vs++[])) (upd (upd H dx (.own x)) x (.ins C dx [])) (fun v H2=>v= .non∧Q (.ref x) H2) E
theorem ady {C:Addr} {sp:Sp} {E:XK} {tr:TA} (h:tr σ H (aaF C sp E Q)):adb C sp [] E tr σ H Q:=h
theorem X6 {C:Addr} {sp:Sp} {E:XK} {vs:List V} (h:∀ x dx H2,H x=none→Same H H2→H2 x=some (.ins C dx [])→sp (.ref x::vs) H2 (fun v H2=>v= .non∧Q (.ref x) H2) E):aaF C sp E Q vs H:=by
 intro x dx f1 f2 n
 rw [List.append_nil]
 exact h x dx _ f1 (fun b o e=>by rw [aB (ai e f1),aB (ai e f2)];exact e) av
theorem Upd.trans {H2 H3:Hp} {p:Addr} {o o':HO} (u:Upd H H2 p o) (w:Upd H2 H3 p o'):Upd H H3 p o':=⟨w.at',fun b q n e=>w.oth b q n (u.oth b q n e),fun b n e=>w.non b n (u.non b n e)⟩
end
theorem Inv.laidCh {X:Cx} {pins:List (Addr×Obj)} {σ:St} {H:Hp} {s:Shared} {h':Heap} {a:Addr} {o:HO} {t':Nat} {ch:List Addr} (I:Inv X pins σ H s) (k:∀ b u,b∉ch→s.heap.get? b=some u→h'.get? b=some u) (hp:s.heap.objs.size≤a)
  (new:gI X.prog X.w (upd H a o) h' a o) (fp:∀ b∈ch,FpOk X pins H b):Inv X pins σ (upd H a o) {s with heap:=h',toks:=t'}:=by
 have fr:H a=none:=I.hok.fresh hp
 have nit:∀ b u,H b=some u→b∉ch:=fun b u e z=>by rw [(fp b z).1] at e;cases e
 refine I.step (g':=s.gens) (d':=s.drawn) (ch:=ch) (fun b hb=>?_) (fun b ob _ _ hc e _=>k b ob hc e) (fun b ob _ _ hc e _=>⟨ob.slots,k b ob hc e⟩) (fun b ob _ e n=>?_) (fun b ob hc e=>⟨ob,k b ob hc e⟩)
  (fun b xs e=>by rw [aB (ai e fr)];exact e) (fun b ob u e=>by rw [aB (ai e fr)];exact e) (fun b ps e=>⟨#[],by rw [aB (ai e fr),e];simp⟩) (fun m hm=>?_) (fun b u e=>?_) I.bare
 ·obtain ⟨f0,f1,f2,f3,f4,f5⟩:=fp b hb
  exact ⟨f3,f1,f4,f5⟩
 ·rw [aB (Nat.ne_of_lt (Nat.lt_of_lt_of_le (Heap.lt_size e) hp))];exact n
 ·obtain ⟨ob,es,ep,ho,r⟩:=hm
  exact ⟨ob,es,ep,k _ ob (fun z=>(fp _ z).2.1 rfl) ho,r⟩
 ·by_cases hb:b=a
  ·subst hb;rw [av] at e;cases e;exact new
  ·rw [aB hb] at e
   refine (I.hok b u e).stay (fun c v hc q=>k c v ?_ q) (fun c q=>by rw [aB (ai q fr)];exact q) fun c xs q=>by rw [aB (ai q fr)];exact q
   rcases hc with z | z
   ·rw [z];exact nit b u e
   ·exact nit c _ z
theorem Inv.turnedCh {X:Cx} {pins:List (Addr×Obj)} {σ:St} {H:Hp} {s:Shared} {h':Heap} {t':Nat} {ch:List Addr} (I:Inv X pins σ H s) (k:∀ b u,b∉ch→s.heap.get? b=some u→h'.get? b=some u)
  (fp:∀ b∈ch,FpOk X pins H b):Inv X pins σ H {s with heap:=h',toks:=t'}:=by
 have nit:∀ b u,H b=some u→b∉ch:=fun b u e z=>by rw [(fp b z).1] at e;cases e
 refine I.step (g':=s.gens) (d':=s.drawn) (ch:=ch) (fun b hb=>?_) (fun b ob _ _ hc e _=>k b ob hc e) (fun b ob _ _ hc e _=>⟨ob.slots,k b ob hc e⟩) (fun b ob _ e n=>n) (fun b ob hc e=>⟨ob,k b ob hc e⟩)
  (fun b xs e=>e) (fun b ob u e=>e) (fun b ps e=>⟨#[],by rw [e];simp⟩) (fun m hm=>?_) (fun b u e=>?_) I.bare
 ·obtain ⟨f0,f1,f2,f3,f4,f5⟩:=fp b hb
  exact ⟨f3,f1,f4,f5⟩
 ·obtain ⟨ob,es,ep,ho,r⟩:=hm
  exact ⟨ob,es,ep,k _ ob (fun z=>(fp _ z).2.1 rfl) ho,r⟩
 ·refine (I.hok b u e).stay (fun c v hc q=>k c v ?_ q) (fun c q=>q) fun c xs q=>q
  rcases hc with z | z
  ·rw [z];exact nit b u e
  ·exact nit c _ z
noncomputable def Ite (K:PySem.W.Frag) (a:Addr):It:=
 ⟨fun i H=>∃ xs x,SqL K H a xs∧xs[i]? =some x,fun i H x H'=>∃ p v,H p=none∧x= .ref p∧H'=upd H p (.tup [.int i,v])∧∀ xs,SqL K H a xs→xs[i]? =some v,fun i H=>∃ xs,SqL K H a xs∧xs.length=i⟩
noncomputable def Itz (x:Str):It:=⟨fun i _=>i < x.cps.size,fun i H v H'=>∃ p c,H p=none∧v= .ref p∧H'=upd H p (.tup [.int i,.str ⟨#[c]⟩])∧x.cps[i]? =some c,fun i _=>i=x.cps.size⟩
theorem HZ:(2:Nat)≤sizeLine:=by rw [sizeLine_eq];decide
theorem EB {P:Program} {w:World} {K:PySem.W.Frag} {elts:List Expr} {k:Nat} {pos:Pos} (a e it:Addr) (hei:e≠it):
  Turn P w K (.Tuple elts k pos) (Ite K a) [e,it] e (fun i h=>(∃ old,IsEnum h e it i old)∧h.IsListIter it a i) where
 mem:=by simp
 obj:=fun i h st b hb=>by
  obtain ⟨⟨old,he⟩,⟨o,ho,hc,hd⟩⟩:=st
  rcases List.mem_cons.mp hb with z | z
  ·subst z;exact ⟨_,he,fun v z=>by cases z⟩
  ·rw [List.mem_singleton.mp z];exact ⟨o,ho,fun v z=>by rw [hd] at z;cases z⟩
 keep:=fun i h h' st k=>⟨let ⟨old,he⟩:=st.1;⟨old,k e (by simp) _ he⟩,st.2.at fun o z=>k it (by simp) o z⟩
 item:=by
  intro X hP hw hK hc i pins s σ H E I hf st hg
  subst hP hw hK
  obtain ⟨xs,x,hq,hx⟩:=hg
  obtain ⟨its,rv,p,hz⟩:=I.list hq
  obtain ⟨⟨old,he⟩,hl⟩:=st
  have hai:a≠it:=fun z=>by
   obtain ⟨o,ho,hcl,_⟩:=hl
   obtain ⟨o',n,ho',hcl',_⟩:=p
   rw [z,ho] at ho';cases ho';rw [hcl] at hcl';exact absurd hcl' (by decide)
  have hae:a≠e:=fun z=>by
   obtain ⟨o',n,ho',hcl',_⟩:=p
   rw [z,he] at ho';cases ho';exact absurd (show Value.type "enumerate"= .type "list" from hcl') (by decide)
  have W:=WalksT.enumerateD (prog:=X.prog) (w:=X.w) (A:=X.A) (Draws.list (A:=X.A.in1) (I.ok.hd hc) it a hai its.toArray) e hei (by simp [hei,Ne.symm hae]) (by simp)
  have hi:i < its.toArray.size:=by have:=rv.length;have:=(List.getElem?_eq_some_iff.mp hx).1;simp;omega
  refine W.item i s _ _ hi ⟨⟨old,he⟩,hl,p.isList⟩ fun T vals h' tk hPt hT htup hmid hk=>⟨_,rfl,W.go elts k pos i T _ _ _ hmid fun h'' hst hk2=>?_⟩
  obtain ⟨t,x',hx',rfl⟩:=hPt
  have hap:=W.apart i T h' hmid
  have ru:RelV x x':=by
   obtain ⟨u,hu,r⟩:=rv.get hx
   have hx'':its[i]? =some x':=by simpa using hx'
   rw [hu] at hx'';cases hx'';exact r
  have kk:∀ b u,b∉[e,it]→s.heap.get? b=some u→h''.get? b=some u:=fun b u hb q=>hk2 b u hb (hk b u hb q)
  have fr:H T=none:=I.hok.fresh hT
  refine ⟨.ref T,upd H T (.tup [.int i,x]),I.laidCh (t':=tk) kk hT ⟨HZ,[.int i t,x'],.cons ⟨t,rfl⟩ (.cons ru .nil),?_⟩ hf,rfl,⟨T,x,fr,rfl,rfl,fun ys hy=>by rw [I.list_inj hy hq];exact hx⟩,⟨hst.1,hst.2.1⟩,fun b hb=>?_⟩
  ·obtain ⟨o,ho,r⟩:=htup
   exact ⟨o,hk2 T o hap ho,r⟩
  ·have fb:=(hf b hb)
   rw [aB (fun z=>?_)]
   ·exact fb.1
   ·have lt:b < s.heap.objs.size:=by
     rcases List.mem_cons.mp hb with z | z
     ·subst z;exact Heap.lt_size he
     ·rw [List.mem_singleton.mp z];obtain ⟨o,ho,_⟩:=hl;exact Heap.lt_size ho
    rw [z] at lt
    exact absurd (Nat.lt_of_lt_of_le lt hT) (Nat.lt_irrefl _)
 done:=by
  intro X hP hw hK hc i pins s σ H E I hf st hg
  subst hP hw hK
  obtain ⟨xs,hq,hx⟩:=hg
  obtain ⟨its,rv,p,hz⟩:=I.list hq
  obtain ⟨⟨old,he⟩,hl⟩:=st
  have hai:a≠it:=fun z=>by
   obtain ⟨o,ho,hcl,_⟩:=hl
   obtain ⟨o',n,ho',hcl',_⟩:=p
   rw [z,ho] at ho';cases ho';rw [hcl] at hcl';exact absurd hcl' (by decide)
  have hae:a≠e:=fun z=>by
   obtain ⟨o',n,ho',hcl',_⟩:=p
   rw [z,he] at ho';cases ho';exact absurd (show Value.type "enumerate"= .type "list" from hcl') (by decide)
  have W:=WalksT.enumerateD (prog:=X.prog) (w:=X.w) (A:=X.A) (Draws.list (A:=X.A.in1) (I.ok.hd hc) it a hai its.toArray) e hei (by simp [hei,Ne.symm hae]) (by simp)
  have hn:its.toArray.size=i:=by have:=rv.length;simp;omega
  subst hn
  exact W.done s _ _ ⟨⟨old,he⟩,hl,p.isList⟩ fun h' tk hk=>⟨rfl,I.turnedCh hk hf⟩
 self:=fun _ _ _ _ _ st h=>let ⟨_,he⟩:=st.1;wpAny_pyIter_enum he h
theorem Pp {P:Program} {w:World} {K:PySem.W.Frag} {elts:List Expr} {k:Nat} {pos:Pos} {x:Str} {t:Tok} {n:String} (e it:Addr) (hei:e≠it)
  (D:∀ A:Around,A.handled=none→Draws P w A it [it] x.cps.size (fun i v=>∃ c u,x.cps[i]? =some c∧v= .str ⟨#[c]⟩ u) (fun i h=>h.IsStrIter it n x t i)):
  Turn P w K (.Tuple elts k pos) (Itz x) [e,it] e (fun i h=>(∃ old,IsEnum h e it i old)∧h.IsStrIter it n x t i) where
 mem:=by simp
 obj:=fun i h st b hb=>by
  obtain ⟨⟨old,he⟩,⟨o,ho,hc,hd⟩⟩:=st
  rcases List.mem_cons.mp hb with z | z
  ·subst z;exact ⟨_,he,fun v z=>by cases z⟩
  ·rw [List.mem_singleton.mp z];exact ⟨o,ho,fun v z=>by rw [hd] at z;cases z⟩
 keep:=fun i h h' st k=>⟨let ⟨old,he⟩:=st.1;⟨old,k e (by simp) _ he⟩,let ⟨o,ho,r⟩:=st.2;⟨o,k it (by simp) o ho,r⟩⟩
 item:=by
  intro X hP hw hK hc i pins s σ H E I hf st hg
  subst hP hw hK
  obtain ⟨⟨old,he⟩,hl⟩:=st
  have W:=WalksT.enumerateD (prog:=X.prog) (w:=X.w) (A:=X.A) (D X.A.in1 (I.ok.hd hc)) e hei (by simp [hei]) (by simp)
  refine W.item i s _ _ hg ⟨⟨old,he⟩,hl⟩ fun T vals h' tk hPt hT htup hmid hk=>⟨_,rfl,W.go elts k pos i T _ _ _ hmid fun h'' hst hk2=>?_⟩
  obtain ⟨t1,x',⟨c,u,hx',rfl⟩,rfl⟩:=hPt
  have hap:=W.apart i T h' hmid
  have kk:∀ b u,b∉[e,it]→s.heap.get? b=some u→h''.get? b=some u:=fun b u hb q=>hk2 b u hb (hk b u hb q)
  have fr:H T=none:=I.hok.fresh hT
  refine ⟨.ref T,upd H T (.tup [.int i,.str ⟨#[c]⟩]),I.laidCh (t':=tk) kk hT ⟨HZ,[.int i t1,.str ⟨#[c]⟩ u],.cons ⟨t1,rfl⟩ (.cons ⟨u,rfl⟩ .nil),?_⟩ hf,rfl,⟨T,c,fr,rfl,rfl,hx'⟩,⟨hst.1,hst.2⟩,fun b hb=>?_⟩
  ·obtain ⟨o,ho,r⟩:=htup
   exact ⟨o,hk2 T o hap ho,r⟩
  ·have fb:=(hf b hb)
   rw [aB (fun z=>?_)]
   ·exact fb.1
   ·have lt:b < s.heap.objs.size:=by
     rcases List.mem_cons.mp hb with z | z
     ·subst z;exact Heap.lt_size he
     ·rw [List.mem_singleton.mp z];obtain ⟨o,ho,_⟩:=hl;exact Heap.lt_size ho
    rw [z] at lt
    exact absurd (Nat.lt_of_lt_of_le lt hT) (Nat.lt_irrefl _)
 done:=by
  intro X hP hw hK hc i pins s σ H E I hf st hg
  subst hP hw hK
  obtain ⟨⟨old,he⟩,hl⟩:=st
  have W:=WalksT.enumerateD (prog:=X.prog) (w:=X.w) (A:=X.A) (D X.A.in1 (I.ok.hd hc)) e hei (by simp [hei]) (by simp)
  have hg:i=x.cps.size:=hg
  subst hg
  exact W.done s _ _ ⟨⟨old,he⟩,hl⟩ fun h' tk hk=>⟨rfl,I.turnedCh hk hf⟩
 self:=fun _ _ _ _ _ st h=>let ⟨_,he⟩:=st.1;wpAny_pyIter_enum he h
noncomputable def aeI (K:PySem.W.Frag) (tl:TE):TI:=fun σ H R=>tl σ H fun x H1=>(∃ a,x= .ref a∧(∃ xs,SqL K H1 a xs)∧R (Ite K a) H1)∨∃ z,x= .str z∧R (Itz z) H1
section
variable {X:Cx} {K:PySem.W.Frag}
theorem Um {l:Expr} {tl:TE} {elts:List Expr} {k:Nat} {tpos p pos:Pos} (h:X.K=K) (hg:Gl X "enumerate") (hm:X.mg "enumerate"=none) (hl:PE X l tl) (hs:starEach [l] X.env=[(false,eval l X.env)]:=by rfl):
  PI X (.Tuple elts k tpos) (.Call (.Name "enumerate" p) [l] [] pos) (aeI K tl):=by
 subst h
 intro pins s σ H R I h
 refine Call_ (nc I hg hm boot_enumerate (PyProof.Rows.callWith_type1 (thn (aa hl ae hs pos pins s σ H (fun vs H1=>match vs with | [x]=>(∃ a,x= .ref a∧(∃ xs,SqL X.K H1 a xs)∧R (Ite X.K a) H1)∨∃ z,x= .str z∧R (Itz z) H1 | _=>False) I h) fun us s1 ⟨vs,H1,I1,r1,q1⟩=>?_) hs rfl))
 match vs,r1,q1 with
 | [x],r1,q1=>
 obtain ⟨u,rfl,ru⟩:=r1.one
 rcases q1 with ⟨a,rfl,⟨xs,hq⟩,q⟩ | ⟨z,rfl,q⟩
 ·cases ru
  obtain ⟨its,rv,pl,hz⟩:=I1.list hq
  refine call_enumerate_list pl.isList fun h' he hit hsz hk=>wpAny_pyIter_enum he ?_
  refine ⟨s1.heap.objs.size + 1,[s1.heap.objs.size + 1,s1.heap.objs.size],_,_,H1,rfl,I1.kept (t':=s1.toks) hk,EB a _ _ (Nat.ne_of_gt (Nat.lt_succ_self _)),⟨⟨_,he⟩,hit⟩,fun b hb=>?_,q⟩
  have hb':s1.heap.objs.size≤b:=(List.mem_cons.mp hb).elim (fun z=>by rw [z];exact Nat.le_succ _) (fun z=>by rw [List.mem_singleton.mp z];exact Nat.le_refl _)
  exact I1.fpOk hb' (I1.hok.fresh hb')
 ·obtain ⟨t,rfl⟩:=ru
  refine call_enumerate_str fun h' he hit hsz hk=>wpAny_pyIter_enum he ?_
  have fin:∀ n,(h'.IsStrIter s1.heap.objs.size n z t 0)→(∀ A:Around,A.handled=none→Draws X.prog X.w A s1.heap.objs.size [s1.heap.objs.size] z.cps.size (fun i v=>∃ c u,z.cps[i]? =some c∧v= .str ⟨#[c]⟩ u) (fun i h=>h.IsStrIter s1.heap.objs.size n z t i))→
    PIE X pins σ (.Tuple elts k tpos) R (.ref (s1.heap.objs.size + 1)) {s1 with heap:=h'}:=fun n hn D=>by
   refine ⟨s1.heap.objs.size + 1,[s1.heap.objs.size + 1,s1.heap.objs.size],_,_,H1,rfl,I1.kept (t':=s1.toks) hk,Pp _ _ (Nat.ne_of_gt (Nat.lt_succ_self _)) D,⟨⟨_,he⟩,hn⟩,fun b hb=>?_,q⟩
   have hb':s1.heap.objs.size≤b:=(List.mem_cons.mp hb).elim (fun z=>by rw [z];exact Nat.le_succ _) (fun z=>by rw [List.mem_singleton.mp z];exact Nat.le_refl _)
   exact I1.fpOk hb' (I1.hok.fresh hb')
  unfold strIterType at hit
  split at hit
  ·exact fin _ hit fun A hA=>Draws.strAscii hA _ z t
  ·exact fin _ hit fun A hA=>Draws.strWide hA _ z t
end
theorem GW {K:PySem.W.Frag} {a:Addr} {xs:List V} {g:TG} {tb:TS} {D:Ends} {σ:St} {H:Hp} (Pv:Nat→St→Hp→Prop) (h0:Pv 0 σ H) (hl:∀ i σ H,i≤xs.length→Pv i σ H→SqL K H a xs)
  (hs:∀ i x σ H p H',xs[i]? =some x→Pv i σ H→H p=none→Same H H'→H' p=some (.tup [.int i,x])→g (.ref p) σ H' fun σ2 H2=>tb {D with nx:=Pv (i + 1),ct:=Pv (i + 1),bk:=D.nx} σ2 H2) (hd:∀ σ H,Pv xs.length σ H→D.nx σ H):
  ∃ W:Nat→Nat→St→Hp→Prop,(∃ m,W 0 m σ H)∧∀ i m σ H,W i m σ H→
    ((Ite K a).stop i H∧D.nx σ H)∨((Ite K a).go i H∧∃ N:St→Hp→Prop,(∀ σ' H',N σ' H'→∃ m',m' < m∧W (i + 1) m' σ' H')∧∀ x H',(Ite K a).yld i H x H'→g x σ H' fun σ2 H2=>tb {D with nx:=N,ct:=N,bk:=D.nx} σ2 H2):=by
 refine ⟨fun i m σ H=>m=xs.length - i∧i≤xs.length∧Pv i σ H,⟨xs.length,by simp,Nat.zero_le _,h0⟩,?_⟩
 rintro i m σ H ⟨rfl,hi,p⟩
 have q:=hl i σ H hi p
 by_cases hlt:i < xs.length
 ·refine .inr ⟨⟨xs,xs[i],q,by simp [hlt]⟩,Pv (i + 1),fun σ' H' p'=>⟨xs.length - (i + 1),by omega,rfl,hlt,p'⟩,fun x H' y=>?_⟩
  obtain ⟨r,v,f,e1,e2,y⟩:=y
  subst e1 e2
  exact hs i v σ H r _ (y xs q) p f (bf f) av
 ·have e:i=xs.length:=by omega
  subst e
  exact .inl ⟨⟨xs,q,rfl⟩,hd σ H p⟩
section
variable {σ:St} {H:Hp} {te:TE} {R:It→Hp→Prop}
theorem abl {K:PySem.W.Frag} (h:te σ H fun x H1=>(∃ a,x= .ref a∧(∃ xs,SqL K H1 a xs)∧R (Ite K a) H1)∨∃ z,x= .str z∧R (Itz z) H1):aeI K te σ H R:=h
end
noncomputable def ZS:V→List V→Hp→VK→Prop:=fun x xs H Q=>∃ z y,x= .str z∧xs=[.str y]∧y.length≠0∧z.length + 2≤sizeLine∧∀ D,H D=none→Q (.ref D) (upd H D (.lst ((Txt.split z y).map V.str)))
theorem HX:∀ (ss:List Str) (n:Nat),Vals (ss.map V.str) (strsFrom n ss)
 | [],_=> .nil
 | x::r,n=> .cons ⟨n,rfl⟩ (HX r (n + 1))
section
variable {X:Cx}
theorem Gu:MtR X "str.split" ZS:=by
 intro pins s σ H x xs v us Q I rx rs h
 obtain ⟨z,y,rfl,rfl,hy,hz,q⟩:=h
 obtain ⟨t,rfl⟩:=rx
 obtain ⟨u,rfl,ru⟩:=yL rs
 obtain ⟨t',rfl⟩:=ru
 have hy:(y.length == 0)=false:=beq_eq_false_iff_ne.mpr hy
 have hle:=split_le z y
 have fr:=I.hok.fresh (Nat.le_refl s.heap.objs.size)
 have itself:Txt.split z y=[z]→EP X pins σ Q (.ref s.heap.objs.size) {s with heap:=s.heap.push {cls:= .type "list",data:= .seq [Value.str z t].toArray}}:=fun e=>
  ⟨.ref s.heap.objs.size,_,I.laid (t':=s.toks) (o:= .lst ((Txt.split z y).map V.str)) (fun b o e=>Heap.get?_push_of_some _ e) (Nat.le_refl _) ⟨by rw [List.length_map];omega,[.str z t],0,by rw [e];exact .cons ⟨t,rfl⟩ .nil,Heap.get?_push_size _ rfl⟩,rfl,q _ fr⟩
 cases h1:(decide (z.length < y.length)||decide (Builtin.Str.strKind z < Builtin.Str.strKind y)) with
 | true=>exact call_meets F.slot_str_split (typeIs_str _ _ _) F.entry_str_split (F.args_str_split_2 _ _) (meets_str_split_cannot_occur z y t t' h1) (itself (if_pos h1))
 | false=>
   cases hf:(Builtin.Str.occurrences z y 0 z.length (z.length + 1)).isEmpty with
   | true=>exact call_meets F.slot_str_split (typeIs_str _ _ _) F.entry_str_split (F.args_str_split_2 _ _) (meets_str_split_not_found z y t t' h1 hy hf) (itself ((if_neg (ne_true_of_eq_false h1)).trans (if_pos hf)))
   | false=>
     have e:Txt.split z y=Builtin.Str.partsBetween z (Builtin.Str.occurrences z y 0 z.length (z.length + 1)) y.length:=(if_neg (ne_true_of_eq_false h1)).trans (if_neg (ne_true_of_eq_false hf))
     refine call_meets F.slot_str_split (typeIs_str _ _ _) F.entry_str_split (F.args_str_split_2 _ _) (meets_str_split_sep z y t t' h1 hy hf (by omega) (by rw [← e];omega)) ?_
     refine ⟨.ref s.heap.objs.size,_,I.laid (fun b o e=>Heap.get?_push_of_some _ e) (Nat.le_refl _) (o:= .lst ((Txt.split z y).map V.str)) ⟨by rw [List.length_map];omega,_,0,?_,Heap.get?_push_size _ rfl⟩,rfl,q _ fr⟩
     rw [e]
     exact HX _ _
end
section
variable {σ:St} {H:Hp} {Q:VK} {D:Ends} {te ty tv td:TE} {x y v:V}
theorem Lg {z w:Str} (hw:w.length≠0) (hz:z.length + 2≤sizeLine) (h:∀ p H2,H p=none→Same H H2→H2 p=some (.lst ((Txt.split z w).map V.str))→Q (.ref p) H2):ZS (.str z) [.str w] H Q:=⟨z,w,rfl,rfl,hw,hz,jl h⟩
theorem rX {l:Addr} {xs:List V} (e:H l=some (.lst xs)) (hz:xs.length < sizeLine) (h:∀ H2,Upd H H2 l (.lst (xs++[y]))→Q .non H2):T6 (.ref l) [y] H Q:=⟨l,xs,y,rfl,rfl,e,hz,h _ Upd.of⟩
noncomputable def aaH (v:V) (x:V) (D:Ends) (σ:St) (y:V) (H:Hp):Prop:=∃ a H4,x= .ref a∧DPut H a y v H4∧D.nx σ H4
theorem adJ (h:tv σ H fun v H1=>td σ H1 fun x H2=>ty σ H2 (aaH v x D σ)):adS td ty tv D σ H:=h
theorem qH {p:Addr} {kvs:List (Key×V)} {z:Str} (e:H p=some (.dK kvs)) (hl:kvs.length < sizeLine) (h:∀ H2,Upd H H2 p (.dK (putK kvs (Sum.inr z) v))→D.nx σ H2):aaH v (.ref p) D σ (.str z) H:=⟨p,_,rfl,DPut.k (k:=Sum.inr z) e hl,h _ Upd.of⟩
noncomputable def aaJ (x:V) (Q:VK) (y:V) (H:Hp):Prop:=∃ a v,x= .ref a∧DGet H a y (some v)∧Q v H
theorem adM (h:td σ H fun x H1=>ty σ H1 (aaJ x Q)):add td ty σ H Q:=h
theorem uc {p:Addr} {kvs:List (Key×V)} {z:Str} (e:H p=some (.dK kvs)) (l:valV kvs (Sum.inr z)=some v) (h:Q v H):aaJ (.ref p) Q (.str z) H:=⟨p,v,rfl,by rw [← l];exact DGet.k (k:=Sum.inr z) e,h⟩
noncomputable def aaE (C:Addr) (m:Str) (sp:Sp) (E:XK) (tr:TA) (σ:St) (Q:VK) (x:V) (H:Hp):Prop:=∃ a dx fs,x= .ref a∧H a=some (.ins C dx fs)∧fs.lookup m=none∧tr σ H fun vs H2=>sp (x::(vs++[])) H2 Q E
theorem adx {C:Addr} {m:Str} {sp:Sp} {E:XK} {tr:TA} (h:te σ H (aaE C m sp E tr σ Q)):aaU C m sp [] E te tr σ H Q:=h
theorem aV {C dx p:Addr} {m:Str} {fs:List (Str×V)} {sp:Sp} {E:XK} {tr:TA} (e:H p=some (.ins C dx fs)) (l:fs.lookup m=none) (h:tr σ H fun vs H2=>sp (.ref p::vs) H2 Q E):aaE C m sp E tr σ Q (.ref p) H:=⟨p,dx,fs,rfl,e,l,by simp only [List.append_nil];exact h⟩
theorem abj {K:PySem.W.Frag} {p:Addr} {xs:List V} (e:SqL K H p xs) (h:∀ q H2,H q=none→Same H H2→H2 q=some (.lst xs)→Q (.ref q) H2):Lj K [.ref p] H Q:=⟨p,xs,rfl,.inl e,jl h⟩
theorem abi {K:PySem.W.Frag} {p:Addr} {xs:List V} (e:SqT K H p xs) (h:∀ q H2,H q=none→Same H H2→H2 q=some (.lst xs)→Q (.ref q) H2):Lj K [.ref p] H Q:=⟨p,xs,rfl,.inr e,jl h⟩
theorem adl {K:PySem.W.Frag} {p:Addr} {xs:List V} (e:SqL K H p xs) (h:∀ q H2,H q=none→Same H H2→H2 q=some (.tup xs)→Q (.ref q) H2):T4 K [.ref p] H Q:=⟨p,xs,rfl,.inl ⟨e,jl h⟩⟩
theorem adk {K:PySem.W.Frag} {p:Addr} {xs:List V} (e:SqT K H p xs) (h:Q (.ref p) H):T4 K [.ref p] H Q:=⟨p,xs,rfl,.inr ⟨e,h⟩⟩
end
noncomputable def Mv (ch fr:List Addr) (h h':Heap):Prop:=(∀ b o,b∉ch→b∉fr→h.get? b=some o→h'.get? b=some o)∧∀ b o,b∉ch→b∈fr→h.get? b=some o→∃ sl,h'.get? b=some {o with slots:=sl}
noncomputable def WN (h:Heap) (e:Addr) (C:Value) (dx:Option Addr) (T:Option (Addr×Value)):Prop:=
 ∃ oe vs,h.get? e=some oe∧oe.cls=C∧oe.dict=dx∧oe.data= .fields vs∧1 < vs.size∧
   match T with
   | none=>vs[1]? =some .none
   | some (t,fl)=>vs[1]? =some (.ref t)∧t≠e∧∃ oT ts,h.get? t=some oT∧oT.data= .fields ts∧ts[3]? =some fl
section
variable {M:Model} {A:Around} {E:Value→Shared→Prop} {s:Shared}
theorem JS {h:Heap} {a:Addr} {o:Obj} {vs:Array Value} {i:Nat} {v:Value} (ho:h.get? a=some o) (hd:o.data= .fields vs):
  ∃ o',(h.update a (Obj.mapFields (·.setIfInBounds i v))).get? a=some o'∧o'.cls=o.cls∧o'.dict=o.dict∧o'.data= .fields (vs.setIfInBounds i v):=by
 have hd':=Obj.data_mapFields hd (·.setIfInBounds i v)
 refine ⟨_,Heap.get?_update_self (Obj.mapFields (·.setIfInBounds i v)) ho (Obj.isFreed_of_fields hd'),Obj.cls_mapFields _ _,?_,hd'⟩
 obtain ⟨c,d,dt,sl⟩:=o
 have hd:dt= .fields vs:=hd
 subst hd
 rfl
theorem Y8 {base:Heap} {env:Env} {outer:List Env} {L e:Addr} {oe:Obj} {vs:Array Value} {head:Value} {b:Bool} {Q:Unit→Shared→Prop}
  (hfr:A.frames=some (env::outer)) (hl:s.heap.FunFrames base (env::outer)) (hf:env.frame=some L) (he:s.heap.get? e=some oe) (hd:oe.data= .fields vs) (hsz:1 < vs.size)
  (h:∀ h',Mv [e] (frs (env::outer)) s.heap h'→WN h' e oe.cls oe.dict (some (s.heap.objs.size,rawInt L))→Q () {s with heap:=h'}):
  wpAny M A (do let a ← frameOf env;let pl ← entryPlaceOf L b;let t ← EntryCells.newEntry head a .none (rawInt L) .none pl;setField (.ref e) 1 t) Q E s:=by
 have ne:e∉frs (env::outer):=fun hm=>by
  obtain ⟨_,o,ho,hnf⟩:=hl.mem hm
  rw [he] at ho;cases ho;exact hnf vs hd
 refine wpAny_bind (wpAny_frameOf_fun hfr hl hf fun g1 z1=>?_)
 refine wpAny_bind (wpAny_entryPlaceOf fun pl isp=>?_)
 unfold EntryCells.newEntry newFields
 refine wpAny_bind (wpAny_newObj_type ?_ (isp.sizeOk5 _ _ _ _ _))
 have e1:g1.get? e=some oe:=(z1.2.1 e ne).trans he
 have sz:g1.objs.size=s.heap.objs.size:=z1.1
 generalize hob:({cls:= .type "traceback",dict:=none,data:= .fields ([head,.ref L,.none,rawInt L,.none]++(if pl.isEmpty then List.replicate 6 Value.none else pl)).toArray}:Obj)=ob
 have e2:(g1.push ob).get? e=some oe:=Heap.get?_push_of_some ob e1
 refine wpAny_setField e2 hd hsz ?_
 have lt:e < g1.objs.size:=Heap.lt_size e1
 obtain ⟨o',q1,q2,q3,q4⟩:=JS (i:=1) (v:= .ref g1.objs.size) e2 hd
 have oth:∀ c,c≠e→((g1.push ob).update e (Obj.mapFields (·.setIfInBounds 1 (Value.ref g1.objs.size)))).get? c=(g1.push ob).get? c:=fun c hc=>Heap.get?_update_other _ _ (Ne.symm hc)
 have old:∀ c o,c≠e→g1.get? c=some o→((g1.push ob).update e (Obj.mapFields (·.setIfInBounds 1 (Value.ref g1.objs.size)))).get? c=some o:=fun c o hc q=>(oth c hc).trans (Heap.get?_push_of_some ob q)
 refine h _ ⟨fun c o n m q=>old c o (fun z=>n (by rw [z];exact List.mem_singleton.mpr rfl)) ((z1.2.1 c m).trans q),fun c o n m q=>?_⟩ ⟨o',_,q1,q2,q3,q4,by simpa using hsz,?_⟩
 ·obtain ⟨sl,q'⟩:=z1.2.2 c o q
  exact ⟨sl,old c _ (fun z=>n (by rw [z];exact List.mem_singleton.mpr rfl)) q'⟩
 ·have nt:g1.objs.size≠e:=Nat.ne_of_gt lt
  refine ⟨by rw [← sz];simp [hsz],by rw [← sz];exact nt,ob,_,?_,by rw [← hob],?_⟩
  ·rw [← sz,oth _ nt]
   exact Heap.get?_push_size g1 (by rw [← hob];rfl)
  ·first | (simp;done) | (rcases isp with rfl | ⟨_,_,_,_,_,_,_,rfl⟩<;>simp)
theorem VL {e t:Addr} {C:Value} {dx:Option Addr} {fl:Value} {fr:Option Addr} {Q:Unit→Shared→Prop} (x:WN s.heap e C dx (some (t,fl)))
  (h:∀ h',(∀ b o,b≠t→s.heap.get? b=some o→h'.get? b=some o)→WN h' e C dx (some (t,fr.elim .none fun f=>rawInt f))→Q () {s with heap:=h'}):wpAny M A (setFlight (.ref e) fr) Q E s:=by
 obtain ⟨oe,vs,he,hc,hdx,hd,hsz,h1,hte,oT,ts,hT,hdT,h3⟩:=x
 unfold setFlight
 refine wpAny_bind (wpAny_field he hd h1 ?_)
 rw [if_pos (show (Value.ref t != Value.none)=true from by simp)]
 refine wpAny_setField hT hdT (Array.getElem?_eq_some_iff.mp h3).1 ?_
 obtain ⟨o',q1,q2,q3,q4⟩:=JS (i:=3) (v:=fr.elim .none fun f=>rawInt f) hT hdT
 have oth:∀ c,c≠t→(s.heap.update t (Obj.mapFields (·.setIfInBounds 3 (fr.elim Value.none fun f=>rawInt f)))).get? c=s.heap.get? c:=fun c hc=>Heap.get?_update_other _ _ (Ne.symm hc)
 refine h _ (fun b o hb q=>(oth b hb).trans q) ⟨oe,vs,(oth e (Ne.symm hte)).trans he,hc,hdx,hd,hsz,h1,hte,o',_,q1,q4,?_⟩
 have:=(Array.getElem?_eq_some_iff.mp h3).1
 simp [this]
end
section
variable {X:Cx} {pins:List (Addr×Obj)} {σ:St} {H:Hp} {s:Shared}
theorem Inv.mv {h':Heap} {ch:List Addr} (I:Inv X pins σ H s) (m:Mv ch (frs X.stack) s.heap h') (fp:∀ b∈ch,FpOk X pins H b):Inv X pins σ H {s with heap:=h'}:=by
 have nit:∀ b u,H b=some u→b∉ch:=fun b u e z=>by rw [(fp b z).1] at e;cases e
 have nfr:∀ b u,H b=some u→b∉frs X.stack:=fun b u e z=>by rw [I.stkFree b z] at e;cases e
 have any:∀ b o,b∉ch→s.heap.get? b=some o→∃ sl,h'.get? b=some {o with slots:=sl}:=fun b o n e=>by
  by_cases z:b∈frs X.stack
  ·exact m.2 b o n z e
  ·exact ⟨o.slots,m.1 b o n z e⟩
 refine I.step (g':=s.gens) (d':=s.drawn) (t':=s.toks) (ch:=ch) (fun b hb=>?_) (fun b ob hL hb hc e _=>m.1 b ob hc (fun z=>(List.mem_cons.mp (I.stkSub b z)).elim hL hb) e) (fun b ob _ _ hc e _=>any b ob hc e) (fun b ob _ e n=>n) (fun b ob hc e=>let ⟨sl,q⟩:=any b ob hc e;⟨_,q⟩)
  (fun b xs e=>e) (fun b ob u e=>e) (fun b ps e=>⟨#[],by rw [e];simp⟩) (fun m' hm=>?_) (fun b u e=>?_) I.bare
 ·obtain ⟨f0,f1,f2,f3,f4,f5⟩:=fp b hb
  exact ⟨f3,f1,f4,f5⟩
 ·obtain ⟨ob,es,ep,ho,r⟩:=hm
  obtain ⟨sl,q⟩:=any _ ob (fun z=>(fp _ z).2.1 rfl) ho
  exact ⟨_,es,ep,q,r⟩
 ·refine (I.hok b u e).stay (fun c v hc q=>m.1 c v ?_ ?_ q) (fun c q=>q) fun c xs q=>q
  ·rcases hc with z | z
   ·rw [z];exact nit b u e
   ·exact nit c _ z
  ·rcases hc with z | z
   ·rw [z];exact nfr b u e
   ·exact nfr c _ z
theorem gI.there {P:Program} {w:World} {h:Heap} {a:Addr} {o:HO} (x:gI P w H h a o):∃ o',h.get? a=some o':=by
 cases o with
 | lst xs=>obtain ⟨_,_,_,_,e⟩:=x;exact ⟨_,e⟩
 | tup xs=>obtain ⟨_,_,_,_,e,_⟩:=x;exact ⟨_,e⟩
 | dK kvs=>obtain ⟨_,_,_,_,o,_,_,e,_⟩:=x;exact ⟨_,e⟩
 | dT kvs=>obtain ⟨_,_,_,_,o,_,_,e,_⟩:=x;exact ⟨_,e⟩
 | set S n=>obtain ⟨o,_,_,_,e,_⟩:=x;exact ⟨_,e⟩
 | ins C dx fs=>obtain ⟨_,_,_,e,_⟩:=x;exact ⟨_,e⟩
 | own y=>obtain ⟨_,e⟩:=x;exact ⟨_,e⟩
 | xd fs=>obtain ⟨_,⟨_,_,_,e,_⟩,_⟩:=x;exact ⟨_,e⟩
 | rng lo hi=>obtain ⟨_,_,_,e⟩:=x;exact ⟨_,e⟩
 | frz ob u=>obtain ⟨e,_⟩:=x;exact ⟨_,e⟩
 | tbl ps=>exact ⟨_,(show h.get? a=some _ from x)⟩
 | met f y=>exact ⟨_,(show h.get? a=some _ from x)⟩
 | ext φ=>obtain ⟨_,⟨_,e⟩,_⟩:=x;exact ⟨_,e⟩
theorem HOk.none_ {P:Program} {w:World} {h:Heap} {a:Addr} (x:HOk P w H h) (e:h.get? a=none):H a=none:=by
 cases q:H a with
 | none=>rfl
 | some u=>obtain ⟨o,z⟩:=(x a u q).there;rw [e] at z;cases z
noncomputable def FpN (X:Cx) (pins:List (Addr×Obj)) (H:Hp) (b:Addr):Prop:=
 H b=none∧b≠X.env.locals∧b∉X.fs∧(b∈X.ex∨X.s₀.heap.get? b=none)∧(∀ x c,X.env.cells.lookup x=some c→c≠b)∧∀ p∈X.pn++pins,p.1≠b
theorem FpOk.n {b:Addr} (f:FpOk X pins H b):FpN X pins H b:=⟨f.1,f.2.1,f.2.2.1,f.2.2.2.1.imp id Heap.get?_none_of_le,f.2.2.2.2⟩
theorem Inv.fpN {H':Hp} {b:Addr} (I:Inv X pins σ H s) (hb:s.heap.get? b=none) (hn:H' b=none):FpN X pins H' b:=by
 refine ⟨hn,fun z=>?_,fun z=>?_,?_,fun x c e z=>?_,fun p hp z=>?_⟩
 ·obtain ⟨m,⟨o,es,ep,ho,r⟩,_⟩:=I.loc
  rw [← z,hb] at ho;cases ho
 ·obtain ⟨_,o,ho,_⟩:=I.ok.funs.mem z
  obtain ⟨o',e'⟩:=I.base.there b o ho fun y=>I.ok.exfs b y z
  rw [hb] at e';cases e'
 ·by_cases z:b∈X.ex
  ·exact .inl z
  ·cases q:X.s₀.heap.get? b with
   | none=>exact .inr rfl
   | some o=>obtain ⟨o',e'⟩:=I.base.there b o q z;rw [hb] at e';cases e'
 ·obtain ⟨v,o,q,_⟩:=I.cell x c e
  rw [z,hb] at q;cases q
 ·have:=(I.pin p hp).1
  rw [z,hb] at this;cases this
theorem Inv.mvN {h':Heap} {ch:List Addr} (I:Inv X pins σ H s) (m:Mv ch (frs X.stack) s.heap h') (fp:∀ b∈ch,FpN X pins H b):Inv X pins σ H {s with heap:=h'}:=by
 have out:∀ b o,X.s₀.heap.get? b=some o→b∉X.ex→b∉ch++X.ex:=fun b o e n z=>by
  rcases List.mem_append.mp z with z | z
  ·rcases (fp b z).2.2.2.1 with y | y
   ·exact n y
   ·rw [e] at y;cases y
  ·exact n z
 have sub:∀ b,b∉ch++X.ex→b∉X.ex:=fun b n z=>n (List.mem_append_right _ z)
 have ok:Cx.Ok {X with ex:=ch++X.ex}:=⟨I.ok.mod,I.ok.kind,I.ok.glob,I.ok.blt,I.ok.above,I.ok.inj,I.ok.has,I.ok.cab,I.ok.hd,I.ok.frames,I.ok.stk,
  fun b hb=>(List.mem_append.mp hb).elim (fun z=>⟨(fp b z).2.1,(fp b z).2.2.2.2.1⟩) (I.ok.exf b),I.ok.bs,I.ok.bsz,fun b o e=>out b o (I.ok.bs b o e).1 (I.ok.noex b o e),
  fun b hb=>(List.mem_append.mp hb).elim (fun z=>(fp b z).2.2.1) (I.ok.exfs b),I.ok.funs,I.ok.frf⟩
 have U:=I.base
 have J:Inv {X with ex:=ch++X.ex} pins σ H s:=⟨ok,I.os,I.bare,⟨fun b o e n f z=>U.keep b o e n f (sub b z),fun b o e n f z=>U.slot b o e n f (sub b z),fun b o e n z=>U.free b o e n (sub b z),fun b o e z=>U.there b o e (sub b z),U.tups,U.frzs,U.tbls⟩,
  I.loc,I.cell,I.free,I.freeC,I.pin,I.hok,I.len⟩
 have J':=J.mv (h':=h') (ch:=ch) m fun b hb=>⟨(fp b hb).1,(fp b hb).2.1,(fp b hb).2.2.1,.inl (List.mem_append_left _ hb),(fp b hb).2.2.2.2⟩
 have V:=J'.base
 exact ⟨I.ok,J'.os,J'.bare,⟨fun b o e n f z=>V.keep b o e n f (out b o e z),fun b o e n f z=>V.slot b o e n f (out b o e z),fun b o e n z=>V.free b o e n (out b o e z),fun b o e z=>V.there b o e (out b o e z),V.tups,V.frzs,V.tbls⟩,
  J'.loc,J'.cell,J'.free,J'.freeC,J'.pin,J'.hok,J'.len⟩
structure Fly (X:Cx) (pins:List (Addr×Obj)) (H:Hp) (e:Addr) (C:Value) (dx:Option Addr) (T:Option (Addr×Value)) (h:Heap):Prop where
 at_:WN h e C dx T
 fe:FpN X pins H e
 ft:∀ t fl,T=some (t,fl)→FpN X pins H t
noncomputable def Own (X:Cx):Prop:=X.stack=X.env::X.outer∧X.env.frame=some X.env.locals
theorem UO {M:Model} {E:Value→Shared→Prop} {e:Addr} {C:Value} {dx:Option Addr} {T:Option (Addr×Value)} {Q:Unit→Shared→Prop} (I:Inv X pins σ H s) (ow:Own X) (f:Fly X pins H e C dx T s.heap)
  (h:∀ h' t,Inv X pins σ H {s with heap:=h'}→Fly X pins H e C dx (some (t,rawInt X.env.locals)) h'→Q () {s with heap:=h'}):wpAny M X.A (noteFrame (.ref e) X.env) Q E s:=by
 obtain ⟨ho,hf⟩:=ow
 have hfr:X.A.frames=some (X.env::X.outer):=by rw [I.ok.frames,ho]
 have hst:s.heap.FunFrames X.base (X.env::X.outer):=by rw [← ho];exact I.stack
 obtain ⟨⟨oe,vs,he,hc,hdx,hd,hsz,hT⟩,fe,ft⟩:=f
 have fin:∀ (s1:Shared) (oe1:Obj) (vs1:Array Value) (hd1:Value) (b1:Bool),Inv X pins σ H s1→s1.heap.objs.size=s.heap.objs.size→s1={s with heap:=s1.heap}→s1.heap.get? e=some oe1→oe1.cls=C→oe1.dict=dx→oe1.data= .fields vs1→1 < vs1.size→
   wpAny M X.A (do let a ← frameOf X.env;let pl ← entryPlaceOf X.env.locals b1;let t ← EntryCells.newEntry hd1 a .none (rawInt X.env.locals) .none pl;setField (.ref e) 1 t) Q E s1:=by
  intro s1 oe1 vs1 hd1 b1 I1 hz hs1 q1 q2 q3 q4 q5
  have hst1:s1.heap.FunFrames X.base (X.env::X.outer):=by rw [← ho];exact I1.stack
  refine Y8 hfr hst1 hf q1 q4 q5 fun h' m x=>?_
  have I2:Inv X pins σ H {s1 with heap:=h'}:=I1.mvN (ch:=[e]) (by rw [ho];exact m) fun b hb=>by rw [List.mem_singleton.mp hb];exact fe
  have e2:({s1 with heap:=h'}:Shared)={s with heap:=h'}:=by rw [hs1]
  rw [e2] at I2 ⊢
  rw [q2,q3] at x
  exact h h' _ I2 ⟨x,fe,fun t fl z=>by cases z;exact (I1.fpOk (Nat.le_refl _) (I1.hok.fresh (Nat.le_refl _))).n⟩
 unfold noteFrame
 simp only [hf]
 cases T with
 | none=>
   have h1:vs[1]? =some .none:=hT
   refine wpAny_bind (wpAny_field he hd h1 ?_)
   rw [if_neg (by decide)]
   exact fin s oe vs _ _ I rfl rfl he hc hdx hd hsz
 | some p=>
   obtain ⟨t,fl⟩:=p
   obtain ⟨h1,hte,oT,ts,hTt,hdT,h3⟩:=hT
   refine wpAny_bind (wpAny_field he hd h1 ?_)
   rw [if_pos (show (Value.ref t != Value.none)=true from by simp)]
   refine wpAny_bind (wpAny_field hTt hdT h3 ?_)
   by_cases hz:(fl == rawInt X.env.locals)=true
   ·rw [if_pos hz]
    have hz':=eq_of_beq hz
    subst hz'
    exact wpAny_pure (h s.heap t I ⟨⟨oe,vs,he,hc,hdx,hd,hsz,h1,hte,oT,ts,hTt,hdT,h3⟩,fe,ft⟩)
   ·rw [if_neg hz]
    refine wpAny_bind (wpAny_setField hTt hdT (Array.getElem?_eq_some_iff.mp h3).1 ?_)
    have oth:∀ c,c≠t→(s.heap.update t (Obj.mapFields (·.setIfInBounds 3 Value.none))).get? c=s.heap.get? c:=fun c hc=>Heap.get?_update_other _ _ (Ne.symm hc)
    have m1:Mv [t] (frs X.stack) s.heap (s.heap.update t (Obj.mapFields (·.setIfInBounds 3 Value.none))):=
     ⟨fun b o n _ q=>(oth b (fun z=>n (by rw [z];exact List.mem_singleton.mpr rfl))).trans q,fun b o n _ q=>⟨o.slots,(oth b (fun z=>n (by rw [z];exact List.mem_singleton.mpr rfl))).trans q⟩⟩
    have I1:=I.mvN m1 fun b hb=>by rw [List.mem_singleton.mp hb];exact ft t fl rfl
    exact fin _ oe vs _ _ I1 (Heap.size_after_update ..) rfl ((oth e (Ne.symm hte)).trans he) hc hdx hd hsz
theorem aat {M:Model} {A:Around} {E:Value→Shared→Prop} {e t:Addr} {C:Value} {dx:Option Addr} {fl:Value} {fr:Option Addr} {Q:Unit→Shared→Prop} (I:Inv X pins σ H s) (f:Fly X pins H e C dx (some (t,fl)) s.heap)
  (h:∀ h',Inv X pins σ H {s with heap:=h'}→Fly X pins H e C dx (some (t,fr.elim .none fun f=>rawInt f)) h'→Q () {s with heap:=h'}):wpAny M A (setFlight (.ref e) fr) Q E s:=by
 refine VL f.at_ fun h' k x=>h h' (I.mvN (ch:=[t]) ⟨fun b o n _ q=>k b o (fun z=>n (by rw [z];exact List.mem_singleton.mpr rfl)) q,fun b o n _ q=>⟨o.slots,k b o (fun z=>n (by rw [z];exact List.mem_singleton.mpr rfl)) q⟩⟩ fun b hb=>by rw [List.mem_singleton.mp hb];exact f.ft t fl rfl) ⟨x,f.fe,fun t' fl' z=>by cases z;exact f.ft t fl rfl⟩
end
noncomputable abbrev XW:=St→XK
noncomputable def XE (X:Cx) (W:XW) (e:Value) (s:Shared):Prop:=∃ pins x C dx T σ H,e= .ref x∧Inv X pins σ H s∧Fly X pins H x C dx T s.heap∧W σ C dx H
noncomputable def Thr (X:Cx) (W:XW):Prop:=∀ e s,XE X W e s→X.xe e s
noncomputable abbrev Cx.thr (X:Cx) (W:XW):Cx:=X.wish (XE X W)
noncomputable abbrev W0:XW:=fun _ _ _ _=>False
section
variable {X:Cx} {W:XW} {pins:List (Addr×Obj)} {σ:St} {H:Hp} {s:Shared}
theorem Fly.wish {E:Value→Shared→Prop} {e:Addr} {C:Value} {dx:Option Addr} {T:Option (Addr×Value)} {h:Heap} (f:Fly (X.wish E) pins H e C dx T h):Fly X pins H e C dx T h:=⟨f.at_,f.fe,f.ft⟩
theorem g9:Thr (X.thr W) W:=fun e s ⟨pins,x,C,dx,T,σ,H,he,I,f,w⟩=>⟨pins,x,C,dx,T,σ,H,he,I.unwish,f.wish,w⟩
theorem thr0:Thr X W0:=fun e s ⟨pins,x,C,dx,T,σ,H,he,I,f,w⟩=>w.elim
theorem Qc (ow:Own X):PassesOwn (model X.prog X.w) X.A X.env (XE X W):=by
 intro e s' ⟨pins,x,C,dx,T,σ,H,he,I,f,w⟩
 subst he
 unfold notedBy
 refine UO I ow f fun h' t I' f'=>?_
 unfold cameBackBy
 obtain ⟨⟨oe,vs,q1,q2,q3,q4,q5,q6,q7⟩,fe,ft⟩:=id f'
 refine wpAny_bind (wpAny_field q1 q4 q6 ?_)
 rw [if_neg (by simp)]
 refine aat I' f' fun h2 I2 f2=>?_
 rw [ow.2] at f2
 exact ⟨pins,x,C,dx,_,σ,H,rfl,I2,f2,w⟩
theorem mf (ow:Own X):PassesOwn (model X.prog X.w) X.A X.env (X.thr W).xe:=Qc ow
theorem PSs.thr {st:List Stmt} {t:TS} (h:PSs (X.thr W) st t) (k:Thr X W):PSs X st t:=fun pins s σ H D I hw=>
 wpAny_mono (h pins s σ H D (I.wish _) hw) (fun _ _ q=>q.unwish) k
end
noncomputable def CX1 (P:Program) (w:World):CXT:=fun outer H s E e s'=>∃ x C dx t H',e= .ref x∧s'.os=s.os∧AllBare s'.gens∧Un (frs outer) [] H H' s.heap s'.heap∧HOk P w H' s'.heap∧
 WN s'.heap x C dx (some (t,.none))∧s.heap.get? x=none∧s.heap.get? t=none∧H' x=none∧H' t=none∧E C dx H'
section
variable {P:Program} {w:World} {K:PySem.W.Frag} {mg:Str→Option Value} {base:Heap}
theorem OQ {N:List Str} {qual:Str} {scope:Scope} {f:Addr} {cd:Value} {A:Around} {outer:List Env} {s:Shared} {H:Hp} {E:XK}:
  Thr (cxOf (CX1 P w) P w K mg base N qual scope f cd A outer s H E) fun _=>E:=by
 intro e s' ⟨pins,x,C,dx,T,σ,H',he,I,f',wq⟩
 subst he
 have own:Own (cxOf (CX1 P w) P w K mg base N qual scope f cd A outer s H E):=⟨rfl,rfl⟩
 show wpAny _ _ (leaving _ _) _ _ _
 unfold leaving
 refine wpAny_bind (UO I own f' fun h1 t I1 f1=>?_)
 refine aat (fr:=none) I1 f1 fun h2 I2 f2=>?_
 have fx:=f2.fe
 have ft:=f2.ft t _ rfl
 have no:∀ b:Addr,(b∈([]:List Addr)∨s.heap.get? b=none)→s.heap.get? b=none:=fun b z=>z.elim (fun q=>absurd q (by simp)) id
 exact ⟨x,C,dx,t,H',rfl,I2.os,I2.bare,I2.base,I2.hok,f2.at_,no x fx.2.2.2.1,no t ft.2.2.2.1,fx.1,ft.1,wq⟩
theorem Fun.okX {x qual:Str} {st:Stmt} {f:Addr} {fd:FuncData} {N ps:List Str} {k:Nat} {sp:Sp} (F:Fun K x qual st f fd) (S:ay N ps (ad st)) (len:∀ vs H Q E,sp vs H Q E→vs.length=ps.length)
  (hbody:∀ (cdv:Value) (A:Around) (outer:List Env) (s:Shared) (H:Hp) (vs:List V) (Q:VK) (E:XK),Room k (A.deeper (envOfC qual (ad st) s.heap.objs.size f cdv))→sp vs H Q E→
   ∃ t,PSs ((cxOf (CX1 P w) P w K mg base N qual (ad st) f cdv A outer s H E).thr fun _=>E) (au st) t∧t {nx:=fun _ H'=>Q .non H',rt:=Q} (start N vs) H):FnOk P w K mg base (CX1 P w) (k + 1) f fd ps sp:=by
 obtain ⟨oc,od,kV,doc,pm,an,cdv,ct,osl,rfl,lk,hcd⟩:=F.ex
 refine acd lk hcd S len fun A outer s H vs Q E hr hsp=>?_
 obtain ⟨t,h,q⟩:=hbody cdv A outer s H vs Q E hr hsp
 exact ⟨t,h.thr OQ,q⟩
end
section
variable {X:Cx} {W:XW} {pins:List (Addr×Obj)} {σ:St} {H:Hp} {s s':Shared}
theorem Inv.afterX {e:Value} (I:Inv X pins σ H s) (hx:Thr X W) (h:CX1 X.prog X.w X.stack H s (W σ) e s'):X.xe e s':=by
 obtain ⟨x,C,dx,t,H',rfl,os,bare,un,hok,ea,zx,zt,nx,nt,w⟩:=h
 refine hx _ _ ⟨pins,x,C,dx,_,σ,H',rfl,I.call' (ch:=[]) os un hok bare (fun b z=>absurd z (by simp)),⟨ea,I.fpN zx nx,fun t' fl z=>?_⟩,w⟩
 cases z
 exact I.fpN zt nt
variable {k:Nat} {f C:Addr} {fd:FuncData} {ps:List Str} {sp:Sp} {dvs:List V} {ds:List Value} {x m:Str} {p pos apos:Pos} {e o:Expr} {es:List Expr} {ta:TE} {t:TA}
theorem TX {Q:VK} {us:List Value} {vs:List V} (F:FnOk X.prog X.w X.K X.mg X.base (CX1 X.prog X.w) k f fd ps sp) (hr:Room k X.A) (hb:aZ X.K fd ps ds) (hd:Vals dvs ds) (hx:Thr X W)
  (I:Inv X pins σ H s) (r:Vals vs us) (h:sp (vs++dvs) H Q (W σ)):wpAny (model X.prog X.w) X.A (call (.ref f) us) (EP X pins σ Q) X.xe s:=by
 have r2:Vals (vs++dvs) (us++ds):=r.append hd
 have hl:(us++ds).length=ps.length:=by rw [← r2.length];exact F.len _ _ _ _ h
 refine wpAny_call (codeAny_mono (F.run X.A X.stack s H ⟨us,[]⟩ (us++ds) (vs++dvs) Q (W σ) hr I.env0 (hb s us I.kIn hl) r2 h) fun r s' hq=>?_)
 cases r with
 | error e=>exact I.afterX hx hq
 | ok fl=>
   cases fl with
   | ret u=>exact I.after hq
   | next=>exact False.elim hq
   | brk=>exact False.elim hq
   | cont=>exact False.elim hq
noncomputable def To (sp:Sp) (dvs:List V) (W:XW) (t:TA):TE:=fun σ H Q=>t σ H fun vs H1=>sp (vs++dvs) H1 Q (W σ)
theorem abr {σ:St} {H:Hp} {Q:VK} {sp:Sp} {W:XW} {t:TA} (h:t σ H fun vs H1=>sp vs H1 Q (W σ)):To sp [] W t σ H Q:=by
 unfold To
 simpa using h
theorem Ye (F:FnOk X.prog X.w X.K X.mg X.base (CX1 X.prog X.w) k f fd ps sp) (hr:Room k X.A) (hg:Gl X x) (hm:X.mg x=some (.ref f)) (hk:PySem.W.keepIn X.K (.ref f)=true) (hb:aZ X.K fd ps ds) (hd:Vals dvs ds) (hx:Thr X W)
  (ha:PA X (e::es) t) (hdb:(x == ("__debug__":Str))=false:=by decide) (he:starEach (e::es) X.env=(false,eval e X.env)::starEach es X.env:=by rfl) (hpl:(backTo pos (starEach es X.env)).any (·.1)=false:=by rfl):
  PE X (.Call (.Name x p) (e::es) [] pos) (To sp dvs W t):=by
 intro pins s σ H Q I h
 refine wpAny_Call_Name_kw (u0 I hg hm ?_ hdb)
 refine PySem.W.callWith_K (h₀:=X.base) I.ok.mod.kin hk (thn (ha pos pins s σ H _ I h) fun us s1 ⟨vs,H1,I1,r,q⟩=>⟨I1.kIn,?_⟩) he hpl
 exact TX F hr hb hd hx I1 r q
noncomputable def ZJ (C:Addr) (m:Str) (sp:Sp) (dvs:List V) (W:XW) (ta:TE) (t:TA):TE:=fun σ H Q=>ta σ H fun x H1=>∃ a dx fs,x= .ref a∧H1 a=some (.ins C dx fs)∧fs.lookup m=none∧
 t σ H1 fun vs H2=>sp (x::(vs++dvs)) H2 Q (W σ)
theorem hU {pl:Sem Bool} (he:PE X o ta) (c:Cls X.K C) (hm:Meth X.K C m f) (F:FnOk X.prog X.w X.K X.mg X.base (CX1 X.prog X.w) k f fd ps sp) (hr:Room k X.A) (hb:aZ X.K fd ps ds) (hd:Vals dvs ds) (hx:Thr X W) (ha:PA X (e::es) t)
  (hst:starEach (e::es) X.env=(false,eval e X.env)::starEach es X.env:=by rfl) (hpl:(backTo pos (starEach es X.env)).any (·.1)=false:=by rfl)
  (ht:eval (.Call (.Attribute o m apos) (e::es) [] pos) X.env=(do
   let ov ← eval o X.env
   standAt apos.atName
   let (f,first) ← holding [ov] (getMethod ov m pl)
   callWith pos f first (backTo pos (starEach (e::es) X.env)) (backToKw pos (keywordEach [] X.env))):=by rfl):
  PE X (.Call (.Attribute o m apos) (e::es) [] pos) (ZJ C m sp dvs W ta t):=by
 intro pins s σ H Q I h
 refine PySem.W.methodCall_KW (pl:=pl) (thn (he pins s σ H _ I h) fun u s1 ⟨x,H1,I1,rx,a,dx,fs,ex,ea,l,q⟩=>?_) ht
 subst ex
 obtain rfl:u=Value.ref a:=rx
 refine vj I1 ea c hm l ?_
 refine PySem.W.callWith_K (first:=[.ref a]) (h₀:=X.base) I.ok.mod.kin hm.kp (thn (ha pos pins s1 σ H1 _ I1 q) fun us s2 ⟨vs,H2,I2,r,q2⟩=>⟨I2.kIn,?_⟩) hst hpl
 exact TX (us:= .ref a::us) (vs:= .ref a::vs) F hr hb hd hx I2 (.cons rfl r) q2
end
structure XCls (h:Heap) (C:Addr) (bmB:List Value) (newId:String):Prop where
 obj:∃ bm N nm q bs hdct sn sub ab col dd k0 k1 k2 k3 k5 mN,h.get? C=some (excClassObj nm q C N bs bm hdct sn sub ab col dd k0 k1 k2 k3 k5 newId)∧h.Ns N mN∧mN "__init__"=none∧OwnTail h bmB bm
theorem aaO {K:PySem.W.Frag} {h:Heap} {C:Addr} {bmB:List Value} {newId:String} (X:K.In h) (q:PySem.W.excIn K C bmB newId=true):XCls h C bmB newId:=by
 refine ⟨?_⟩
 unfold PySem.W.excIn at q
 split at q
 next dd cd sl ho=>
  split at q
  next C' bm k0 k1 k2 k3 n k5 hm hs=>
   simp only [Bool.and_eq_true,beq_iff_eq,Bool.not_eq_true'] at q
   obtain ⟨⟨⟨⟨⟨e1,e2⟩,hdel⟩,ht⟩,hok⟩,hni⟩:=q
   subst e1 e2
   cases cd with
   | mk nm bs mro ns qn hd sn sub ab col del=>
   have hm:mro=_:=hm
   have hdel:del=false:=hdel
   subst hm hdel
   have hsl:sl=#[k0,k1,k2,k3,some (.builtin n),k5]:=by rw [← hs]
   subst hsl
   exact ⟨bm,ns,nm,qn,bs,hd,sn,sub,ab,col,dd,k0,k1,k2,k3,k5,_,X _ _ ho,.of_isNs (PySem.W.isNs_of_in X hok),PySem.W.nsMap_none_of_in X hok hni,PySem.W.tail_of_in X ht⟩
  next=>cases q
 next=>cases q
section
variable {X:Cx} {W:XW} {C:Addr} {x:Str} {np cpos pos:Pos} {e:Expr} {es:List Expr} {t:TA} {B newId initId:String} {bmB:List Value}
noncomputable def ZI (C:Addr) (W:XW) (t:TA):TS:=fun _ σ H=>t σ H fun vs H1=>vs.length≤sizeLine∧W σ (.ref C) none H1
theorem abX {pins:List (Addr×Obj)} {σ:St} {H:Hp} {s:Shared} {h':Heap} {a:Addr} {vs:List Value} (I:Inv X pins σ H s) (m:Heap.MadeExcOf s.heap h' a (.ref C) vs):
  Inv X pins σ H {s with heap:=h'}∧Fly X pins H a (.ref C) none none h':=by
 obtain ⟨tt,q1,q2,q3⟩:=m.there
 exact ⟨I.mvN (ch:=[]) ⟨fun b o _ _ e=>m.keeps b o e,fun b o _ _ e=>⟨o.slots,m.keeps b o e⟩⟩ fun b z=>absurd z (by simp),⟨⟨_,_,q1,rfl,rfl,rfl,by simp,by simp⟩,I.fpN m.new (I.hok.none_ m.new),fun t fl z=>by cases z⟩⟩
theorem jT (FB:ExcBaseFacts B newId initId bmB) (q:PySem.W.excIn X.K C bmB newId=true) (hx:Thr X W) (hc:X.calm=true) (hg:Gl X x) (hm:X.mg x=some (.ref C)) (ha:PA X (e::es) t)
  (hdb:(x == ("__debug__":Str))=false:=by decide) (he:starEach (e::es) X.env=(false,eval e X.env)::starEach es X.env:=by rfl) (hpl:(backTo cpos (starEach es X.env)).any (·.1)=false:=by rfl):
  PS X (.Raise (some (.Call (.Name x np) (e::es) [] cpos)) none pos) (ZI C W t):=by
 intro pins s σ H D I h
 obtain ⟨tl,N,nm,qn,bs,hdct,sn,sub,ab,col,dd,k0,k1,k2,k3,k5,mN,hC,hN,hni,T⟩:=(aaO I.ok.mod.kin q).obj
 refine wpAny_Raise_call_subT (C:=C) (nm:=nm) (q:=qn) (N:=N) (bs:=bs) (bm:=tl) (hdct:=hdct) (sn:=sn) (sub:=sub) (ab:=ab) (col:=col) (dd:=dd) (k0:=k0) (k1:=k1) (k2:=k2) (k3:=k3) (k5:=k5)
  FB (mN:=mN) (T.hasType FB.hasBase) (I.ok.hd hc) (by rw [he];show (false||(backTo cpos (starEach es X.env)).any (·.1))=false;rw [hpl];rfl) hni (u0 I hg hm ⟨rfl,?_⟩ hdb)
 have ha':=ha cpos pins s σ H _ I h
 rw [he] at ha' ⊢
 refine Calls.evalArgs_plain (wpAny_mono ha' (fun us s2 ⟨vs,H1,I1,r,z,w⟩=>⟨rfl,?_,I1.bk _ _ hC,hN.keeps I1.bk,T.keeps I1.bk,fun h' a m=>?_⟩) fun _ _ y=>y)
 ·show us.length≤_
  rw [← r.length];exact z
 ·obtain ⟨I2,f2⟩:=abX I1 m
  exact hx _ _ ⟨pins,a,.ref C,none,none,σ,H1,rfl,I2,f2,w⟩
end
structure af7 (K:PySem.W.Frag) (G:Addr):Prop where
 ty:PySem.W.typeIn K (.ref G)=some (.type "type")
 cls:PySem.W.isClsIn K G=true
 base:PySem.W.mroIn K G (.type "BaseException")=some true
section
variable {X:Cx} {pins:List (Addr×Obj)} {σ:St} {H:Hp} {s:Shared}
theorem Inv.track {x:Addr} {o:HO} (I:Inv X pins σ H s) (f:FpN X pins H x) (new:gI X.prog X.w (upd H x o) s.heap x o):Inv X pins σ (upd H x o) s:=by
 obtain ⟨f0,f1,f2,f3,f4,f5⟩:=f
 have ne:∀ b u,H b=some u→b≠x:=fun b u e z=>by rw [z,f0] at e;cases e
 have old:∀ b u,H b=some u→upd H x o b=some u:=fun b u e=>by rw [aB (ne b u e)];exact e
 have U:=I.base
 refine ⟨I.ok,I.os,I.bare,⟨U.keep,U.slot,fun b ob e n hx=>?_,U.there,fun b xs e=>old b _ (U.tups b xs e),fun b ob u e=>old b _ (U.frzs b ob u e),fun b ps e=>?_⟩,I.loc,I.cell,?_,fun y c e=>?_,fun p hp=>?_,fun b ob e=>?_,I.len⟩
 ·rw [aB (fun z=>?_)]
  ·exact U.free b ob e n hx
  ·subst z
   rcases f3 with y | y
   ·exact hx y
   ·rw [e] at y;cases y
 ·obtain ⟨m,q⟩:=U.tbls b ps e
  exact ⟨m,old b _ q⟩
 ·rw [aB (Ne.symm f1)];exact I.free
 ·rw [aB (f4 y c e)];exact I.freeC y c e
 ·obtain ⟨e,n,r⟩:=I.pin p hp
  exact ⟨e,by rw [aB (f5 p hp)];exact n,r⟩
 ·by_cases z:b=x
  ·subst z
   rw [av] at e
   cases e
   exact new
  ·rw [aB z] at e
   exact (I.hok b ob e).stay (fun _ _ _ q=>q) (fun c q=>old c _ q) fun c xs q=>old c _ q
end
noncomputable abbrev Cx.pin (X:Cx) (pins:List (Addr×Obj)):Cx:={X with pn:=X.pn++pins}
structure XIsi (K:PySem.W.Frag) (D:Addr):Prop where
 cls:PySem.W.isClsIn K D=true
 ga:PySem.W.findIn K (.ref D) "__getattribute__"=some (some (.builtin "BaseException.__getattribute__"))
 gr:PySem.W.findIn K (.ref D) "__getattr__"=some none
 ha:PySem.W.findIn K (.ref D) "__class__"=some (some (.builtin "object.__class__"))
 hn:PySem.W.specialIn K (.builtin "object.__class__") "__get__"=some (some (.builtin "getset_descriptor.__get__"))
 tk:PySem.W.takesIn K (.builtin "object.__class__")=some true
 hm:PySem.W.mroIn K D (.type "object")=some true
 base:PySem.W.mroIn K D (.type "BaseException")=some true
noncomputable def dV:V→Value
 | .ref a=> .ref a
 | .ty n=> .type n
 | _=> .none
section
variable {σ:St} {H:Hp} {Q:VK} {D:Ends} {W:XW} {t:TA}
theorem abh {C:Addr} (h:t σ H fun vs H1=>vs.length≤sizeLine∧W σ (.ref C) none H1):ZI C W t D σ H:=h
end
theorem qM {X:Cx} {K:PySem.W.Frag} {es:List Expr} {k:Nat} {t:TGs} {n:Nat} {pos:Pos} (h:X.K=K) (hc:X.calm=true) (ht:PGs X es t)
  (hn:(assignEach es X.env).length=n:=by rfl) (hst:(assignEach es X.env).findIdx? (·.1)=none:=by rfl):PG X (.Tuple es k pos) (gTup K n t):=by subst h;exact IA hc ht hn hst
theorem IB {α β:Type} {F:α→β→Prop}:∀ {l:List α} {m:List β},l.length=m.length→(∀ (i:Nat) (a:α) (b:β),l[i]? =some a→m[i]? =some b→F a b)→Paired F l m
 | [],[],_,_=> .nil
 | a::l,b::m,hl,h=> .cons (h 0 a b rfl rfl) (IB (by simpa using hl) fun i x y hx hy=>h (i + 1) x y (by simpa using hx) (by simpa using hy))
 | [],_::_,hl,_=>by simp at hl
 | _::_,[],hl,_=>by simp at hl
section
variable {σ:St} {H:Hp} {Q:VK} {D:Ends} {te ty tv td:TE} {x y v:V}
noncomputable def afo (y:V) (Q:VK) (x:V) (H:Hp):Prop:=∃ a o,x= .ref a∧DGet H a y o∧Q (.bl o.isSome) H
theorem afQ (h:ty σ H fun y H1=>td σ H1 (afo y Q)):tDIn ty td σ H Q:=h
theorem ZO {p:Addr} {kvs:List (Key×V)} {z:Str} (e:H p=some (.dK kvs)) (h:Q (.bl (valV kvs (Sum.inr z)).isSome) H):afo (.str z) Q (.ref p) H:=⟨p,_,rfl,DGet.k (k:=Sum.inr z) e,h⟩
noncomputable def aaI (y:V) (Q:VK) (x:V) (H:Hp):Prop:=∃ a o,x= .ref a∧DGet H a y o∧Q (.bl (!o.isSome)) H
theorem adK (h:ty σ H fun y H1=>td σ H1 (aaI y Q)):Tn ty td σ H Q:=h
theorem abq {p:Addr} {kvs:List (Key×V)} {z:Str} (e:H p=some (.dK kvs)) (h:Q (.bl (!(valV kvs (Sum.inr z)).isSome)) H):aaI (.str z) Q (.ref p) H:=⟨p,_,rfl,DGet.k (k:=Sum.inr z) e,h⟩
theorem ud {l b:Addr} {xs zs:List V} (e:H l=some (.lst xs)) (e':H b=some (.lst zs)) (hz:xs.length + zs.length≤sizeLine) (h:∀ p H2,H p=none→Same H H2→H2 p=some (.lst (xs++zs))→Q (.ref p) H2):rCat (.ref l) (.ref b) H Q:=⟨l,b,xs,zs,rfl,rfl,e,e',hz,jl h⟩
end
open AutoSeq1 (wpAny_loadPart')
section
variable {prog:Program} {w:World} {A:Around} {E:Value→Shared→Prop} {s:Shared}
theorem uM {it t:Addr} {i:Nat} {items:Array Value} {x:Value} {Q:Value→Shared→Prop} (hit:s.heap.IsTupleIter it t i) (ht:s.heap.IsTuple t items) (hx:items[i]? =some x)
  (hQ:∀ h',h'.IsTupleIter it t (i + 1)→Heap.SameBut it s.heap h'→Q x {s with heap:=h'}):
  wpAny (model prog w) A (Builtin.SmallTypes.nextOf (.ref it)) Q E s:=by
 obtain ⟨o,ho,hc,hd⟩:=id hit
 obtain ⟨ol,hol,_,nl,hdl⟩:=ht
 unfold Builtin.SmallTypes.nextOf
 refine wpAny_bind (wpAny_callSpecial?_slot (name:=Str.ofString "__next__") hit.typeIs F.slot_tuple_iterator_next
  (wpAny_call_entry F.slot_tuple_iterator_next hit.typeIs F.entry_tuple_iterator_next ?_ (F.args_tuple_iterator_next_1 _)))
 show wpAny _ _ (field (.ref it) 0 >>=_) _ _ s
 refine wpAny_bind (wpAny_field ho hd (x:= .ref t) rfl ?_)
 show wpAny _ _ (if (Value.ref t == Value.none)=true then _ else _) _ _ s
 rw [if_neg (show ¬ ((Value.ref t == Value.none)=true) from Bool.false_ne_true)]
 show wpAny _ _ (field (.ref it) 1 >>=_) _ _ s
 refine wpAny_bind (wpAny_field ho hd (x:= .int i 0) rfl ?_)
 show wpAny _ _ (seqItems? (.ref t) >>=_) _ _ s
 refine wpAny_bind (wpAny_seqItems hol hdl ?_)
 simp only [Int.toNat_natCast,hx]
 refine wpAny_bind (wpAny_setField ho hd (by simp) (wpAny_pure ⟨x,rfl,wpAny_pure (hQ _ ?_ (Heap.SameBut.update ..))⟩))
 exact ⟨_,Heap.get?_update_self _ ho (Obj.isFreed_of_fields (Obj.data_mapFields hd _)),(Obj.cls_mapFields ..).trans hc,by
  rw [Obj.data_mapFields hd];simp [rawInt]⟩
theorem xK {it t:Addr} {i:Nat} {items:Array Value} {Q:Value→Shared→Prop} (hh:A.handled=none) (hit:s.heap.IsTupleIter it t i) (ht:s.heap.IsTuple t items) (hx:items[i]? =none)
  (hE:∀ h' e,Heap.ExtBut it s.heap h'→(∃ o,h'.get? e=some o∧o.cls= .type "StopIteration")→E (.ref e) {s with heap:=h'}):
  wpAny (model prog w) A (Builtin.SmallTypes.nextOf (.ref it)) Q E s:=by
 obtain ⟨o,ho,hc,hd⟩:=id hit
 obtain ⟨ol,hol,_,nl,hdl⟩:=ht
 unfold Builtin.SmallTypes.nextOf
 refine wpAny_bind (wpAny_callSpecial?_slot (name:=Str.ofString "__next__") hit.typeIs F.slot_tuple_iterator_next
  (wpAny_call_entry F.slot_tuple_iterator_next hit.typeIs F.entry_tuple_iterator_next ?_ (F.args_tuple_iterator_next_1 _)))
 show wpAny _ _ (field (.ref it) 0 >>=_) _ _ s
 refine wpAny_bind (wpAny_field ho hd (x:= .ref t) rfl ?_)
 show wpAny _ _ (if (Value.ref t == Value.none)=true then _ else _) _ _ s
 rw [if_neg (show ¬ ((Value.ref t == Value.none)=true) from Bool.false_ne_true)]
 show wpAny _ _ (field (.ref it) 1 >>=_) _ _ s
 refine wpAny_bind (wpAny_field ho hd (x:= .int i 0) rfl ?_)
 show wpAny _ _ (seqItems? (.ref t) >>=_) _ _ s
 refine wpAny_bind (wpAny_seqItems hol hdl ?_)
 simp only [Int.toNat_natCast,hx]
 refine wpAny_bind (wpAny_rule (wpAny_bind (wpAny_setField ho hd (by simp) ?_)))
 show wpAny _ _ (newExc (.type "StopIteration") [] >>=_) _ _ _
 refine wpAny_bind ?_
 simp only [newExc,newTuple]
 refine wpAny_bind (wpAny_newObj_type ?_ (by size_fits))
 refine wpAny_bind (m:=firstArgMember _ _) (wpAny_of_eq (a:=Value.none) (by first | rfl | (simp only [firstArgMember];rfl)) ?_)
 refine wpAny_newObj_type ?_ (by size_fits)
 simp only [raiseNew]
 refine wpAny_bind (wpAny_handled ?_)
 first | rw [show A.in1.handled=none from hh] | rw [hh]
 refine wpAny_bind (wpAny_pure (wpAny_throw ?_))
 exact hE _ _ (((Heap.SameBut.update ..).extBut.push _).push _) ⟨_,Heap.get?_push_size _ rfl,rfl⟩
end
theorem Draws.tuple {prog:Program} {w:World} {A:Around} (hh:A.handled=none) (it l:Addr) (hne:l≠it) (items:Array Value):
  Draws prog w A it [it,l] items.size (fun i v=>items[i]? =some v) (fun i h=>h.IsTupleIter it l i∧h.IsTuple l items) where
 live:=fun _ _ st=>let ⟨o,ho,_⟩:=st.1;⟨o,ho⟩
 frame:=fun _ _ _ st hk=>⟨let ⟨o,ho,r⟩:=st.1;⟨o,hk it (by simp) o ho,r⟩,let ⟨o,ho,r⟩:=st.2;⟨o,hk l (by simp) o ho,r⟩⟩
 item:=fun i s Q E hi st hQ=>by
  refine uM st.1 st.2 (x:=items[i]) (by simp [hi]) fun h' hit' hs'=>?_
  exact hQ _ h' s.toks (by simp [hi]) ⟨hit',st.2.extBut hs'.extBut hne⟩ hs'
 done:=fun s Q E st hE=>xK hh st.1 st.2 (by simp) hE
theorem pR (l:Addr) (items:Array Value) (n:Nat) (dct:Option Addr) (sl:Array (Option Value)):
  Meets (Builtin.«enumerate.__new__» ⟨[.type "enumerate",.ref l],[]⟩) (fun _ R s=>s.heap.get? l=some {cls:= .type "tuple",dict:=dct,data:= .seq items n,slots:=sl}∧
   R (.ok (.ret (.ref (s.heap.push {cls:= .type "tuple_iterator",data:= .fields #[.ref l,.int 0 0]}).objs.size)))
     {s with heap:=(s.heap.push {cls:= .type "tuple_iterator",data:= .fields #[.ref l,.int 0 0]}).push {cls:= .type "enumerate",data:= .fields #[.none,.bool false,.ref s.heap.objs.size,rawInt 0,.none,.none]}}):=
 .of_wp fun prog w A R s h=>by
  obtain ⟨hp,g,d,tk,os⟩:=s;obtain ⟨hl,h⟩:=h
  have hsub:=sub_enumerate
  have hL:Heap.IsTuple (Shared.heap ⟨hp,g,d,tk,os⟩) l items:=⟨_,hl,rfl,n,rfl⟩
  wp_walk using wpAny_loadPart' hl
  refine wpAny_stack_any fun st=>wpAny_pure ?_
  split
  ·rename_i c _ _ _ _ _
   cases (c == Value.type "enumerate")
   ·wp_walk using wpAny_loadPart' hl,wpAny_pyIter_tuple hL
    exact ⟨_,rfl,h⟩
   ·wp_walk using wpAny_loadPart' hl,wpAny_pyIter_tuple hL
    exact ⟨_,rfl,h⟩
  ·wp_walk using wpAny_loadPart' hl,wpAny_pyIter_tuple hL
   exact ⟨_,rfl,h⟩
theorem p4 {prog:Program} {w:World} {A:Around} {E:Value→Shared→Prop} {s:Shared} {l:Addr} {items:Array Value} {Q:Value→Shared→Prop} (hL:s.heap.IsTuple l items)
  (h:∀ h',IsEnum h' (s.heap.objs.size + 1) s.heap.objs.size 0 .none→h'.IsTupleIter s.heap.objs.size l 0→h'.objs.size=s.heap.objs.size + 2→
   (∀ b o,s.heap.get? b=some o→h'.get? b=some o)→Q (.ref (s.heap.objs.size + 1)) {s with heap:=h'}):
  wpAny (model prog w) A (call (.type "enumerate") [.ref l]) Q E s:=by
 obtain ⟨⟨c,dct,dt,sl⟩,hl,hc,n,hd⟩:=hL
 replace hc:c= .type "tuple":=hc
 replace hd:dt= .seq items n:=hd
 subst hc hd
 refine callType_new F.called_enumerate (by decide) (F.typeCall_enumerate_1 _) (F.newCall_enumerate_1 _) (fun obj=>F.args_object_init_2 obj _) F.entry_enumerate_new
  (pR l items n dct sl) ⟨hl,?_⟩
 have hz:(s.heap.push {cls:= .type "tuple_iterator",data:= .fields #[.ref l,.int 0 0]}).objs.size=s.heap.objs.size + 1:=Heap.size_push ..
 show _∧_
 rw [hz]
 have he:IsEnum ((s.heap.push {cls:= .type "tuple_iterator",data:= .fields #[.ref l,.int 0 0]}).push
   {cls:= .type "enumerate",data:= .fields #[.none,.bool false,.ref s.heap.objs.size,rawInt 0,.none,.none]}) (s.heap.objs.size + 1) s.heap.objs.size 0 .none:=by
  have:=Heap.get?_push_size (s.heap.push {cls:= .type "tuple_iterator",data:= .fields #[.ref l,.int 0 0]})
   (o:={cls:= .type "enumerate",data:= .fields #[.none,.bool false,.ref s.heap.objs.size,rawInt 0,.none,.none]}) rfl
  rw [hz] at this;exact this
 refine ⟨⟨_,he,rfl⟩,h _ he ⟨_,Heap.get?_push_of_some _ (Heap.get?_push_size _ rfl),rfl,rfl⟩ (by rw [Heap.size_push,hz]) fun b o x=>Heap.get?_push_of_some _ (Heap.get?_push_of_some _ x)⟩
noncomputable def Itet (K:PySem.W.Frag) (a:Addr):It:=
 ⟨fun i H=>∃ xs x,SqT K H a xs∧xs[i]? =some x,fun i H x H'=>∃ p v,H p=none∧x= .ref p∧H'=upd H p (.tup [.int i,v])∧∀ xs,SqT K H a xs→xs[i]? =some v,fun i H=>∃ xs,SqT K H a xs∧xs.length=i⟩
theorem Po {P:Program} {w:World} {K:PySem.W.Frag} {elts:List Expr} {k:Nat} {pos:Pos} (a e it:Addr) (hei:e≠it):
  Turn P w K (.Tuple elts k pos) (Itet K a) [e,it] e (fun i h=>(∃ old,IsEnum h e it i old)∧h.IsTupleIter it a i) where
 mem:=by simp
 obj:=fun i h st b hb=>by
  obtain ⟨⟨old,he⟩,⟨o,ho,hc,hd⟩⟩:=st
  rcases List.mem_cons.mp hb with z | z
  ·subst z;exact ⟨_,he,fun v z=>by cases z⟩
  ·rw [List.mem_singleton.mp z];exact ⟨o,ho,fun v z=>by rw [hd] at z;cases z⟩
 keep:=fun i h h' st k=>⟨let ⟨old,he⟩:=st.1;⟨old,k e (by simp) _ he⟩,(let ⟨o,ho,r⟩:=st.2;⟨o,k it (by simp) o ho,r⟩)⟩
 item:=by
  intro X hP hw hK hc i pins s σ H E I hf st hg
  subst hP hw hK
  obtain ⟨xs,x,hq,hx⟩:=hg
  obtain ⟨its,rv,p,hz⟩:=I.tuple hq
  have pT:s.heap.IsTuple a its.toArray:=p
  obtain ⟨⟨old,he⟩,hl⟩:=st
  have hai:a≠it:=fun z=>by
   obtain ⟨o,ho,hcl,_⟩:=hl
   obtain ⟨o',ho',hcl',_⟩:=pT
   rw [z,ho] at ho';cases ho';rw [hcl] at hcl';exact absurd hcl' (by decide)
  have hae:a≠e:=fun z=>by
   obtain ⟨o',ho',hcl',_⟩:=pT
   rw [z,he] at ho';cases ho';exact absurd (show Value.type "enumerate"= .type "tuple" from hcl') (by decide)
  have W:=WalksT.enumerateD (prog:=X.prog) (w:=X.w) (A:=X.A) (Draws.tuple (A:=X.A.in1) (I.ok.hd hc) it a hai its.toArray) e hei (by simp [hei,Ne.symm hae]) (by simp)
  have hi:i < its.toArray.size:=by have:=rv.length;have:=(List.getElem?_eq_some_iff.mp hx).1;simp;omega
  refine W.item i s _ _ hi ⟨⟨old,he⟩,hl,pT⟩ fun T vals h' tk hPt hT htup hmid hk=>⟨_,rfl,W.go elts k pos i T _ _ _ hmid fun h'' hst hk2=>?_⟩
  obtain ⟨t,x',hx',rfl⟩:=hPt
  have hap:=W.apart i T h' hmid
  have ru:RelV x x':=by
   obtain ⟨u,hu,r⟩:=rv.get hx
   have hx'':its[i]? =some x':=by simpa using hx'
   rw [hu] at hx'';cases hx'';exact r
  have kk:∀ b u,b∉[e,it]→s.heap.get? b=some u→h''.get? b=some u:=fun b u hb q=>hk2 b u hb (hk b u hb q)
  have fr:H T=none:=I.hok.fresh hT
  refine ⟨.ref T,upd H T (.tup [.int i,x]),I.laidCh (t':=tk) kk hT ⟨HZ,[.int i t,x'],.cons ⟨t,rfl⟩ (.cons ru .nil),?_⟩ hf,rfl,⟨T,x,fr,rfl,rfl,fun ys hy=>by rw [I.tuple_inj hy hq];exact hx⟩,⟨hst.1,hst.2.1⟩,fun b hb=>?_⟩
  ·obtain ⟨o,ho,r⟩:=htup
   exact ⟨o,hk2 T o hap ho,r⟩
  ·have fb:=(hf b hb)
   rw [aB (fun z=>?_)]
   ·exact fb.1
   ·have lt:b < s.heap.objs.size:=by
     rcases List.mem_cons.mp hb with z | z
     ·subst z;exact Heap.lt_size he
     ·rw [List.mem_singleton.mp z];obtain ⟨o,ho,_⟩:=hl;exact Heap.lt_size ho
    rw [z] at lt
    exact absurd (Nat.lt_of_lt_of_le lt hT) (Nat.lt_irrefl _)
 done:=by
  intro X hP hw hK hc i pins s σ H E I hf st hg
  subst hP hw hK
  obtain ⟨xs,hq,hx⟩:=hg
  obtain ⟨its,rv,p,hz⟩:=I.tuple hq
  have pT:s.heap.IsTuple a its.toArray:=p
  obtain ⟨⟨old,he⟩,hl⟩:=st
  have hai:a≠it:=fun z=>by
   obtain ⟨o,ho,hcl,_⟩:=hl
   obtain ⟨o',ho',hcl',_⟩:=pT
   rw [z,ho] at ho';cases ho';rw [hcl] at hcl';exact absurd hcl' (by decide)
  have hae:a≠e:=fun z=>by
   obtain ⟨o',ho',hcl',_⟩:=pT
   rw [z,he] at ho';cases ho';exact absurd (show Value.type "enumerate"= .type "tuple" from hcl') (by decide)
  have W:=WalksT.enumerateD (prog:=X.prog) (w:=X.w) (A:=X.A) (Draws.tuple (A:=X.A.in1) (I.ok.hd hc) it a hai its.toArray) e hei (by simp [hei,Ne.symm hae]) (by simp)
  have hn:its.toArray.size=i:=by have:=rv.length;simp;omega
  subst hn
  exact W.done s _ _ ⟨⟨old,he⟩,hl,pT⟩ fun h' tk hk=>⟨rfl,I.turnedCh hk hf⟩
 self:=fun _ _ _ _ _ st h=>let ⟨_,he⟩:=st.1;wpAny_pyIter_enum he h
noncomputable def aaq (K:PySem.W.Frag) (tl:TE):TI:=fun σ H R=>tl σ H fun x H1=>∃ a,x= .ref a∧(((∃ xs,SqL K H1 a xs)∧R (Ite K a) H1)∨((∃ xs,SqT K H1 a xs)∧R (Itet K a) H1))
section
variable {X:Cx} {K:PySem.W.Frag}
theorem r9 {l:Expr} {tl:TE} {elts:List Expr} {k:Nat} {tpos p pos:Pos} (h:X.K=K) (hg:Gl X "enumerate") (hm:X.mg "enumerate"=none) (hl:PE X l tl) (hs:starEach [l] X.env=[(false,eval l X.env)]:=by rfl):
  PI X (.Tuple elts k tpos) (.Call (.Name "enumerate" p) [l] [] pos) (aaq K tl):=by
 subst h
 intro pins s σ H R I h
 refine Call_ (nc I hg hm boot_enumerate (PyProof.Rows.callWith_type1 (thn (aa hl ae hs pos pins s σ H (fun vs H1=>match vs with | [x]=>∃ a,x= .ref a∧(((∃ xs,SqL X.K H1 a xs)∧R (Ite X.K a) H1)∨((∃ xs,SqT X.K H1 a xs)∧R (Itet X.K a) H1)) | _=>False) I h) fun us s1 ⟨vs,H1,I1,r1,q1⟩=>?_) hs rfl))
 match vs,r1,q1 with
 | [x],r1,q1=>
 obtain ⟨u,rfl,ru⟩:=r1.one
 obtain ⟨a,rfl,q1⟩:=q1
 cases ru
 have fin:∀ b∈[s1.heap.objs.size + 1,s1.heap.objs.size],FpOk X pins H1 b:=fun b hb=>by
  have hb':s1.heap.objs.size≤b:=(List.mem_cons.mp hb).elim (fun z=>by rw [z];exact Nat.le_succ _) (fun z=>by rw [List.mem_singleton.mp z];exact Nat.le_refl _)
  exact I1.fpOk hb' (I1.hok.fresh hb')
 rcases q1 with ⟨⟨xs,hq⟩,q⟩ | ⟨⟨xs,hq⟩,q⟩
 ·obtain ⟨its,rv,pl,hz⟩:=I1.list hq
  refine call_enumerate_list pl.isList fun h' he hit hsz hk=>wpAny_pyIter_enum he ?_
  exact ⟨s1.heap.objs.size + 1,[s1.heap.objs.size + 1,s1.heap.objs.size],_,_,H1,rfl,I1.kept (t':=s1.toks) hk,EB a _ _ (Nat.ne_of_gt (Nat.lt_succ_self _)),⟨⟨_,he⟩,hit⟩,fin,q⟩
 ·obtain ⟨its,rv,pl,hz⟩:=I1.tuple hq
  refine p4 (show s1.heap.IsTuple a its.toArray from pl) fun h' he hit hsz hk=>wpAny_pyIter_enum he ?_
  exact ⟨s1.heap.objs.size + 1,[s1.heap.objs.size + 1,s1.heap.objs.size],_,_,H1,rfl,I1.kept (t':=s1.toks) hk,Po a _ _ (Nat.ne_of_gt (Nat.lt_succ_self _)),⟨⟨_,he⟩,hit⟩,fin,q⟩
end
theorem R5 {K:PySem.W.Frag} {n:Nat} {fx:List Nat} {g:TG} {tc:TT} {te:TE} {σ:St} {H1:Hp} {D:Addr} {Q:Hp→Prop} {a:Addr} {xs:List V} (Pv:Nat→List V→Hp→Prop) (h0:Pv 0 [] (upd H1 D (.lst []))) (hl:∀ i ys H,i≤xs.length→Pv i ys H→SqL K H a xs)
  (hs:∀ i x ys H p H',xs[i]? =some x→Pv i ys H→H p=none→Same H H'→H' p=some (.tup [.int i,x])→g (.ref p) (df n fx σ) H' fun σ4 H4=>tc σ4 H4 fun b H5=>if b=true then te σ4 H5 fun v H6=>H6 D=some (.lst ys)∧ys.length < sizeLine∧Pv (i + 1) (ys++[v]) (upd H6 D (.lst (ys++[v]))) else Pv (i + 1) ys H5)
  (hd:∀ ys H,Pv xs.length ys H→Q H):
  ∃ W:Nat→Nat→List V→Hp→Prop,(∃ m,W 0 m [] (upd H1 D (.lst [])))∧∀ i m ys H2,W i m ys H2→((Ite K a).stop i H2∧Q H2)∨
    ((Ite K a).go i H2∧∃ N:List V→Hp→Prop,(∀ ys' H',N ys' H'→∃ m',m' < m∧W (i + 1) m' ys' H')∧∀ x H3,(Ite K a).yld i H2 x H3→g x (df n fx σ) H3 fun σ4 H4=>tc σ4 H4 fun b H5=>
      if b=true then te σ4 H5 fun v H6=>H6 D=some (.lst ys)∧ys.length < sizeLine∧N (ys++[v]) (upd H6 D (.lst (ys++[v]))) else N ys H5):=by
 refine ⟨fun i m ys H=>m=xs.length - i∧i≤xs.length∧Pv i ys H,⟨xs.length,by simp,Nat.zero_le _,h0⟩,?_⟩
 rintro i m ys H ⟨rfl,hi,p⟩
 have q:=hl i ys H hi p
 by_cases hlt:i < xs.length
 ·refine .inr ⟨⟨xs,xs[i],q,by simp [hlt]⟩,Pv (i + 1),fun ys' H' p'=>⟨xs.length - (i + 1),by omega,rfl,hlt,p'⟩,fun x H' y=>?_⟩
  obtain ⟨r,v,f,e1,e2,y⟩:=y
  subst e1 e2
  exact hs i v ys H r _ (y xs q) p f (bf f) av
 ·have e:i=xs.length:=by omega
  subst e
  exact .inl ⟨⟨xs,q,rfl⟩,hd ys H p⟩
theorem vL {K:PySem.W.Frag} {n:Nat} {fx:List Nat} {g:TG} {tc:TT} {te:TE} {σ:St} {H1:Hp} {D:Addr} {Q:Hp→Prop} {a:Addr} {xs:List V} (Pv:Nat→List V→Hp→Prop) (h0:Pv 0 [] (upd H1 D (.lst []))) (hl:∀ i ys H,i≤xs.length→Pv i ys H→SqT K H a xs)
  (hs:∀ i x ys H p H',xs[i]? =some x→Pv i ys H→H p=none→Same H H'→H' p=some (.tup [.int i,x])→g (.ref p) (df n fx σ) H' fun σ4 H4=>tc σ4 H4 fun b H5=>if b=true then te σ4 H5 fun v H6=>H6 D=some (.lst ys)∧ys.length < sizeLine∧Pv (i + 1) (ys++[v]) (upd H6 D (.lst (ys++[v]))) else Pv (i + 1) ys H5)
  (hd:∀ ys H,Pv xs.length ys H→Q H):
  ∃ W:Nat→Nat→List V→Hp→Prop,(∃ m,W 0 m [] (upd H1 D (.lst [])))∧∀ i m ys H2,W i m ys H2→((Itet K a).stop i H2∧Q H2)∨
    ((Itet K a).go i H2∧∃ N:List V→Hp→Prop,(∀ ys' H',N ys' H'→∃ m',m' < m∧W (i + 1) m' ys' H')∧∀ x H3,(Itet K a).yld i H2 x H3→g x (df n fx σ) H3 fun σ4 H4=>tc σ4 H4 fun b H5=>
      if b=true then te σ4 H5 fun v H6=>H6 D=some (.lst ys)∧ys.length < sizeLine∧N (ys++[v]) (upd H6 D (.lst (ys++[v]))) else N ys H5):=by
 refine ⟨fun i m ys H=>m=xs.length - i∧i≤xs.length∧Pv i ys H,⟨xs.length,by simp,Nat.zero_le _,h0⟩,?_⟩
 rintro i m ys H ⟨rfl,hi,p⟩
 have q:=hl i ys H hi p
 by_cases hlt:i < xs.length
 ·refine .inr ⟨⟨xs,xs[i],q,by simp [hlt]⟩,Pv (i + 1),fun ys' H' p'=>⟨xs.length - (i + 1),by omega,rfl,hlt,p'⟩,fun x H' y=>?_⟩
  obtain ⟨r,v,f,e1,e2,y⟩:=y
  subst e1 e2
  exact hs i v ys H r _ (y xs q) p f (bf f) av
 ·have e:i=xs.length:=by omega
  subst e
  exact .inl ⟨⟨xs,q,rfl⟩,hd ys H p⟩
section
variable {σ:St} {H:Hp} {te:TE} {R:It→Hp→Prop}
theorem dh {K:PySem.W.Frag} (h:te σ H fun x H1=>∃ a,x= .ref a∧(((∃ xs,SqL K H1 a xs)∧R (Ite K a) H1)∨((∃ xs,SqT K H1 a xs)∧R (Itet K a) H1))):aaq K te σ H R:=h
end
namespace ZP
noncomputable abbrev Busy (h:Heap) (z TI TO T:Addr) (fl:Bool):Prop:=h.get? z=some {cls:= .type "zip",data:= .fields #[rawInt T,.bool fl,.bool false,.ref TI,.ref TO]}
section
variable {prog:Program} {w:World} {A:Around} {E:Value→Shared→Prop} {s:Shared}
theorem UP {z TI TO T:Addr} {fl:Bool} {oT:Obj} {Q:Bool→Shared→Prop} (hz:Busy s.heap z TI TO T fl) (hT:s.heap.get? T=some oT) (h:∀ h',Busy h' z TI TO T true→Heap.SameBut z s.heap h'→Q false {s with heap:=h'}):
  wpAny (model prog w) A (Builtin.SmallTypes.ownedTupleIsFree (.ref z)) Q E s:=by
 unfold Builtin.SmallTypes.ownedTupleIsFree
 refine wpAny_bind (wpAny_field hz rfl (x:=rawInt T) rfl ?_)
 show wpAny _ _ (loadIfAlive ((T:Int).toNat) >>=_) _ _ s
 rw [Int.toNat_natCast]
 refine wpAny_bind (PySem.W.kdx_alive hT ?_)
 rw [if_neg (by simp)]
 refine wpAny_bind (wpAny_field hz rfl (x:= .bool fl) rfl ?_)
 cases fl with
 | true=>
   rw [if_neg (by decide)]
   exact wpAny_pure (h s.heap hz ⟨rfl,fun _ _=>rfl⟩)
 | false=>
   rw [if_pos (by decide)]
   refine wpAny_bind (wpAny_setField_rec hz (by show 1 < 5;decide) fun h' e hs=>wpAny_pure (h h' e hs))
theorem UR {z TI TO T i1 i2 l1 l2:Addr} {fl:Bool} {oT:Obj} {i:Nat} {xs ys:Array Value} {x y:Value} {Q:Option Value→Shared→Prop} (ap:ZipApart z TI TO i1 i2 l1 l2) (hz:Busy s.heap z TI TO T fl) (hT:s.heap.get? T=some oT)
  (hI:IsPair s.heap TI (.ref i1) (.ref i2)) (h1:s.heap.IsListIter i1 l1 i) (h2:s.heap.IsListIter i2 l2 i) (hl1:s.heap.IsList l1 xs) (hl2:s.heap.IsList l2 ys) (hx:xs[i]? =some x) (hy:ys[i]? =some y)
  (h:∀ h',Busy h' z TI TO T true→h'.IsListIter i1 l1 (i + 1)→h'.IsListIter i2 l2 (i + 1)→(∀ b o,b≠z→b≠i1→b≠i2→s.heap.get? b=some o→h'.get? b=some o)→h'.get? s.heap.objs.size=some {cls:= .type "tuple",data:= .seq #[x,y]}→Q (some (.ref s.heap.objs.size)) {s with heap:=h'}):
  wpAny (model prog w) A (pyNext (.ref z)) Q E s:=by
 have ty:s.TypeIs (.ref z) "zip":=⟨_,hz,rfl⟩
 unfold pyNext
 refine wpAny_bind (wpAny_attempt (wpAny_callSpecial?_slot (name:=Str.ofString "__next__") ty F.slot_zip_next (wpAny_call_entry F.slot_zip_next ty F.entry_zip_next ?_ (F.args_zip_next_1 _))))
 unfold Builtin.«zip.__next__»
 refine wpAny_bind (wpAny_of_eq (a:=(Value.ref z,[])) rfl ?_)
 dsimp only
 refine wpAny_bind (wpAny_field hz rfl (x:= .bool false) rfl ?_)
 refine wpAny_bind (wpAny_field hz rfl (x:= .ref TI) rfl ?_)
 refine wpAny_bind (wpAny_seqItems hI rfl ?_)
 dsimp only
 rw [if_neg (show ¬ (#[Value.ref i1,Value.ref i2].isEmpty=true) from Bool.false_ne_true)]
 refine wpAny_bind (UP hz hT fun h' hz' hs=>?_)
 rw [if_neg (by decide)]
 rw [← Array.forIn_toList]
 simp only [List.forIn_cons,List.forIn_nil]
 have keep:∀ {b:Addr} {o:Obj},b≠z→s.heap.get? b=some o→h'.get? b=some o:=fun nb e=>(hs.2 _ nb).trans e
 have h1':h'.IsListIter i1 l1 i:=h1.at fun o e=>keep ap.i1z e
 have h2':h'.IsListIter i2 l2 i:=h2.at fun o e=>keep ap.i2z e
 have hl1':h'.IsList l1 xs:=let ⟨o,e,c⟩:=hl1;⟨o,keep ap.l1z e,c⟩
 have hl2':h'.IsList l2 ys:=let ⟨o,e,c⟩:=hl2;⟨o,keep ap.l2z e,c⟩
 refine wpAny_bind (wpAny_bind (wpAny_bind (wpAny_holding ?_)))
 show wpAny _ _ (Builtin.SmallTypes.nextOf (.ref i1) >>=fun x=>pure (some x)) _ _ _
 refine wpAny_bind (wpAny_nextOf_list_item h1' hl1' hx fun h3 it3 sm3=>wpAny_pure ?_)
 dsimp only
 refine wpAny_pure ?_
 dsimp only
 have keep3:∀ {b:Addr} {o:Obj},b≠i1→h'.get? b=some o→h3.get? b=some o:=fun nb e=>(sm3.2 _ nb).trans e
 refine wpAny_bind (wpAny_bind (wpAny_holding ?_))
 show wpAny _ _ (Builtin.SmallTypes.nextOf (.ref i2) >>=fun x=>pure (some x)) _ _ _
 refine wpAny_bind (wpAny_nextOf_list_item (h2'.at fun o e=>keep3 (Ne.symm ap.i12) e) (let ⟨o,e,c⟩:=hl2';⟨o,keep3 ap.l2i1 e,c⟩) hy fun h4 it4 sm4=>wpAny_pure ?_)
 have keep4:∀ {b:Addr} {o:Obj},b≠i2→h3.get? b=some o→h4.get? b=some o:=fun nb e=>(sm4.2 _ nb).trans e
 dsimp only
 refine wpAny_pure ?_
 dsimp only
 refine wpAny_pure ?_
 dsimp only
 have es:h4.objs.size=s.heap.objs.size:=sm4.1.trans (sm3.1.trans hs.1)
 refine wpAny_bind (wpAny_newTuple (wpAny_pure ⟨_,rfl,wpAny_pure ?_⟩) (by show 2≤sizeLine;rw [sizeLine_eq];decide))
 show Q (some (.ref h4.objs.size)) {s with heap:=h4.push _}
 rw [es]
 refine h _ ?_ ?_ ?_ (fun b o nz n1 n2 e=>Heap.get?_push_of_some _ (keep4 n2 (keep3 n1 (keep nz e)))) ?_
 ·exact Heap.get?_push_of_some _ (keep4 (Ne.symm ap.i2z) (keep3 (Ne.symm ap.i1z) hz'))
 ·exact it3.at fun o e=>Heap.get?_push_of_some _ (keep4 ap.i12 e)
 ·exact it4.at fun o e=>Heap.get?_push_of_some _ e
 ·rw [← es];exact Heap.get?_push_size _ rfl
theorem Yn {z TI TO T i1 i2 l1 l2:Addr} {fl:Bool} {oT:Obj} {i:Nat} {xs:Array Value} {Q:Option Value→Shared→Prop} (hh:A.handled=none) (ap:ZipApart z TI TO i1 i2 l1 l2) (hz:Busy s.heap z TI TO T fl) (hT:s.heap.get? T=some oT)
  (hI:IsPair s.heap TI (.ref i1) (.ref i2)) (h1:s.heap.IsListIter i1 l1 i) (hl1:s.heap.IsList l1 xs) (hx:xs[i]? =none)
  (h:∀ h',(∀ b o,b≠z→b≠i1→s.heap.get? b=some o→h'.get? b=some o)→Q none {s with heap:=h'}):
  wpAny (model prog w) A (pyNext (.ref z)) Q E s:=by
 have ty:s.TypeIs (.ref z) "zip":=⟨_,hz,rfl⟩
 unfold pyNext
 refine wpAny_bind (wpAny_attempt (wpAny_callSpecial?_slot (name:=Str.ofString "__next__") ty F.slot_zip_next (wpAny_call_entry F.slot_zip_next ty F.entry_zip_next ?_ (F.args_zip_next_1 _))))
 unfold Builtin.«zip.__next__»
 refine wpAny_bind (wpAny_of_eq (a:=(Value.ref z,[])) rfl ?_)
 dsimp only
 refine wpAny_bind (wpAny_field hz rfl (x:= .bool false) rfl ?_)
 refine wpAny_bind (wpAny_field hz rfl (x:= .ref TI) rfl ?_)
 refine wpAny_bind (wpAny_seqItems hI rfl ?_)
 dsimp only
 rw [if_neg (show ¬ (#[Value.ref i1,Value.ref i2].isEmpty=true) from Bool.false_ne_true)]
 refine wpAny_bind (UP hz hT fun h' hz' hs=>?_)
 rw [if_neg (by decide)]
 rw [← Array.forIn_toList]
 simp only [List.forIn_cons,List.forIn_nil]
 have keep:∀ {b:Addr} {o:Obj},b≠z→s.heap.get? b=some o→h'.get? b=some o:=fun nb e=>(hs.2 _ nb).trans e
 have h1':h'.IsListIter i1 l1 i:=h1.at fun o e=>keep ap.i1z e
 have hl1':h'.IsList l1 xs:=let ⟨o,e,c⟩:=hl1;⟨o,keep ap.l1z e,c⟩
 refine wpAny_bind (wpAny_bind (wpAny_bind (wpAny_holding ?_)))
 show wpAny _ _ (Builtin.SmallTypes.nextOf (.ref i1) >>=fun x=>pure (some x)) _ _ _
 refine wpAny_bind (wpAny_nextOf_list_end (by first | exact hh | (rw [show A.in1.handled=none from hh])) h1' hl1' hx fun h3 e ex he=>?_)
 refine wpAny_bind (wpAny_isInstance (T:="StopIteration") (b:=true) (s:={s with heap:=h3}) (let ⟨o,a,b⟩:=he;⟨o,a,b⟩) isSubtype_stop ?_)
 exact wpAny_pure (h h3 fun b o nz n1 eb=>ex b o n1 (keep nz eb))
structure ZGot (h:Heap) (lo:Nat) (xs ys:Array Value) (as:List Addr):Prop where
 rise:as.Pairwise (· < ·)
 above:∀ a∈as,lo≤a∧a < h.objs.size
 pairs:∀ (j:Nat) (a:Addr),as[j]? =some a→∃ x y,xs[j]? =some x∧ys[j]? =some y∧h.IsTuple a #[x,y]
structure ZSt (h:Heap) (z TI TO i1 i2 l1 l2:Addr) (lo:Nat) (xs ys:Array Value) (i:Nat) (as:List Addr):Prop where
 zp:(i=0∧IsZip h z TI TO .none)∨∃ T fl,Busy h z TI TO T fl∧as[0]? =some T
 hI:IsPair h TI (.ref i1) (.ref i2)
 hO:∃ a b,IsPair h TO a b
 h1:h.IsListIter i1 l1 i
 h2:h.IsListIter i2 l2 i
 hl1:h.IsList l1 xs
 hl2:h.IsList l2 ys
 len:as.length=i
 got:ZGot h lo xs ys as
structure Und (z TI TO i1 i2 l1 l2 S:Addr) (lo:Nat):Prop where
 ap:ZipApart z TI TO i1 i2 l1 l2
 Sz:S≠z
 STI:S≠TI
 STO:S≠TO
 Si1:S≠i1
 Si2:S≠i2
 Sl1:S≠l1
 Sl2:S≠l2
 z:z < lo
 TO:TO < lo
 i1:i1 < lo
 i2:i2 < lo
 S:S < lo
theorem lH {h:Heap} {a:Addr} {o:Obj} (e:h.get? a=some o):a < h.objs.size:=Heap.lt_size e
theorem ZGot.keep {h h':Heap} {lo:Nat} {xs ys:Array Value} {as:List Addr} (g:ZGot h lo xs ys as) (k:∀ b o,lo≤b→h.get? b=some o→h'.get? b=some o):ZGot h' lo xs ys as:=by
 have k2:∀ a∈as,h'.IsTuple a #[.none,.none]→True:=fun _ _ _=>trivial
 refine ⟨g.rise,fun a ha=>?_,fun j a hj=>?_⟩
 ·obtain ⟨j,hj⟩:=List.mem_iff_getElem?.mp ha
  obtain ⟨x,y,_,_,o,e,_⟩:=g.pairs j a hj
  exact ⟨(g.above a ha).1,lH (k a o (g.above a ha).1 e)⟩
 ·obtain ⟨x,y,hx,hy,o,e,c⟩:=g.pairs j a hj
  exact ⟨x,y,hx,hy,o,k a o (g.above a (List.mem_of_getElem? hj)).1 e,c⟩
theorem ZGot.more {h:Heap} {lo:Nat} {xs ys:Array Value} {as:List Addr} {a:Addr} {x y:Value} (g:ZGot h lo xs ys as) (ha:∀ b∈as,b < a) (hlo:lo≤a) (hx:xs[as.length]? =some x) (hy:ys[as.length]? =some y) (ht:h.IsTuple a #[x,y]):ZGot h lo xs ys (as++[a]):=by
 refine ⟨List.pairwise_append.mpr ⟨g.rise,List.pairwise_singleton _ _,fun b hb c hc=>by rw [List.mem_singleton.mp hc];exact ha b hb⟩,fun b hb=>?_,fun j b hj=>?_⟩
 ·rcases List.mem_append.mp hb with z | z
  ·exact g.above b z
  ·rw [List.mem_singleton.mp z];obtain ⟨o,e,_⟩:=ht;exact ⟨hlo,lH e⟩
 ·by_cases hl:j < as.length
  ·rw [List.getElem?_append_left hl] at hj;exact g.pairs j b hj
  ·rw [List.getElem?_append_right (by omega)] at hj
   have e0:j=as.length:=by
    have:=(List.getElem?_eq_some_iff.mp hj).1
    simp at this;omega
   subst e0
   rw [Nat.sub_self] at hj
   have:a=b:=by simpa using hj
   subst this
   exact ⟨x,y,hx,hy,ht⟩
theorem loop {R:Result→Shared→Prop} {z TI TO i1 i2 l1 l2 S:Addr} {lo:Nat} {xs ys:Array Value} (hh:A.handled=none) (U:Und z TI TO i1 i2 l1 l2 S lo) (hn:xs.size≤sizeLine) (hxy:ys.size=xs.size) (res:Value) {h₁:Heap}
  (hR:∀ h' tk acc c as,(∀ b o,b≠S→b≠z→b≠TO→b≠i1→b≠i2→h₁.get? b=some o→h'.get? b=some o)→h'.get? S=some {cls:= .type "list",data:= .seq acc c}→acc.toList=as.map .ref→as.length=xs.size→ZGot h' lo xs ys as→R (.ok (.ret res)) {s with heap:=h',toks:=tk}):
  ∀ (k i:Nat) (h:Heap) (tk c:Nat) (acc:Array Value) (as:List Addr),xs.size - i=k→i≤xs.size→lo≤h.objs.size→ZSt h z TI TO i1 i2 l1 l2 lo xs ys i as→
    (∀ b o,b≠S→b≠z→b≠TO→b≠i1→b≠i2→h₁.get? b=some o→h.get? b=some o)→h.get? S=some {cls:= .type "list",data:= .seq acc c}→acc.toList=as.map .ref→
    codeAny (model prog w) A (Code.builtin "list.extend.loop" {pos:=[.ref S,.ref z,res]}) R {s with heap:=h,toks:=tk}:=by
 have ap:=U.ap
 intro k
 induction k with
 | zero=>
   intro i h tk c acc as hk hi hlo st kh hS hacc
   have hin:i=xs.size:=by omega
   subst hin
   refine codeAny_builtin F.entry_extend_loop ?_
   rw [Around.under_plainId F.plain_extend_loop]
   show wpAny _ A.in1 (pyNext (.ref z) >>=_) _ _ _
   refine wpAny_bind ?_
   have fin:∀ h' tk',(∀ b o,b≠z→b≠TO→b≠i1→b≠i2→h.get? b=some o→h'.get? b=some o)→R (.ok (.ret res)) {s with heap:=h',toks:=tk'}:=fun h' tk' kk=>
    hR h' tk' acc c as (fun b o n1 n2 n3 n4 n5 e=>kk b o n2 n3 n4 n5 (kh b o n1 n2 n3 n4 n5 e)) (kk S _ U.Sz U.STO U.Si1 U.Si2 hS) hacc st.len (st.got.keep fun b o hb e=>kk b o (Nat.ne_of_gt (Nat.lt_of_lt_of_le U.z hb)) (Nat.ne_of_gt (Nat.lt_of_lt_of_le U.TO hb)) (Nat.ne_of_gt (Nat.lt_of_lt_of_le U.i1 hb)) (Nat.ne_of_gt (Nat.lt_of_lt_of_le U.i2 hb)) e)
   rcases st.zp with ⟨h0,hz⟩ | ⟨T,fl,hz,hT⟩
   ·have W:=WalksT.zip2 (prog:=prog) (w:=w) (A:=A.in1) hh z TI TO i1 i2 l1 l2 ap xs ys
    have em:min xs.size ys.size=xs.size:=by omega
    rw [em] at W
    refine W.done {s with heap:=h,toks:=tk} _ _ ⟨hz,st.hI,st.hO,st.h1,st.h2,st.hl1,st.hl2⟩ fun h' tk' kk=>?_
    exact wpAny_pure (fin h' tk' fun b o n2 n3 n4 n5 e=>kk b o (by simp [n2,n3,n4,n5]) e)
   ·obtain ⟨x,y,_,_,oT,eT,_⟩:=st.got.pairs 0 T hT
    refine Yn (s:={s with heap:=h,toks:=tk}) hh ap hz eT st.hI st.h1 st.hl1 (by simp) fun h' kk=>?_
    exact wpAny_pure (fin h' tk fun b o n2 n3 n4 n5 e=>kk b o n2 n4 e)
 | succ k ih=>
   intro i h tk c acc as hk hi hlo st kh hS hacc
   have hlt:i < xs.size:=by omega
   have hx:xs[i]? =some xs[i]:=Array.getElem?_eq_getElem hlt
   have hy:ys[i]? =some (ys[i]'(by omega)):=Array.getElem?_eq_getElem (by omega)
   generalize xs[i]=x at hx
   generalize ys[i]'_=y at hy
   refine codeAny_builtin F.entry_extend_loop ?_
   rw [Around.under_plainId F.plain_extend_loop]
   show wpAny _ A.in1 (pyNext (.ref z) >>=_) _ _ _
   refine wpAny_bind ?_
   have go:∀ (a:Addr) (h':Heap) (tk':Nat),h.objs.size≤a→h'.IsTuple a #[x,y]→(∀ b o,b≠z→b≠TO→b≠i1→b≠i2→h.get? b=some o→h'.get? b=some o)→lo≤h'.objs.size→
     (∃ T fl,Busy h' z TI TO T fl∧(as++[a])[0]? =some T)→IsPair h' TI (.ref i1) (.ref i2)→(∃ a b,IsPair h' TO a b)→h'.IsListIter i1 l1 (i + 1)→h'.IsListIter i2 l2 (i + 1)→h'.IsList l1 xs→h'.IsList l2 ys→
     wpAny (model prog w) A.in1 (Builtin.List.listUpdate (.ref S) (fun q=>q.push (.ref a)) >>=fun _=>again (Code.builtin "list.extend.loop" {pos:=[.ref S,.ref z,res]}))
      (fun fin s'=>match fin with | .done f=>R (.ok f) s' | .again c'=>c'.quiet=true∧codeAny (model prog w) A c' R s') (fun e s'=>R (.error e) s') {s with heap:=h',toks:=tk'}:=by
    intro a h' tk' ha ht kk hlo' hzp hI hO h1 h2 hl1 hl2
    have hS':=kk S _ U.Sz U.STO U.Si1 U.Si2 hS
    have aS:a≠S:=Nat.ne_of_gt (Nat.lt_of_lt_of_le (lH hS) ha)
    have hsz:acc.size=i:=by have:=congrArg List.length hacc;rw [List.length_map,st.len] at this;simpa using this
    have oth:∀ b o,b≠S→h'.get? b=some o→(h'.update S (Obj.mapSeq fun q=>q.push (.ref a))).get? b=some o:=fun b o hb e=>(Heap.get?_update_other _ _ (Ne.symm hb)).trans e
    have hS2:=Heap.get?_update_self (Obj.mapSeq (fun q=>q.push (Value.ref a))) hS' rfl
    refine wpAny_bind (wpAny_updateSeq (s:={s with heap:=h',toks:=tk'}) hS' rfl (wpAny_pure ⟨plainId_quiet F.plain_extend_loop _,?_⟩) (by rw [hsz];omega) (by rw [Array.size_push,hsz];omega))
    refine ih (i + 1) (h'.update S _) tk' _ (acc.push (.ref a)) (as++[a]) (by omega) hlt ?_ ⟨.inr ?_,?_,?_,?_,?_,?_,?_,?_,?_⟩ ?_ hS2 ?_
    ·have es:(h'.update S (Obj.mapSeq fun q=>q.push (.ref a))).objs.size=h'.objs.size:=(Heap.SameBut.update ..).1
     rw [es];exact hlo'
    ·obtain ⟨T,fl,e,q⟩:=hzp;exact ⟨T,fl,oth _ _ (Ne.symm U.Sz) e,q⟩
    ·exact oth _ _ (Ne.symm U.STI) hI
    ·obtain ⟨p,q,e⟩:=hO;exact ⟨p,q,oth _ _ (Ne.symm U.STO) e⟩
    ·exact h1.at fun o e=>oth _ o (Ne.symm U.Si1) e
    ·exact h2.at fun o e=>oth _ o (Ne.symm U.Si2) e
    ·exact let ⟨o,e,c⟩:=hl1;⟨o,oth _ o (Ne.symm U.Sl1) e,c⟩
    ·exact let ⟨o,e,c⟩:=hl2;⟨o,oth _ o (Ne.symm U.Sl2) e,c⟩
    ·rw [List.length_append,st.len];rfl
    ·have g:=st.got.keep (h':=h'.update S (Obj.mapSeq fun q=>q.push (.ref a))) fun b o hb e=>oth b o (Nat.ne_of_gt (Nat.lt_of_lt_of_le U.S hb)) (kk b o (Nat.ne_of_gt (Nat.lt_of_lt_of_le U.z hb)) (Nat.ne_of_gt (Nat.lt_of_lt_of_le U.TO hb)) (Nat.ne_of_gt (Nat.lt_of_lt_of_le U.i1 hb)) (Nat.ne_of_gt (Nat.lt_of_lt_of_le U.i2 hb)) e)
     refine g.more (fun b hb=>Nat.lt_of_lt_of_le (st.got.above b hb).2 ha) (Nat.le_trans hlo ha) (by rw [st.len];exact hx) (by rw [st.len];exact hy) (let ⟨o,e,c⟩:=ht;⟨o,oth _ o aS e,c⟩)
    ·exact fun b o n1 n2 n3 n4 n5 e=>oth b o n1 (kk b o n2 n3 n4 n5 (kh b o n1 n2 n3 n4 n5 e))
    ·rw [Array.toList_push,hacc,List.map_append];rfl
   rcases st.zp with ⟨h0,hz⟩ | ⟨T,fl,hz,hT⟩
   ·have W:=WalksT.zip2 (prog:=prog) (w:=w) (A:=A.in1) hh z TI TO i1 i2 l1 l2 ap xs ys
    have em:min xs.size ys.size=xs.size:=by omega
    rw [em] at W
    refine W.item i {s with heap:=h,toks:=tk} _ _ hlt ⟨hz,st.hI,st.hO,st.h1,st.h2,st.hl1,st.hl2⟩ fun T vals h' tk' hp hT ht mid kk=>?_
    obtain ⟨x',y',ex,ey,rfl⟩:=hp
    rw [hx] at ex;cases ex
    rw [hy] at ey;cases ey
    obtain ⟨m1,m2,m3,m4,m5,m6,m7,_⟩:=mid
    have as0:as=[]:=List.eq_nil_of_length_eq_zero (st.len.trans h0)
    refine go T h' tk' hT ht (fun b o n2 n3 n4 n5 e=>kk b o (by simp [n2,n3,n4,n5]) e) ?_ ⟨T,false,m1,by rw [as0];rfl⟩ m2 m3 m4 m5 m6 m7
    obtain ⟨o,e,_⟩:=ht
    exact Nat.le_of_lt (Nat.lt_of_le_of_lt (Nat.le_trans hlo hT) (lH e))
   ·obtain ⟨_,_,_,_,oT,eT,_⟩:=st.got.pairs 0 T hT
    refine UR (s:={s with heap:=h,toks:=tk}) ap hz eT st.hI st.h1 st.h2 st.hl1 st.hl2 hx hy fun h' hz' b1 b2 kk ht=>?_
    refine go h.objs.size h' tk (Nat.le_refl _) ⟨_,ht,rfl,_,rfl⟩ (fun b o n2 n3 n4 n5 e=>kk b o n2 n4 n5 e) ?_ ⟨T,true,hz',?_⟩ (kk TI _ ap.TIz ap.TIi1 ap.TIi2 st.hI) (let ⟨p,q,e⟩:=st.hO;⟨p,q,kk TO _ ap.TOz ap.TOi1 ap.TOi2 e⟩) b1 b2 (let ⟨o,e,c⟩:=st.hl1;⟨o,kk l1 o ap.l1z ap.l1i1 ap.l1i2 e,c⟩) (let ⟨o,e,c⟩:=st.hl2;⟨o,kk l2 o ap.l2z ap.l2i1 ap.l2i2 e,c⟩)
    ·have ht':h'.get? h.objs.size=_:=ht
     exact Nat.le_of_lt (Nat.lt_of_le_of_lt hlo (lH ht'))
    ·have:0 < as.length:=(List.getElem?_eq_some_iff.mp hT).1
     rw [List.getElem?_append_left this];exact hT
theorem afW:typeLookup (.type "zip") "__len__"=pure none:=by rw [typeLookup_type,builtinLookup_eq_fast];kernel_rfl
theorem aeo:typeLookup (.type "zip") "__length_hint__"=pure none:=by rw [typeLookup_type,builtinLookup_eq_fast];kernel_rfl
structure New (h:Heap) (z TI TO i1 i2 l1 l2:Addr) (xs ys:Array Value):Prop where
 ap:ZipApart z TI TO i1 i2 l1 l2
 hz:IsZip h z TI TO .none
 hI:IsPair h TI (.ref i1) (.ref i2)
 hO:∃ a b,IsPair h TO a b
 h1:h.IsListIter i1 l1 0
 h2:h.IsListIter i2 l2 0
 hl1:h.IsList l1 xs
 hl2:h.IsList l2 ys
theorem New.keep {h h':Heap} {z TI TO i1 i2 l1 l2:Addr} {xs ys:Array Value} (n:New h z TI TO i1 i2 l1 l2 xs ys) (k:∀ b o,h.get? b=some o→(b=z∨b=TI∨b=TO∨b=i1∨b=i2∨b=l1∨b=l2)→h'.get? b=some o):New h' z TI TO i1 i2 l1 l2 xs ys where
 ap:=n.ap
 hz:=k _ _ n.hz (by simp)
 hI:=k _ _ n.hI (by simp)
 hO:=let ⟨a,b,e⟩:=n.hO;⟨a,b,k _ _ e (by simp)⟩
 h1:=n.h1.at fun o e=>k _ o e (by simp)
 h2:=n.h2.at fun o e=>k _ o e (by simp)
 hl1:=let ⟨o,e,c⟩:=n.hl1;⟨o,k _ o e (by simp),c⟩
 hl2:=let ⟨o,e,c⟩:=n.hl2;⟨o,k _ o e (by simp),c⟩
theorem aeO {R:Result→Shared→Prop} {z TI TO i1 i2 l1 l2 S:Addr} {lo:Nat} {xs ys:Array Value} (hh:A.handled=none) (U:Und z TI TO i1 i2 l1 l2 S lo) (N:New s.heap z TI TO i1 i2 l1 l2 xs ys) (hn:xs.size≤sizeLine) (hxy:ys.size=xs.size) (hlo:lo≤s.heap.objs.size) (res:Value) {c₀:Nat} (hS:s.heap.get? S=some {cls:= .type "list",data:= .seq #[] c₀})
  (hR:∀ h' tk acc c as,(∀ b o,b≠S→b≠z→b≠TO→b≠i1→b≠i2→s.heap.get? b=some o→h'.get? b=some o)→h'.get? S=some {cls:= .type "list",data:= .seq acc c}→acc.toList=as.map .ref→as.length=xs.size→ZGot h' lo xs ys as→R (.ok (.ret res)) {s with heap:=h',toks:=tk}):
  wpAny (model prog w) A.in1 (Builtin.List.listExtendWith (.ref S) (.ref z) res)
   (fun fin s'=>match fin with | .done f=>R (.ok f) s' | .again c'=>c'.quiet=true∧codeAny (model prog w) A c' R s') (fun e s'=>R (.error e) s') s:=by
 have ty:s.TypeIs (.ref z) "zip":=⟨_,N.hz,rfl⟩
 have h1:Builtin.List.listSameRef (.ref S) (.ref z)=false:=by simp [Builtin.List.listSameRef,U.Sz]
 unfold Builtin.List.listExtendWith
 refine wpAny_bind (wpAny_typeOf ty ?_)
 rw [if_neg (by rw [h1];decide)]
 refine wpAny_bind (wpAny_pyIter_zip N.hz ?_)
 refine wpAny_bind (wpAny_holding ?_)
 unfold Builtin.List.listLengthHint
 refine wpAny_bind (wpAny_specialOf ty afW ?_)
 show wpAny _ A.in1 (specialOf (Value.ref z) (Str.ofString "__length_hint__") >>=_) _ _ _
 refine wpAny_bind (wpAny_specialOf ty aeo ?_)
 refine wpAny_pure ?_
 dsimp only
 rw [if_pos (by decide)]
 refine wpAny_bind (wpAny_rule (wpAny_bind ?_))
 show wpAny _ _ (updateSeq S (fun x=>x.push .none) >>=fun _=>updateSeq S fun x=>x.pop) _ _ s
 have e1:=Heap.get?_update_self (Obj.mapSeq (fun x=>x.push Value.none)) hS rfl
 have oth1:∀ b o,b≠S→s.heap.get? b=some o→(s.heap.update S (Obj.mapSeq (fun x=>x.push Value.none))).get? b=some o:=fun b o hb e=>(Heap.get?_update_other _ _ (Ne.symm hb)).trans e
 have z1:(s.heap.update S (Obj.mapSeq (fun x=>x.push Value.none))).objs.size=s.heap.objs.size:=(Heap.SameBut.update ..).1
 refine wpAny_bind (wpAny_updateSeq hS rfl ?_ (by show 0≤sizeLine;exact Nat.zero_le _) (by show 1≤sizeLine + 1;omega))
 generalize hg1:s.heap.update S (Obj.mapSeq (fun x=>x.push Value.none))=g1 at e1 oth1 z1
 refine wpAny_updateSeq (s:={s with heap:=g1}) e1 rfl ?_ (by show 1≤sizeLine;rw [sizeLine_eq];decide) (by show 0≤sizeLine + 1;omega)
 have e2:=Heap.get?_update_self (Obj.mapSeq (fun x=>x.pop)) e1 rfl
 have oth2:∀ b o,b≠S→g1.get? b=some o→(g1.update S (Obj.mapSeq (fun x=>x.pop))).get? b=some o:=fun b o hb e=>(Heap.get?_update_other _ _ (Ne.symm hb)).trans e
 have z2:(g1.update S (Obj.mapSeq (fun x=>x.pop))).objs.size=g1.objs.size:=(Heap.SameBut.update ..).1
 generalize hg2:g1.update S (Obj.mapSeq (fun x=>x.pop))=g2 at e2 oth2 z2
 refine wpAny_pure ⟨plainId_quiet F.plain_extend_loop _,?_⟩
 have N2:New g2 z TI TO i1 i2 l1 l2 xs ys:=N.keep fun b o e hb=>by
  have nb:b≠S:=by
   rcases hb with rfl | rfl | rfl | rfl | rfl | rfl | rfl
   ·exact Ne.symm U.Sz
   ·exact Ne.symm U.STI
   ·exact Ne.symm U.STO
   ·exact Ne.symm U.Si1
   ·exact Ne.symm U.Si2
   ·exact Ne.symm U.Sl1
   ·exact Ne.symm U.Sl2
  exact oth2 b o nb (oth1 b o nb e)
 exact loop (s:=s) (h₁:=s.heap) hh U hn hxy res hR xs.size 0 g2 s.toks _ #[] [] (Nat.sub_zero _) (Nat.zero_le _) (by rw [z2,z1];exact hlo) ⟨.inl ⟨rfl,N2.hz⟩,N2.hI,N2.hO,N2.h1,N2.h2,N2.hl1,N2.hl2,rfl,⟨List.Pairwise.nil,fun _ h=>absurd h (by simp),fun j a hj=>by simp at hj⟩⟩ (fun b o n1 _ _ _ _ e=>oth2 b o n1 (oth1 b o n1 e)) e2 rfl
theorem init {R:Result→Shared→Prop} {z TI TO i1 i2 l1 l2 S:Addr} {lo:Nat} {xs ys:Array Value} (hh:A.handled=none) (U:Und z TI TO i1 i2 l1 l2 S lo) (N:New s.heap z TI TO i1 i2 l1 l2 xs ys) (hn:xs.size≤sizeLine) (hxy:ys.size=xs.size) (hlo:lo≤s.heap.objs.size) (hS:s.heap.get? S=some {cls:= .type "list",data:= .seq #[]})
  (hR:∀ h' tk acc c as,(∀ b o,b≠S→b≠z→b≠TO→b≠i1→b≠i2→s.heap.get? b=some o→h'.get? b=some o)→h'.get? S=some {cls:= .type "list",data:= .seq acc c}→acc.toList=as.map .ref→as.length=xs.size→ZGot h' lo xs ys as→R (.ok (.ret .none)) {s with heap:=h',toks:=tk}):
  wpAny (model prog w) A.in1 (Builtin.«list.__init__» ⟨[.ref S,.ref z],[]⟩)
   (fun fin s'=>match fin with | .done f=>R (.ok f) s' | .again c'=>c'.quiet=true∧codeAny (model prog w) A c' R s') (fun e s'=>R (.error e) s') s:=by
 show wpAny _ _ (do let old ← Builtin.List.listItems (.ref S);Builtin.List.listUpdate (.ref S) (fun _=>#[]);letGo old.toList.reverse;Builtin.List.listExtendWith (.ref S) (.ref z) .none) _ _ s
 refine wpAny_bind ?_
 unfold Builtin.List.listItems
 refine wpAny_bind (wpAny_seqItems hS rfl (wpAny_pure ?_))
 show wpAny _ _ (updateSeq S (fun _=>#[]) >>=fun _=>letGo (#[]:Array Value).toList.reverse >>=fun _=>Builtin.List.listExtendWith (.ref S) (.ref z) .none) _ _ s
 refine wpAny_bind (wpAny_updateSeq hS rfl ?_)
 have hS2:=Heap.get?_update_self (Obj.mapSeq (fun _=>(#[]:Array Value))) hS rfl
 have oth:∀ b o,b≠S→s.heap.get? b=some o→(s.heap.update S (Obj.mapSeq (fun _=>(#[]:Array Value)))).get? b=some o:=fun b o hb e=>(Heap.get?_update_other _ _ (Ne.symm hb)).trans e
 have es:(s.heap.update S (Obj.mapSeq (fun _=>(#[]:Array Value)))).objs.size=s.heap.objs.size:=(Heap.SameBut.update ..).1
 refine wpAny_bind (wpAny_letGo ?_)
 refine aeO (s:={s with heap:=_}) hh U (N.keep fun b o e hb=>oth b o ?_ e) hn hxy (by show lo≤(s.heap.update S _).objs.size;rw [es];exact hlo) .none hS2 fun h' tk acc c as k a1 a2 a3 a4=>hR h' tk acc c as (fun b o n1 n2 n3 n4 n5 e=>k b o n1 n2 n3 n4 n5 (oth b o n1 e)) a1 a2 a3 a4
 rcases hb with rfl | rfl | rfl | rfl | rfl | rfl | rfl
 ·exact Ne.symm U.Sz
 ·exact Ne.symm U.STI
 ·exact Ne.symm U.STO
 ·exact Ne.symm U.Si1
 ·exact Ne.symm U.Si2
 ·exact Ne.symm U.Sl1
 ·exact Ne.symm U.Sl2
theorem call_list {Q:Value→Shared→Prop} {z TI TO i1 i2 l1 l2:Addr} {xs ys:Array Value} (hh:A.handled=none) (N:New s.heap z TI TO i1 i2 l1 l2 xs ys) (hn:xs.size≤sizeLine) (hxy:ys.size=xs.size)
  (hQ:∀ h' tk acc c as,(∀ b o,b≠z→b≠TO→b≠i1→b≠i2→s.heap.get? b=some o→h'.get? b=some o)→h'.get? s.heap.objs.size=some {cls:= .type "list",data:= .seq acc c}→acc.toList=as.map .ref→as.length=xs.size→ZGot h' (s.heap.objs.size + 1) xs ys as→Q (.ref s.heap.objs.size) {s with heap:=h',toks:=tk}):
  wpAny (model prog w) A (call (.type "list") [.ref z]) Q E s:=by
 have lz:=lH N.hz
 have lTI:=lH N.hI
 obtain ⟨pa,pb,eO⟩:=N.hO
 have lTO:=lH eO
 have li1:i1 < s.heap.objs.size:=let ⟨o,e,_⟩:=N.h1;lH e
 have li2:i2 < s.heap.objs.size:=let ⟨o,e,_⟩:=N.h2;lH e
 have ll1:l1 < s.heap.objs.size:=let ⟨o,e,_⟩:=N.hl1;lH e
 have ll2:l2 < s.heap.objs.size:=let ⟨o,e,_⟩:=N.hl2;lH e
 refine callType_codes (Q₁:=fun obj s₁=>obj= .ref s.heap.objs.size∧s₁={s with heap:=s.heap.push {cls:= .type "list",data:= .seq #[]}}) F.called_list (F.typeCall_list_1 _) F.entry_list_init (code_list_new _ ⟨rfl,rfl⟩) fun obj s₁ h₁=>?_
 obtain ⟨rfl,rfl⟩:=h₁
 have hS:(s.heap.push {cls:= .type "list",data:= .seq #[]}).get? s.heap.objs.size=some {cls:= .type "list",data:= .seq #[]}:=Heap.get?_push_size _ rfl
 have up:∀ {b:Addr},b < s.heap.objs.size→b < s.heap.objs.size + 1:=fun h=>Nat.lt_succ_of_lt h
 have ne:∀ {b:Addr},b < s.heap.objs.size→s.heap.objs.size≠b:=fun h=>Nat.ne_of_gt h
 have U:Und z TI TO i1 i2 l1 l2 s.heap.objs.size (s.heap.objs.size + 1):=⟨N.ap,ne lz,ne lTI,ne lTO,ne li1,ne li2,ne ll1,ne ll2,up lz,up lTO,up li1,up li2,Nat.lt_succ_self _⟩
 have sz:(s.heap.push {cls:= .type "list",data:= .seq #[]}).objs.size=s.heap.objs.size + 1:=by simp [Heap.push]
 refine ⟨⟨_,hS,rfl⟩,F.args_list_init_2 _ _,init (A:=A.in1) (s:={s with heap:=_}) hh U (N.keep fun b o e _=>Heap.get?_push_of_some _ e) hn hxy (Nat.le_of_eq sz.symm) hS fun h' tk acc c as k a1 a2 a3 a4=>?_⟩
 exact ⟨rfl,hQ h' tk acc c as (fun b o n2 n3 n4 n5 e=>k b o (Nat.ne_of_lt (lH e)) n2 n3 n4 n5 (Heap.get?_push_of_some _ e)) a1 a2 a3 a4⟩
end
end ZP
open PySem PySem.Spec PyProof.Rows
theorem HV:∀ as:List Addr,Vals (as.map V.ref) (as.map Value.ref)
 | []=> .nil
 | _::as=> .cons rfl (HV as)
theorem ZH {X:Cx} {pins:List (Addr×Obj)} {σ:St} {s0 s:Shared} {H0:Hp} (I0:Inv X pins σ H0 s0):∀ (as:List Addr) (xs ys:List V) (H:Hp),Inv X pins σ H s→as.Pairwise (· < ·)→(∀ a∈as,s0.heap.objs.size≤a∧H a=none)→as.length=xs.length→as.length=ys.length→
  (∀ (j:Nat) (a:Addr) (x y:V),as[j]? =some a→xs[j]? =some x→ys[j]? =some y→∃ u v,RelV x u∧RelV y v∧s.heap.IsTuple a #[u,v])→
  ∃ H2,Inv X pins σ H2 s∧Same H H2∧(∀ b,b∉as→H2 b=H b)∧∀ (j:Nat) (a:Addr) (x y:V),as[j]? =some a→xs[j]? =some x→ys[j]? =some y→H2 a=some (.tup [x,y])
 | [],_,_,H,I,_,_,_,_,_=>⟨H,I,Same.refl _,fun _ _=>rfl,fun j a x y h=>by simp at h⟩
 | a::as,[],_,H,I,_,_,h,_,_=>by simp at h
 | a::as,_,[],H,I,_,_,_,h,_=>by simp at h
 | a::as,x::xs,y::ys,H,I,pw,fr,l1,l2,ht=>by
   obtain ⟨u,v,ru,rv,o,e,c⟩:=ht 0 a x y rfl rfl rfl
   have fa:=fr a (List.mem_cons_self ..)
   have pw':=List.pairwise_cons.mp pw
   have na:a∉as:=fun h=>Nat.lt_irrefl _ (pw'.1 a h)
   have I1:Inv X pins σ (upd H a (.tup [x,y])) s:=I.track (I0.fpN (Heap.get?_none_of_le fa.1) fa.2) ⟨HZ,[u,v],.cons ru (.cons rv .nil),o,e,c⟩
   obtain ⟨H2,I2,s2,o2,g2⟩:=ZH I0 as xs ys (upd H a (.tup [x,y])) I1 pw'.2 (fun b hb=>⟨(fr b (List.mem_cons_of_mem _ hb)).1,by rw [aB (fun z:b=a=>na (by rw [← z];exact hb))];exact (fr b (List.mem_cons_of_mem _ hb)).2⟩) (by simpa using l1) (by simpa using l2) fun j b x' y' h1 h2 h3=>ht (j + 1) b x' y' (by simpa using h1) (by simpa using h2) (by simpa using h3)
   refine ⟨H2,I2,fun b ob h=>s2 b ob (by rw [aB (ai h fa.2)];exact h),fun b hb=>?_,fun j b x' y' h1 h2 h3=>?_⟩
   ·rw [o2 b fun z=>hb (List.mem_cons_of_mem _ z),aB (fun z:b=a=>hb (by rw [z];exact List.mem_cons_self ..))]
   ·cases j with
    | zero=>
      have e1:a=b:=by simpa using h1
      have e2:x=x':=by simpa using h2
      have e3:y=y':=by simpa using h3
      subst e1 e2 e3
      exact s2 a _ av
    | succ j=>exact g2 j b x' y' (by simpa using h1) (by simpa using h2) (by simpa using h3)
noncomputable def acw (K:PySem.W.Frag) (Q:VK) (x y:V) (H:Hp):Prop:=∃ a b xs ys,x= .ref a∧y= .ref b∧SqL K H a xs∧SqL K H b ys∧xs.length=ys.length∧
 ∀ (D:Addr) (ps:List Addr) (H3:Hp),H D=none→Same H H3→H3 D=some (.lst (ps.map V.ref))→ps.length=xs.length→(∀ (j:Nat) (p:Addr) (x y:V),ps[j]? =some p→xs[j]? =some x→ys[j]? =some y→H3 p=some (.tup [x,y]))→Q (.ref D) H3
noncomputable def tZip (K:PySem.W.Frag) (t1 t2:TE):TE:=fun σ H Q=>t1 σ H fun x H1=>t2 σ H1 fun y H2=>acw K Q x y H2
theorem afx {K:PySem.W.Frag} {t1 t2:TE} {σ:St} {H:Hp} {Q:VK} (h:t1 σ H fun x H1=>t2 σ H1 fun y H2=>acw K Q x y H2):tZip K t1 t2 σ H Q:=h
section
variable {X:Cx}
theorem aeP {K:PySem.W.Frag} {e1 e2:Expr} {t1 t2:TE} {p1 p2:Pos} {pins:List (Addr×Obj)} {s:Shared} {σ:St} {H:Hp} {Q:VK} (hK:X.K=K) (g2:Gl X "zip") (n2:X.mg "zip"=none) (he1:PE X e1 t1) (he2:PE X e2 t2) (h2:starEach [e1,e2] X.env=(false,eval e1 X.env)::starEach [e2] X.env) (h3:starEach [e2] X.env=[(false,eval e2 X.env)])
  (I:Inv X pins σ H s) (h:tZip K t1 t2 σ H Q) (Q':Value→Shared→Prop)
  (hQ:∀ (s1:Shared) (h':Heap) (H1:Hp) (a b:Addr) (xs ys:List V) (its jts:List Value),Inv X pins σ H1 s1→Vals xs its→Vals ys jts→its.length≤sizeLine→xs.length=ys.length→h'.objs.size=s1.heap.objs.size + 5→(∀ c o,s1.heap.get? c=some o→h'.get? c=some o)→
   ZP.New h' (s1.heap.objs.size + 4) (s1.heap.objs.size + 2) (s1.heap.objs.size + 3) s1.heap.objs.size (s1.heap.objs.size + 1) a b its.toArray jts.toArray→
   (∀ (D:Addr) (ps:List Addr) (H3:Hp),H1 D=none→Same H1 H3→H3 D=some (.lst (ps.map V.ref))→ps.length=xs.length→(∀ (j:Nat) (p:Addr) (x y:V),ps[j]? =some p→xs[j]? =some x→ys[j]? =some y→H3 p=some (.tup [x,y]))→Q (.ref D) H3)→
   Q' (.ref (s1.heap.objs.size + 4)) {s1 with heap:=h'}):
  wpAny (model X.prog X.w) X.A (eval (.Call (.Name "zip" p1) [e1,e2] [] p2) X.env) Q' X.xe s:=by
 subst hK
 refine Call_ (nc I g2 n2 PyProof.Rows.boot_zip (PyProof.Rows.callWith_type1 (thn (aa he1 (aa he2 ae h3) h2 p2 pins s σ H (fun vs H1=>match vs with | [x,y]=>acw X.K Q x y H1 | _=>False) I h) fun us s1 ⟨vs,H1,I1,r1,q1⟩=>?_) h2 (by rw [h3];rfl)))
 match vs,r1,q1 with
 | [x,y],r1,q1=>
 obtain ⟨a,b,xs,ys,ex,ey,sa,sb,hl,q⟩:=q1
 subst ex ey
 cases r1 with
 | cons rx r2=>
 cases r2 with
 | cons ry r3=>
 cases r3
 cases rx
 cases ry
 obtain ⟨its,ra,pa,hza⟩:=I1.list sa
 obtain ⟨jts,rb,pb,hzb⟩:=I1.list sb
 have la:a < s1.heap.objs.size:=let ⟨o,e,_⟩:=pa.isList;Heap.lt_size e
 have lb:b < s1.heap.objs.size:=let ⟨o,e,_⟩:=pb.isList;Heap.lt_size e
 refine call_zip_2 pa.isList pb.isList fun h' z1 z2 z3 z4 z5 hsz k=>?_
 exact hQ s1 h' H1 a b xs ys its jts I1 ra rb (by rw [← ra.length];exact hza) hl hsz k ⟨zipApart_new la lb,z1,z2,⟨_,_,z3⟩,z4,z5,let ⟨o,e,c⟩:=pa.isList;⟨o,k _ o e,c⟩,let ⟨o,e,c⟩:=pb.isList;⟨o,k _ o e,c⟩⟩ q
theorem Qb {K:PySem.W.Frag} {e1 e2:Expr} {t1 t2:TE} {p1 p2 q1 q2:Pos} (hK:X.K=K) (hc:X.calm=true) (g1:Gl X "list") (g2:Gl X "zip") (n1:X.mg "list"=none) (n2:X.mg "zip"=none) (he1:PE X e1 t1) (he2:PE X e2 t2)
  (h1:starEach [Expr.Call (.Name "zip" p1) [e1,e2] [] p2] X.env=[(false,eval (.Call (.Name "zip" p1) [e1,e2] [] p2) X.env)]:=by rfl) (h2:starEach [e1,e2] X.env=(false,eval e1 X.env)::starEach [e2] X.env:=by rfl) (h3:starEach [e2] X.env=[(false,eval e2 X.env)]:=by rfl):
  PE X (.Call (.Name "list" q1) [.Call (.Name "zip" p1) [e1,e2] [] p2] [] q2) (tZip K t1 t2):=by
 intro pins s σ H Q I h
 refine Call_ (nc I g1 n1 PyProof.Rows.boot_list (PyProof.Rows.callWith_type1 (Q:=EP X pins σ Q) ?_ h1 rfl))
 rw [h1]
 show wpAny _ _ (spliced ((false,eval (.Call (.Name "zip" p1) [e1,e2] [] p2) X.env)::backTo q2 [])) _ _ s
 refine Calls.spliced_cons (aeP hK g2 n2 he1 he2 h2 h3 I h _ fun s1 h' H1 a b xs ys its jts I1 ra rb hza hl hsz k N q=>Calls.spliced_nil ?_)
 have hlj:jts.toArray.size=its.toArray.size:=by have:=ra.length;have:=rb.length;simp;omega
 refine ZP.call_list (s:={s1 with heap:=h'}) (I1.ok.hd hc) N (by simpa using hza) hlj fun h2 tk acc c as kk hD hacc hlen G=>?_
 have kk2:∀ b o,s1.heap.get? b=some o→h2.get? b=some o:=fun b o e=>by
  have lt:=Heap.lt_size e
  exact kk b o (Nat.ne_of_lt (Nat.lt_of_lt_of_le lt (Nat.le_add_right _ _))) (Nat.ne_of_lt (Nat.lt_of_lt_of_le lt (Nat.le_add_right _ _))) (Nat.ne_of_lt lt) (Nat.ne_of_lt (Nat.lt_of_lt_of_le lt (Nat.le_add_right _ _))) (k b o e)
 have I2:Inv X pins σ H1 {s1 with heap:=h2,toks:=tk}:=I1.kept (t':=tk) kk2
 have lx:as.length=xs.length:=by rw [hlen,ra.length];simp
 have fra:∀ p∈as,s1.heap.objs.size≤p∧H1 p=none:=fun p hp=>by
  have h0:s1.heap.objs.size≤p:=Nat.le_trans (by show s1.heap.objs.size≤h'.objs.size + 1;rw [hsz];exact Nat.le_trans (Nat.le_add_right _ _) (Nat.le_succ _)) (G.above p hp).1
  exact ⟨h0,I1.hok.fresh h0⟩
 obtain ⟨H3,I3,s3,o3,g3⟩:=ZH I1 as xs ys H1 I2 G.rise fra lx (lx.trans hl) fun j p x y hp hx hy=>by
  obtain ⟨u,v,hu,hv,ht⟩:=G.pairs j p hp
  rw [List.getElem?_toArray] at hu hv
  obtain ⟨u',eu,ru⟩:=ra.get hx
  obtain ⟨v',ev,rv⟩:=rb.get hy
  rw [eu] at hu;cases hu
  rw [ev] at hv;cases hv
  exact ⟨u,v,ru,rv,ht⟩
 have le5:s1.heap.objs.size≤h'.objs.size:=by rw [hsz];exact Nat.le_add_right _ _
 have fD:H1 h'.objs.size=none:=I1.hok.fresh le5
 have nD:h'.objs.size∉as:=fun z=>Nat.not_succ_le_self _ (G.above _ z).1
 have fD3:H3 h'.objs.size=none:=by rw [o3 _ nD];exact fD
 have hDn:s1.heap.get? h'.objs.size=none:=Heap.get?_none_of_le le5
 have I4:Inv X pins σ (upd H3 h'.objs.size (.lst (as.map V.ref))) {s1 with heap:=h2,toks:=tk}:=I3.track (I1.fpN hDn fD3) ⟨by rw [List.length_map,lx,ra.length];exact hza,as.map .ref,c,HV as,by rw [← hacc];exact hD⟩
 refine ⟨.ref h'.objs.size,_,I4,rfl,q h'.objs.size as _ fD (fun b ob e=>?_) av lx fun j p x y hp hx hy=>?_⟩
 ·rw [aB (ai (s3 b ob e) fD3)];exact s3 b ob e
 ·have:=g3 j p x y hp hx hy
  rw [aB (ai this fD3)];exact this
end
structure FunD (K:PySem.W.Frag) (x qual:Str) (st:Stmt) (f:Addr) (fd:FuncData) (dv:Value):Prop where
 ex:∃ (oc:Value) (od:Option Addr) (T:Addr) (kV doc pm:Value) (an:Option Addr) (cdv ct:Value) (osl:Array (Option Value)) (tc:Value) (td:Option Addr) (n:Nat) (tsl:Array (Option Value)),
  fd=PySem.W.fnOf x qual (aw st) (au st) (ad st) (.ref T) kV doc pm an cdv ct∧K.lookup f=some ⟨oc,od,.func fd,osl⟩∧PySem.W.codeIn K cdv qual=true∧K.lookup T=some ⟨tc,td,.seq #[dv] n,tsl⟩
 kp:PySem.W.keepIn K (.ref f)=true
section
variable {P:Program} {w:World} {K:PySem.W.Frag} {mg:Str→Option Value} {base:Heap}
theorem FunD.okX {x qual:Str} {st:Stmt} {f:Addr} {fd:FuncData} {dv:Value} {N ps:List Str} {k:Nat} {sp:Sp} (F:FunD K x qual st f fd dv) (S:ay N ps (ad st)) (len:∀ vs H Q E,sp vs H Q E→vs.length=ps.length)
  (hbody:∀ (cdv:Value) (A:Around) (outer:List Env) (s:Shared) (H:Hp) (vs:List V) (Q:VK) (E:XK),Room k (A.deeper (envOfC qual (ad st) s.heap.objs.size f cdv))→sp vs H Q E→
   ∃ t,PSs ((cxOf (CX1 P w) P w K mg base N qual (ad st) f cdv A outer s H E).thr fun _=>E) (au st) t∧t {nx:=fun _ H'=>Q .non H',rt:=Q} (start N vs) H):FnOk P w K mg base (CX1 P w) (k + 1) f fd ps sp:=by
 obtain ⟨oc,od,T,kV,doc,pm,an,cdv,ct,osl,tc,td,n,tsl,rfl,lk,hcd,_⟩:=F.ex
 refine acd lk hcd S len fun A outer s H vs Q E hr hsp=>?_
 obtain ⟨t,h,q⟩:=hbody cdv A outer s H vs Q E hr hsp
 exact ⟨t,h.thr OQ,q⟩
theorem FunD.binds {x qual:Str} {st:Stmt} {f:Addr} {fd:FuncData} {dv:Value} {ps:List Str} {ds:List Value} (F:FunD K x qual st f fd dv)
  (h:∀ (T:Addr) (kV doc pm:Value) (an:Option Addr) (cdv ct:Value) (us:List Value),(us++ds).length=ps.length→∃ k:Option (Array Value)→Sem (List (Str×Value)),bindArgs (PySem.W.fnOf x qual (aw st) (au st) (ad st) (.ref T) kV doc pm an cdv ct) ⟨us,[]⟩=(seqItems? (.ref T) >>=k)∧k (some #[dv])=pure (ps.zip (us++ds))):aZ K fd ps ds:=by
 obtain ⟨oc,od,T,kV,doc,pm,an,cdv,ct,osl,tc,td,n,tsl,rfl,lk,hcd,lT⟩:=F.ex
 intro s us hK hl
 obtain ⟨k,e1,e2⟩:=h T kV doc pm an cdv ct us hl
 exact BindsTo.of_defaults (T:=T) rfl (hK T _ lT) rfl e1 e2
theorem VI {x qual:Str} {st:Stmt} {f T:Addr} {oc tc dv:Value} {od an td:Option Addr} {osl tsl:Array (Option Value)} {n:Nat} {kV doc pm cdv ct:Value} (l:K.lookup f=some ⟨oc,od,.func (PySem.W.fnOf x qual (aw st) (au st) (ad st) (.ref T) kV doc pm an cdv ct),osl⟩)
  (lT:K.lookup T=some ⟨tc,td,.seq #[dv] n,tsl⟩) (c:PySem.W.codeIn K cdv qual=true) (k:PySem.W.keepIn K (.ref f)=true):FunD K x qual st f (PySem.W.fnOf x qual (aw st) (au st) (ad st) (.ref T) kV doc pm an cdv ct) dv:=⟨⟨oc,od,T,kV,doc,pm,an,cdv,ct,osl,tc,td,n,tsl,rfl,l,c,lT⟩,k⟩
end
section
variable {σ:St} {H:Hp} {Q:VK} {te:TE}
noncomputable def WF (C:Addr) (m:Str) (sp:Sp) (dvs:List V) (W:XW) (tr:TA) (σ:St) (Q:VK) (x:V) (H:Hp):Prop:=∃ a dx fs,x= .ref a∧H a=some (.ins C dx fs)∧fs.lookup m=none∧tr σ H fun vs H2=>sp (x::(vs++dvs)) H2 Q (W σ)
theorem gb {C:Addr} {m:Str} {sp:Sp} {dvs:List V} {W:XW} {tr:TA} (h:te σ H (WF C m sp dvs W tr σ Q)):ZJ C m sp dvs W te tr σ H Q:=h
theorem fj {C dx p:Addr} {m:Str} {fs:List (Str×V)} {sp:Sp} {dvs:List V} {W:XW} {tr:TA} (e:H p=some (.ins C dx fs)) (l:fs.lookup m=none) (h:tr σ H fun vs H2=>sp (.ref p::(vs++dvs)) H2 Q (W σ)):WF C m sp dvs W tr σ Q (.ref p) H:=⟨p,dx,fs,rfl,e,l,h⟩
end
noncomputable def Itzp (K:PySem.W.Frag) (a b:Addr):It:=
 ⟨fun i H=>∃ xs ys x y,SqL K H a xs∧SqL K H b ys∧xs[i]? =some x∧ys[i]? =some y,
  fun i H x H'=>∃ p u v,H p=none∧x= .ref p∧H'=upd H p (.tup [u,v])∧(∀ xs,SqL K H a xs→xs[i]? =some u)∧∀ ys,SqL K H b ys→ys[i]? =some v,
  fun i H=>∃ xs ys,SqL K H a xs∧SqL K H b ys∧xs.length=ys.length∧xs.length=i⟩
theorem Xx {P:Program} {w:World} {K:PySem.W.Frag} {elts:List Expr} {k:Nat} {pos:Pos} (a b z TI TO i1 i2:Addr) (D:ZipApart z TI TO i1 i2 a b):
  Turn P w K (.Tuple elts k pos) (Itzp K a b) [z,TI,TO,i1,i2] z (fun i h=>IsZip h z TI TO .none∧IsPair h TI (.ref i1) (.ref i2)∧(∃ u v,IsPair h TO u v)∧h.IsListIter i1 a i∧h.IsListIter i2 b i) where
 mem:=by simp
 obj:=fun i h st c hb=>by
  obtain ⟨hz,hTI,⟨u,v,hTO⟩,⟨o1,ho1,_,hd1⟩,⟨o2,ho2,_,hd2⟩⟩:=st
  simp only [List.mem_cons,List.not_mem_nil,or_false] at hb
  rcases hb with e | e | e | e | e
  ·rw [e];exact ⟨_,hz,fun v z=>by cases z⟩
  ·rw [e];exact ⟨_,hTI,fun v z=>by cases z⟩
  ·rw [e];exact ⟨_,hTO,fun v z=>by cases z⟩
  ·rw [e];exact ⟨o1,ho1,fun v z=>by rw [hd1] at z;cases z⟩
  ·rw [e];exact ⟨o2,ho2,fun v z=>by rw [hd2] at z;cases z⟩
 keep:=fun i h h' st k=>by
  obtain ⟨hz,hTI,⟨u,v,hTO⟩,h1,h2⟩:=st
  exact ⟨k z (by simp) _ hz,k TI (by simp) _ hTI,⟨u,v,k TO (by simp) _ hTO⟩,h1.at fun o e=>k i1 (by simp) o e,h2.at fun o e=>k i2 (by simp) o e⟩
 item:=by
  intro X hP hw hK hc i pins s σ H E I hf st hg
  subst hP hw hK
  obtain ⟨xs,ys,x,y,qa,qb,hx,hy⟩:=hg
  obtain ⟨its,ra,pa,hza⟩:=I.list qa
  obtain ⟨jts,rb,pb,hzb⟩:=I.list qb
  obtain ⟨hz,hTI,hTO,h1,h2⟩:=st
  have W:=WalksT.zip2 (prog:=X.prog) (w:=X.w) (A:=X.A) (I.ok.hd hc) z TI TO i1 i2 a b D its.toArray jts.toArray
  have hi1:i < its.length:=by have:=ra.length;have:=(List.getElem?_eq_some_iff.mp hx).1;omega
  have hi2:i < jts.length:=by have:=rb.length;have:=(List.getElem?_eq_some_iff.mp hy).1;omega
  have lts:∀ c∈[z,TI,TO,i1,i2],c < s.heap.objs.size:=fun c hb=>by
   obtain ⟨u,v,hTO⟩:=hTO
   obtain ⟨o1,ho1,_⟩:=h1
   obtain ⟨o2,ho2,_⟩:=h2
   simp only [List.mem_cons,List.not_mem_nil,or_false] at hb
   rcases hb with e | e | e | e | e
   ·rw [e];exact Heap.lt_size hz
   ·rw [e];exact Heap.lt_size hTI
   ·rw [e];exact Heap.lt_size hTO
   ·rw [e];exact Heap.lt_size ho1
   ·rw [e];exact Heap.lt_size ho2
  refine W.item i s _ _ (by simp;omega) ⟨hz,hTI,hTO,h1,h2,pa.isList,pb.isList⟩ fun T vals h' tk hPt hT htup hmid hk=>⟨_,rfl,W.go elts k pos i T _ _ _ hmid fun h'' hst hk2=>?_⟩
  obtain ⟨x',y',hx',hy',rfl⟩:=hPt
  have hap:=W.apart i T h' hmid
  have ru:RelV x x':=by
   obtain ⟨u,hu,r⟩:=ra.get hx
   have hx'':its[i]? =some x':=by simpa using hx'
   rw [hu] at hx'';cases hx'';exact r
  have rv:RelV y y':=by
   obtain ⟨u,hu,r⟩:=rb.get hy
   have hy'':jts[i]? =some y':=by simpa using hy'
   rw [hu] at hy'';cases hy'';exact r
  have sub:∀ c,c∉[z,TI,TO,i1,i2]→c∉[z,TO,i1,i2]:=fun c h z'=>h (by
   simp only [List.mem_cons,List.not_mem_nil,or_false] at z' ⊢
   rcases z' with e | e | e | e<;>simp [e])
  have kk:∀ c u,c∉[z,TI,TO,i1,i2]→s.heap.get? c=some u→h''.get? c=some u:=fun c u hb q=>hk2 c u (sub c hb) (hk c u (sub c hb) q)
  have fr:H T=none:=I.hok.fresh hT
  refine ⟨.ref T,upd H T (.tup [x,y]),I.laidCh (t':=tk) kk hT ⟨HZ,[x',y'],.cons ru (.cons rv .nil),?_⟩ hf,rfl,⟨T,x,y,fr,rfl,rfl,fun zs hz'=>by rw [I.list_inj hz' qa];exact hx,fun zs hz'=>by rw [I.list_inj hz' qb];exact hy⟩,⟨hst.1,hst.2.1,hst.2.2.1,hst.2.2.2.1,hst.2.2.2.2.1⟩,fun c hb=>?_⟩
  ·obtain ⟨o,ho,r⟩:=htup
   exact ⟨o,hk2 T o hap ho,r⟩
  ·rw [aB (fun e=>?_)]
   ·exact (hf c hb).1
   ·have:=lts c hb
    rw [e] at this
    exact absurd (Nat.lt_of_lt_of_le this hT) (Nat.lt_irrefl _)
 done:=by
  intro X hP hw hK hc i pins s σ H E I hf st hg
  subst hP hw hK
  obtain ⟨xs,ys,qa,qb,hl,hn⟩:=hg
  obtain ⟨its,ra,pa,hza⟩:=I.list qa
  obtain ⟨jts,rb,pb,hzb⟩:=I.list qb
  obtain ⟨hz,hTI,hTO,h1,h2⟩:=st
  have W:=WalksT.zip2 (prog:=X.prog) (w:=X.w) (A:=X.A) (I.ok.hd hc) z TI TO i1 i2 a b D its.toArray jts.toArray
  have e:min its.toArray.size jts.toArray.size=i:=by have:=ra.length;have:=rb.length;simp;omega
  rw [e] at W
  have sub:∀ c,c∉[z,TI,TO,i1,i2]→c∉[z,TO,i1,i2]:=fun c h z'=>h (by
   simp only [List.mem_cons,List.not_mem_nil,or_false] at z' ⊢
   rcases z' with e | e | e | e<;>simp [e])
  exact W.done s _ _ ⟨hz,hTI,hTO,h1,h2,pa.isList,pb.isList⟩ fun h' tk hk=>⟨rfl,I.turnedCh (fun c u hb q=>hk c u (sub c hb) q) hf⟩
 self:=fun _ _ _ _ _ st h=>wpAny_pyIter_zip st.1 h
noncomputable def acv (K:PySem.W.Frag) (R:It→Hp→Prop) (x y:V) (H:Hp):Prop:=∃ a b xs ys,x= .ref a∧y= .ref b∧SqL K H a xs∧SqL K H b ys∧xs.length=ys.length∧R (Itzp K a b) H
noncomputable def iZip (K:PySem.W.Frag) (t1 t2:TE):TI:=fun σ H R=>t1 σ H fun x H1=>t2 σ H1 fun y H2=>acv K R x y H2
theorem ZN {K:PySem.W.Frag} {t1 t2:TE} {σ:St} {H:Hp} {R:It→Hp→Prop} (h:t1 σ H fun x H1=>t2 σ H1 fun y H2=>acv K R x y H2):iZip K t1 t2 σ H R:=h
section
variable {X:Cx} {K:PySem.W.Frag}
theorem Uk {e1 e2:Expr} {t1 t2:TE} {elts:List Expr} {k:Nat} {tpos p pos:Pos} (hK:X.K=K) (g2:Gl X "zip") (n2:X.mg "zip"=none) (he1:PE X e1 t1) (he2:PE X e2 t2)
  (h2:starEach [e1,e2] X.env=(false,eval e1 X.env)::starEach [e2] X.env:=by rfl) (h3:starEach [e2] X.env=[(false,eval e2 X.env)]:=by rfl):
  PI X (.Tuple elts k tpos) (.Call (.Name "zip" p) [e1,e2] [] pos) (iZip K t1 t2):=by
 subst hK
 intro pins s σ H R I h
 refine Call_ (nc I g2 n2 PyProof.Rows.boot_zip (PyProof.Rows.callWith_type1 (thn (aa he1 (aa he2 ae h3) h2 pos pins s σ H (fun vs H1=>match vs with | [x,y]=>acv X.K R x y H1 | _=>False) I h) fun us s1 ⟨vs,H1,I1,r1,q1⟩=>?_) h2 (by rw [h3];rfl)))
 match vs,r1,q1 with
 | [x,y],r1,q1=>
 obtain ⟨a,b,xs,ys,ex,ey,sa,sb,hl,q⟩:=q1
 subst ex ey
 cases r1 with
 | cons rx r2=>
 cases r2 with
 | cons ry r3=>
 cases r3
 cases rx
 cases ry
 obtain ⟨its,ra,pa,hza⟩:=I1.list sa
 obtain ⟨jts,rb,pb,hzb⟩:=I1.list sb
 have la:a < s1.heap.objs.size:=let ⟨o,e,_⟩:=pa.isList;Heap.lt_size e
 have lb:b < s1.heap.objs.size:=let ⟨o,e,_⟩:=pb.isList;Heap.lt_size e
 have fin:∀ c∈[s1.heap.objs.size + 4,s1.heap.objs.size + 2,s1.heap.objs.size + 3,s1.heap.objs.size,s1.heap.objs.size + 1],FpOk X pins H1 c:=fun c hb=>by
  have hb':s1.heap.objs.size≤c:=by
   simp only [List.mem_cons,List.not_mem_nil,or_false] at hb
   rcases hb with e | e | e | e | e<;>rw [e]<;>omega
  exact I1.fpOk hb' (I1.hok.fresh hb')
 refine call_zip_2 pa.isList pb.isList fun h' z1 z2 z3 z4 z5 hsz k=>wpAny_pyIter_zip z1 ?_
 exact ⟨s1.heap.objs.size + 4,_,_,_,H1,rfl,I1.kept (t':=s1.toks) k,Xx a b _ _ _ _ _ (zipApart_new la lb),⟨z1,z2,⟨_,_,z3⟩,z4,z5⟩,fin,q⟩
end
theorem Hf {K:PySem.W.Frag} {n:Nat} {fx:List Nat} {g:TG} {tc:TT} {te:TE} {σ:St} {H1:Hp} {D:Addr} {Q:Hp→Prop} {a b:Addr} {xs ys:List V} (hl:xs.length=ys.length) (Pv:Nat→List V→Hp→Prop) (h0:Pv 0 [] (upd H1 D (.lst []))) (hq:∀ i zs H,i≤xs.length→Pv i zs H→SqL K H a xs∧SqL K H b ys)
  (hs:∀ i x y zs H p H',xs[i]? =some x→ys[i]? =some y→Pv i zs H→H p=none→Same H H'→H' p=some (.tup [x,y])→g (.ref p) (df n fx σ) H' fun σ4 H4=>tc σ4 H4 fun b H5=>if b=true then te σ4 H5 fun v H6=>H6 D=some (.lst zs)∧zs.length < sizeLine∧Pv (i + 1) (zs++[v]) (upd H6 D (.lst (zs++[v]))) else Pv (i + 1) zs H5)
  (hd:∀ zs H,Pv xs.length zs H→Q H):
  ∃ W:Nat→Nat→List V→Hp→Prop,(∃ m,W 0 m [] (upd H1 D (.lst [])))∧∀ i m zs H2,W i m zs H2→((Itzp K a b).stop i H2∧Q H2)∨
    ((Itzp K a b).go i H2∧∃ N:List V→Hp→Prop,(∀ zs' H',N zs' H'→∃ m',m' < m∧W (i + 1) m' zs' H')∧∀ x H3,(Itzp K a b).yld i H2 x H3→g x (df n fx σ) H3 fun σ4 H4=>tc σ4 H4 fun b H5=>
      if b=true then te σ4 H5 fun v H6=>H6 D=some (.lst zs)∧zs.length < sizeLine∧N (zs++[v]) (upd H6 D (.lst (zs++[v]))) else N zs H5):=by
 refine ⟨fun i m zs H=>m=xs.length - i∧i≤xs.length∧Pv i zs H,⟨xs.length,by simp,Nat.zero_le _,h0⟩,?_⟩
 rintro i m zs H ⟨rfl,hi,p⟩
 obtain ⟨qa,qb⟩:=hq i zs H hi p
 by_cases hlt:i < xs.length
 ·refine .inr ⟨⟨xs,ys,xs[i],ys[i]'(by omega),qa,qb,by simp [hlt],by simp [show i < ys.length by omega]⟩,Pv (i + 1),fun zs' H' p'=>⟨xs.length - (i + 1),by omega,rfl,hlt,p'⟩,fun x H' y=>?_⟩
  obtain ⟨r,u,v,f,e1,e2,y1,y2⟩:=y
  subst e1 e2
  exact hs i u v zs H r _ (y1 xs qa) (y2 ys qb) p f (bf f) av
 ·have e:i=xs.length:=by omega
  subst e
  exact .inl ⟨⟨xs,ys,qa,qb,hl,rfl⟩,hd zs H p⟩
noncomputable abbrev xBM:List Value:=[.type "ValueError",.type "Exception",.type "BaseException",.type "object"]
structure XOwn (K:PySem.W.Frag) (C W f:Addr):Prop where
 lk:∃ nm q N bs sn sub ab col dd k0 k1 k2 k3 k5,K.lookup C=some (excClassObj nm q C N bs (.ref W::xBM) true sn sub ab col dd k0 k1 k2 k3 k5 "ValueError.__new__")
 up:PySem.W.excIn K W xBM "ValueError.__new__"=true
 init:PySem.W.findIn K (.ref C) "__init__"=some (some (.ref f))
 fn:PySem.W.isFn K (.ref f)=true
 kp:PySem.W.keepIn K (.ref C)=true
 sa:PySem.W.findIn K (.ref C) "__setattr__"=some (some (.builtin "object.__setattr__"))
 mo:PySem.W.mroIn K C (.type "object")=some true
 mv:PySem.W.mroIn K C (.type "ValueError")=some true
section
variable {X:Cx} {pins:List (Addr×Obj)} {σ:St} {H:Hp} {s:Shared} {p C W f:Addr} {fs:List (Str×V)}
structure age (K:PySem.W.Frag) (W:Addr):Prop where
 ga:PySem.W.specialIn K (.ref W) "__getattribute__"=some (some (.builtin "type.__getattribute__"))
 rd:PySem.W.readsIn K W (.type "type")=true
 fd:PySem.W.findCls K (.ref W) (.type "type") "__init__"=some (.val (.builtin "ValueError.__init__"))
theorem jn {st:Stmt}:PS X st (fun _ _ _=>False):=fun _ _ _ _ _ _ h=>h.elim
end
end L2
namespace PySem
theorem F.entry_dict_update_loop:entryFor table "dict.update.loop"=some Builtin.«dict.update.loop»:=entryFor_of_fast (by kernel_rfl)
theorem F.plain_dict_update_loop:plainId "dict.update.loop"=true:=by decide +kernel
theorem F.list_keys_none:typeLookup (.type "list") "keys"=pure none:=by rw [typeLookup_type,builtinLookup_eq_fast];kernel_rfl
theorem Mr {prog:Program} {w:World} {A:Around} {E:Value→Shared→Prop} {s:Shared} {a:Addr} {xs:Array Value} {k:Nat} {name:Str} {Q:Option Value→Shared→Prop}
  (hx:s.heap.get? a=some {cls:= .type "list",data:= .seq xs k}) (hmiss:typeLookup (.type "list") name=pure none) (hname:(["__module__","__name__","__qualname__","__doc__","__annotations__"]:List Str).contains name=false) (hA:A.handled=none)
  (h:∀ h' tk,(∀ b o,s.heap.get? b=some o→h'.get? b=some o)→Q none {s with heap:=h',toks:=tk}) (hsz:name.length + 100≤sizeLine:=by size_fits):
  wpAny (model prog w) A (getAttr? (.ref a) name) Q E s:=by
 obtain ⟨hp,g,d,tk,os⟩:=s
 have hT:∀ tk',(⟨hp,g,d,tk',os⟩:Shared).TypeIs (.ref a) "list":=fun _=>⟨_,hx,rfl⟩
 have f1:=sub_AttributeError
 have f3:=F.slot_list_getattribute.lookup
 have f4:=F.slot_list_getattribute.bind (.ref a)
 have f5:=am_list_getattr_none
 unfold getAttr? getAttrBy? getAttrBy
 repeat (any_goals (first | assumption | exact hT _ | ((with_reducible show wpAny _ _ (call (Value.builtin "list.__getattribute__") _ _) _ _ _);refine call_meets F.slot_list_getattribute (hT _) am_entry_list_getattribute (F.args_list_getattribute_2 _ _) (meets_getattribute_miss_list a xs k #[] name _ hmiss hname hsz) ⟨hx,hA,fun h' tk' e hx'=>?_⟩) | wp_step))
 obtain ⟨t',u',he⟩:=hx'.there
 show wpAny _ _ (getattributeRaised _ _ _ _ _ _ _) _ _ _
 unfold getattributeRaised
 repeat (any_goals (first | assumption | wp_step))
 exact h _ _ hx'.keeps
section
variable {prog:Program} {w:World} {K:Type} [DecidableEq K] {knd:KeyKind prog w K} {A:Around} {R:Result→Shared→Prop} {I:Addr} {fp wr:List Addr} {n:Nat} {P:Nat→Value→Prop} {St:Nat→Heap→Prop}
noncomputable def aaD (knd:KeyKind prog w K) (h:Heap) (a:Addr) (kv:K×Value):Prop:=∃ key o n,h.get? a=some o∧o.cls= .type "tuple"∧o.data= .seq #[key,kv.2] n∧knd.is kv.1 key=true
theorem AQ {h h':Heap} {d:Addr} {kvs:List (K×Value)} (hm:h.DictOf knd d kvs) (f:∀ o,h.get? d=some o→h'.get? d=some o):h'.DictOf knd d kvs:=let ⟨o,es,ep,ho,r⟩:=hm;⟨o,es,ep,f o ho,r⟩
theorem rH (W:Walks prog w A.in1 I fp wr n P St) (d:Addr) (hdf:d∉fp) (more:List (K×Value)) (hn:more.length=n) (hsz:n≤sizeLine) (tup:Nat→Addr) (htw:∀ i,i < n→tup i∉wr∧tup i≠d) (hP:∀ i v,i < n→P i v→v= .ref (tup i)):
  ∀ (k j:Nat) (s:Shared) (ix:Int) (t:Tok),n - j=k→j≤n→St j s.heap→s.heap.DictOf knd d (merged [] (more.take j))→(∀ i kv,more[i]? =some kv→aaD knd s.heap (tup i) kv)→
  (∀ h' tk,h'.DictOf knd d (merged [] more)→(∀ b o,b∉wr→b≠d→s.heap.get? b=some o→h'.get? b=some o)→R (.ok (.ret .none)) {s with heap:=h',toks:=tk})→
  codeAny (model prog w) A (.builtin "dict.update.loop" ⟨[.ref d,.ref I,.int ix t,.none],[]⟩) R s:=by
 have hdw:d∉wr:=fun h=>hdf (W.sub _ h)
 intro k
 induction k with
 | zero=>
   intro j s ix t hk hj hst hd hp hR
   have hin:j=n:=by omega
   subst hin
   refine codeAny_builtin F.entry_dict_update_loop ?_
   rw [Around.under_plainId F.plain_dict_update_loop _]
   show wpAny _ A.in1 (pyNext (.ref I) >>=_) _ _ s
   refine wpAny_bind (W.done s _ _ hst fun h' tk hk'=>?_)
   show wpAny _ A.in1 (Builtin.Dict.addKeywords d [] >>=_) _ _ _
   refine wpAny_bind (wpAny_pure (wpAny_pure ?_))
   rw [← hn,List.take_length] at hd
   exact hR h' tk (AQ hd fun o e=>hk' d o hdw e) fun b o hb _ e=>hk' b o hb e
 | succ k ih=>
   intro j s ix t hk hj hst hd hp hR
   have hlt:j < n:=by omega
   refine codeAny_builtin F.entry_dict_update_loop ?_
   rw [Around.under_plainId F.plain_dict_update_loop _]
   show wpAny _ A.in1 (pyNext (.ref I) >>=_) _ _ s
   refine wpAny_bind (W.item j s _ _ hlt hst fun v h' tk hPv hst' hk'=>?_)
   have ev:=hP j v hlt hPv
   subst ev
   obtain ⟨kv,hkv⟩:∃ kv,more[j]? =some kv:=⟨_,List.getElem?_eq_getElem (by omega)⟩
   obtain ⟨key,ob,m,ht,hcl,hda,hkey⟩:=hp j kv hkv
   have ht':=hk' _ _ (htw j hlt).1 ht
   show wpAny _ A.in1 (holding [Value.ref (tup j)] _ >>=_) _ _ _
   refine wpAny_bind (wpAny_holding (wpAny_bind (wpAny_tryCatch ?_)))
   unfold Builtin.Dict.pairItems
   refine wpAny_bind (wpAny_typeOf (T:="tuple") ⟨_,ht',hcl⟩ ?_)
   rw [if_pos (by decide)]
   refine wpAny_bind (wpAny_seqItems ht' hda ?_)
   refine wpAny_pure ?_
   show wpAny _ A.in1 (holding [key,kv.2] (dictSet d key kv.2)) _ _ _
   have hd':h'.DictOf knd d (merged [] (more.take j)):=AQ hd fun o e=>hk' d o hdw e
   refine wpAny_holding (wpAny_dictSet_pairs (s:={s with heap:=h',toks:=tk}) hkey hd' (fun h2 hd2 hs2=>?_) (hsz:=by have:=merged_length_le [] (more.take j);rw [List.length_nil,List.length_take] at this;omega))
   rw [← merged_take_succ [] more j kv hkv] at hd2
   have kp:∀ b o,b∉wr→b≠d→s.heap.get? b=some o→h2.get? b=some o:=fun b o hb hbd e=>(hs2.2 b hbd).trans (hk' b o hb e)
   refine wpAny_pure ⟨plainId_quiet F.plain_dict_update_loop _,ih (j + 1) _ _ _ (by omega) hlt (W.frame _ _ _ hst' fun b hb o e=>?_) hd2 (fun i kv' hi=>?_) fun h3 tk3 hd3 hk3=>?_⟩
   ·exact (hs2.2 b fun z=>hdf (z ▸ hb)).trans e
   ·obtain ⟨key',o',m',e',x'⟩:=hp i kv' hi
    have hi':i < n:=by rw [← hn];exact (List.getElem?_eq_some_iff.mp hi).1
    exact ⟨key',o',m',kp _ _ (htw i hi').1 (htw i hi').2 e',x'⟩
   ·exact hR h3 tk3 hd3 fun b o hb hbd e=>hk3 b o hb hbd (kp b o hb hbd e)
end
section
variable {prog:Program} {w:World} {K:Type} [DecidableEq K] {knd:KeyKind prog w K} {A:Around} {E:Value→Shared→Prop} {s:Shared}
theorem Bv {l:Addr} {its:Array Value} {c:Nat} {more:List (K×Value)} {tup:Nat→Addr} {Q:Value→Shared→Prop} (hA:A.handled=none) (hl:s.heap.get? l=some {cls:= .type "list",data:= .seq its c})
  (hn:more.length=its.size) (hsz:its.size≤sizeLine) (hit:∀ (i:Nat) (v:Value),its[i]? =some v→v= .ref (tup i)) (hp:∀ i kv,more[i]? =some kv→aaD knd s.heap (tup i) kv) (nd:(more.map (·.1)).Nodup)
  (h:∀ h' tk,h'.DictOf knd s.heap.objs.size more→(∀ b o,s.heap.get? b=some o→h'.get? b=some o)→Q (.ref s.heap.objs.size) {s with heap:=h',toks:=tk}):
  wpAny (model prog w) A (call (.type "dict") [.ref l]) Q E s:=by
 refine callType_codes (Q₁:=fun obj s₁=>obj= .ref s.heap.objs.size∧s₁={s with heap:=s.heap.push {cls:= .type "dict",data:= .dict #[]}}) F.kt_called_dict (F.kt_typeCall_dict_1 _) F.entry_dict_init (kt_code_dict_new _ ⟨rfl,rfl⟩) ?_
 rintro obj s₁ ⟨rfl,rfl⟩
 have hnew:(s.heap.push {cls:= .type "dict",data:= .dict #[]}).DictOf knd s.heap.objs.size []:=Heap.DictOf.new s.heap
 have hl':(s.heap.push {cls:= .type "dict",data:= .dict #[]}).get? l=some {cls:= .type "list",data:= .seq its c}:=Heap.get?_push_of_some _ hl
 refine ⟨hnew.typeIs,F.args_dict_init_2 _ _,?_⟩
 unfold Builtin.«dict.__init__»
 refine wpAny_bind ?_
 unfold Builtin.Dict.selfAndRest
 refine wpAny_bind (wpAny_notOrdered_dict hnew.typeIs ?_)
 show wpAny _ _ (pure (s.heap.objs.size,[Value.ref l])) _ _ _
 refine wpAny_pure ?_
 show wpAny _ _ (Builtin.Dict.updateFrom "dict.__init__" s.heap.objs.size (.ref l) [] .none) _ _ _
 unfold Builtin.Dict.updateFrom
 refine wpAny_bind (wpAny_typeOf (T:="list") ⟨_,hl',rfl⟩ ?_)
 rw [if_pos (by decide)]
 refine wpAny_bind (Mr hl' F.list_keys_none (by decide) hA fun h' tk hk=>?_)
 rw [if_pos (show (none:Option Value).isNone=true from rfl)]
 have hl2:=hk _ _ hl'
 have hlt:l < s.heap.objs.size:=Heap.lt_size hl
 have hd2:h'.DictOf knd s.heap.objs.size []:=AQ hnew fun o e=>hk _ _ e
 have hds:s.heap.objs.size < h'.objs.size:=by obtain ⟨o,_,_,ho,_⟩:=hd2;exact Heap.lt_size ho
 have htl:∀ i,i < its.size→tup i < s.heap.objs.size:=fun i hi=>by
  obtain ⟨kv,hkv⟩:∃ kv,more[i]? =some kv:=⟨_,List.getElem?_eq_getElem (by omega)⟩
  obtain ⟨_,_,_,e,_⟩:=hp i kv hkv
  exact Heap.lt_size e
 refine wpAny_bind (wpAny_rule ?_)
 refine wpAny_bind (wpAny_pyIter_list (items:=its) ⟨_,hl2,rfl,c,rfl⟩ ?_)
 have W:=Walks.list (prog:=prog) (w:=w) (A:=A.in1.in1) hA h'.objs.size l (Nat.ne_of_lt (Nat.lt_trans hlt hds)) its
 refine wpAny_pure ⟨plainId_quiet F.plain_dict_update_loop _,rH (knd:=knd) (A:=A.in1) W s.heap.objs.size ?_ more hn hsz tup (fun i hi=>⟨?_,?_⟩) (fun i v _ e=>hit i v e) _ 0 _ _ _ rfl (Nat.zero_le _) ⟨⟨_,Heap.get?_push_size _ rfl,rfl,rfl⟩,?_⟩ ?_ (fun i kv hi=>?_) fun h3 tk3 hd3 hk3=>?_⟩
 ·intro hm
  rcases List.mem_cons.mp hm with e | hm
  ·exact absurd e (Nat.ne_of_lt hds)
  ·exact absurd (List.mem_singleton.mp hm).symm (Nat.ne_of_lt hlt)
 ·intro hm
  exact absurd (List.mem_singleton.mp hm) (Nat.ne_of_lt (Nat.lt_trans (htl i hi) hds))
 ·exact Nat.ne_of_lt (htl i hi)
 ·exact ⟨_,Heap.get?_push_of_some _ hl2,rfl,c,rfl⟩
 ·exact hd2.push _
 ·obtain ⟨key,ob,m,e,x⟩:=hp i kv hi
  exact ⟨key,ob,m,Heap.get?_push_of_some _ (hk _ _ (Heap.get?_push_of_some _ e)),x⟩
 ·rw [merged_nil_of_nodup more nd] at hd3
  refine ⟨rfl,h h3 tk3 hd3 fun b o e=>hk3 b o (fun hm=>?_) ?_ (Heap.get?_push_of_some _ (hk _ _ (Heap.get?_push_of_some _ e)))⟩
  ·exact absurd (List.mem_singleton.mp hm) (Nat.ne_of_lt (Nat.lt_trans (Heap.lt_size e) hds))
  ·exact Nat.ne_of_lt (Heap.lt_size e)
end
end PySem
namespace L2
open PySem PySem.Spec PyProof.Rows
noncomputable def ZT:List V→Hp→VK→Prop:=fun xs H Q=>∃ (l:Addr) (ps:List (Addr×Key×V)),xs=[.ref l]∧H l=some (.lst (ps.map fun q=>V.ref q.1))∧(∀ q∈ps,H q.1=some (.tup [kV q.2.1,q.2.2]))∧(ps.map fun q=>q.2.1).Nodup∧
 ∀ d,H d=none→Q (.ref d) (upd H d (.dK (ps.map (·.2))))
section
variable {X:Cx}
theorem Fo (hc:X.calm=true):rP X (.type "dict") ZT:=by
 intro pins s σ H xs us Q I r h
 obtain ⟨l,ps,rfl,hl,ht,nd,q⟩:=h
 obtain ⟨u,rfl,rx⟩:=yL r
 cases rx
 obtain ⟨z,its,c,rv,ll,el⟩:=I.lstM hl
 rw [List.length_map] at z ll
 have get:∀ (i:Nat) q,ps[i]? =some q→its[i]? =some (.ref q.1)∧∃ key v o n,s.heap.get? q.1=some o∧o.cls= .type "tuple"∧o.data= .seq #[key,v] n∧(ff X.prog X.w).is q.2.1 key=true∧RelV q.2.2 v:=fun i q hq=>by
  obtain ⟨u,hu,ru⟩:=Vals.get (x:=V.ref q.1) rv (by rw [List.getElem?_map,hq];rfl)
  cases ru
  refine ⟨hu,?_⟩
  have e:=ht q (List.mem_of_getElem? hq)
  obtain ⟨_,us,rt,it⟩:=I.hok _ _ e
  obtain ⟨a,b,rfl,ra,rb⟩:=Vals.two rt
  obtain ⟨o,ho,hcl,n,hda⟩:=it
  exact ⟨a,b,o,n,ho,hcl,hda,Rt ra,rb⟩
 obtain ⟨vs,hvs⟩:∃ vs:List (Key×Value),vs=(List.range ps.length).map fun i=>match ps[i]? with
  | some q=>(q.2.1,match s.heap.get? q.1 with | some o=>(match o.data with | .seq xs _=>xs.getD 1 .none | _=> .none) | none=> .none)
  | none=>(.inl 0,.none):=⟨_,rfl⟩
 have hv:∀ (i:Nat) q,ps[i]? =some q→∃ key v o n,vs[i]? =some (q.2.1,v)∧s.heap.get? q.1=some o∧o.cls= .type "tuple"∧o.data= .seq #[key,v] n∧(ff X.prog X.w).is q.2.1 key=true∧RelV q.2.2 v:=fun i q hq=>by
  obtain ⟨_,key,v,o,n,e,e2,e3,k,rv⟩:=get i q hq
  have hi:=(List.getElem?_eq_some_iff.mp hq).1
  refine ⟨key,v,o,n,?_,e,e2,e3,k,rv⟩
  rw [hvs,List.getElem?_map,List.getElem?_range hi]
  show some (match ps[i]? with | some q=>_ | none=>_)=_
  rw [hq]
  show some (q.2.1,match s.heap.get? q.1 with | some o=>_ | none=>_)=_
  rw [e]
  show some (q.2.1,match o.data with | .seq xs _=>_ | _=>_)=_
  rw [e3];rfl
 have lv:vs.length=ps.length:=by rw [hvs,List.length_map,List.length_range]
 clear hvs
 have keys:vs.map (·.1)=ps.map fun q=>q.2.1:=by
  apply List.ext_getElem?;intro i
  rw [List.getElem?_map,List.getElem?_map]
  cases hq:ps[i]? with
  | none=>rw [List.getElem?_eq_none (by rw [lv];exact List.getElem?_eq_none_iff.mp hq)];rfl
  | some q=>obtain ⟨_,v,_,_,e,_⟩:=hv i q hq;rw [e];rfl
 have kv:KV (ps.map (·.2)) vs:=by
  refine IB (by rw [List.length_map,lv]) fun i a b ha hb=>?_
  rw [List.getElem?_map] at ha
  obtain ⟨q,hq,rfl⟩:=Option.map_eq_some_iff.mp ha
  obtain ⟨_,v,_,_,e,_,_,_,_,rv⟩:=hv i q hq
  rw [e] at hb
  cases hb
  exact ⟨rfl,rv⟩
 refine Bv (knd:=ff X.prog X.w) (its:=its.toArray) (c:=c) (more:=vs) (tup:=fun i=>match ps[i]? with | some q=>q.1 | none=>0) (I.ok.hd hc) el (by rw [lv,ll];simp) (by simpa using (ll ▸ z)) (fun i v e=>?_) (fun i kv' e=>?_) (by rw [keys];exact nd) fun h' tk hd hk=>?_
 ·have hi:i < ps.length:=by rw [ll];have:=(Array.getElem?_eq_some_iff.mp e).1;simpa using this
  obtain ⟨q',hq⟩:∃ q',ps[i]? =some q':=⟨_,List.getElem?_eq_getElem hi⟩
  have e2:=(get i q' hq).1
  have e:its[i]? =some v:=by simpa using e
  rw [e2] at e
  cases e
  rw [hq]
 ·have hi:i < ps.length:=by rw [← lv];exact (List.getElem?_eq_some_iff.mp e).1
  obtain ⟨q',hq⟩:∃ q',ps[i]? =some q':=⟨_,List.getElem?_eq_getElem hi⟩
  obtain ⟨key,v,o,n,e1,e2,e3,e4,e5,_⟩:=hv i q' hq
  rw [e1] at e
  cases e
  rw [hq]
  exact ⟨key,o,n,e2,e3,e4,e5⟩
 ·refine ⟨.ref s.heap.objs.size,_,I.laid (t':=tk) hk (Nat.le_refl _) (show gI X.prog X.w _ h' _ (.dK (ps.map (·.2))) from ⟨by rw [List.length_map];exact z,beq_eq_false_iff_ne.mpr fun e=>absurd e.symm (Nat.ne_of_lt I.big),vs,kv,hd⟩),rfl,q _ (I.hok.fresh (Nat.le_refl _))⟩
end
section
variable {H:Hp} {Q:VK}
theorem TW {l:Addr} {ps:List (Addr×Key×V)} (e:H l=some (.lst (ps.map fun q=>V.ref q.1))) (ht:∀ q∈ps,H q.1=some (.tup [kV q.2.1,q.2.2])) (nd:(ps.map fun q=>q.2.1).Nodup) (h:∀ d H2,H d=none→Same H H2→H2 d=some (.dK (ps.map (·.2)))→Q (.ref d) H2):ZT [.ref l] H Q:=⟨l,ps,rfl,e,ht,nd,jl h⟩
end
end L2
set_option autoImplicit false
namespace M
theorem ab7 (a b:Nat):(a||| b) / 2=a / 2||| b / 2:=by
 apply Nat.eq_of_testBit_eq;intro i
 simp [Nat.testBit_div_two,Nat.testBit_or]
theorem YZ (a b:Nat):(a&&&b) / 2=a / 2&&&b / 2:=by
 apply Nat.eq_of_testBit_eq;intro i
 simp [Nat.testBit_div_two,Nat.testBit_and]
theorem YY (a b:Nat):(a^^^b) / 2=a / 2^^^b / 2:=by
 apply Nat.eq_of_testBit_eq;intro i
 simp [Nat.testBit_div_two,Nat.testBit_xor]
theorem or_sum (a:Nat):∀ b:Nat,a||| b=(a^^^b) + (a&&&b):=by
 induction a using Nat.strongRecOn with
 | ind a ih=>
   intro b
   by_cases ha:a=0
   ·subst ha;simp
   ·have h:=ih (a / 2) (by omega) (b / 2)
    have e1:=Nat.div_add_mod (a||| b) 2
    have e2:=Nat.div_add_mod (a^^^b) 2
    have e3:=Nat.div_add_mod (a&&&b) 2
    rw [ab7] at e1
    rw [YY] at e2
    rw [YZ] at e3
    have m1:(a||| b) % 2=(a % 2||| b % 2):=by have:=@Nat.or_mod_two_pow a b 1;simpa using this
    have m2:(a^^^b) % 2=(a % 2^^^b % 2):=by have:=@Nat.xor_mod_two_pow a b 1;simpa using this
    have m3:(a&&&b) % 2=(a % 2&&&b % 2):=by have:=@Nat.and_mod_two_pow a b 1;simpa using this
    have c:(a % 2||| b % 2)=(a % 2^^^b % 2) + (a % 2&&&b % 2):=by
     rcases Nat.mod_two_eq_zero_or_one a with h1 | h1<;>rcases Nat.mod_two_eq_zero_or_one b with h2 | h2<;>rw [h1,h2]<;>decide
    omega
noncomputable def pb:Nat→Nat→Bool
 | 0,_=>false
 | w + 1,m=>(m.testBit w)^^(pb w m)
theorem Z6 (w a b:Nat):pb w (a^^^b)=(pb w a^^pb w b):=by
 induction w with
 | zero=>rfl
 | succ w ih=>
   simp only [pb,Nat.testBit_xor,ih]
   cases a.testBit w<;>cases b.testBit w<;>cases pb w a<;>cases pb w b<;>rfl
theorem Oz (h j m:Nat):pb (h + j) m=(pb h m^^pb j (m>>>h)):=by
 induction j with
 | zero=>simp [pb]
 | succ j ih=>
   rw [Nat.add_succ]
   simp only [pb,ih,Nat.testBit_shiftRight]
   cases m.testBit (h + j)<;>cases pb h m<;>cases pb j (m>>>h)<;>rfl
theorem Z7 (h m:Nat):pb h (m % 2 ^ h)=pb h m:=by
 suffices ∀ j,j≤h→pb j (m % 2 ^ h)=pb j m from this h (Nat.le_refl h)
 intro j
 induction j with
 | zero=>intro _;rfl
 | succ j ih=>
   intro hj
   simp only [pb]
   rw [ih (by omega),Nat.testBit_mod_two_pow]
   simp [show j < h by omega]
theorem abC (w j m:Nat) (hm:m < 2 ^ w):pb (w + j) m=pb w m:=by
 rw [Oz,Nat.shiftRight_eq_div_pow,Nat.div_eq_of_lt hm]
 have:∀ j,pb j 0=false:=by intro j;induction j with
  | zero=>rfl
  | succ j ih=>simp [pb,ih]
 rw [this];simp
theorem pb_up {w w' m:Nat} (hm:m < 2 ^ w) (h:w≤w'):pb w' m=pb w m:=by
 obtain ⟨j,rfl⟩:=Nat.exists_eq_add_of_le h
 exact abC w j m hm
theorem pb_fold (w h m:Nat) (hw:h≤w) (hm:m < 2 ^ w) (h2:w≤2 * h):pb h ((m>>>h)^^^(m&&&(2 ^ h - 1)))=pb w m:=by
 rw [Nat.and_two_pow_sub_one_eq_mod,Z6,Z7]
 obtain ⟨j,rfl⟩:=Nat.exists_eq_add_of_le hw
 rw [Oz]
 have hlt:m>>>h < 2 ^ j:=by
  rw [Nat.shiftRight_eq_div_pow]
  exact Nat.div_lt_of_lt_mul (by rw [← Nat.pow_add];exact hm)
 rw [pb_up hlt (show j≤h by omega)]
 cases pb j (m>>>h)<;>cases pb h m<;>rfl
theorem fold_lt (w h m:Nat) (hm:m < 2 ^ w) (h2:w≤2 * h):(m>>>h)^^^(m&&&(2 ^ h - 1)) < 2 ^ h:=by
 apply Nat.xor_lt_two_pow
 ·rw [Nat.shiftRight_eq_div_pow]
  refine Nat.div_lt_of_lt_mul ?_
  rw [← Nat.pow_add]
  exact Nat.lt_of_lt_of_le hm (Nat.pow_le_pow_right (by decide) (by omega))
 ·rw [Nat.and_two_pow_sub_one_eq_mod]
  exact Nat.mod_lt _ (Nat.two_pow_pos h)
noncomputable def pl (w m:Nat):List Nat:=(List.range w).filter m.testBit
theorem pl_up {w w' m:Nat} (hm:m < 2 ^ w) (h:w≤w'):pl w' m=pl w m:=by
 obtain ⟨j,rfl⟩:=Nat.exists_eq_add_of_le h
 unfold pl
 rw [List.range_add,List.filter_append]
 have:List.filter m.testBit (List.map (fun x=>w + x) (List.range j))=[]:=by
  rw [List.filter_eq_nil_iff]
  intro a ha
  obtain ⟨k,_,rfl⟩:=List.mem_map.mp ha
  rw [Nat.testBit_lt_two_pow (Nat.lt_of_lt_of_le hm (Nat.pow_le_pow_right (by decide) (Nat.le_add_right w k)))]
  simp
 rw [this,List.append_nil]
noncomputable def xm (ps:List Nat):Nat:=ps.foldl (fun a p=>a^^^2 ^ p) 0
theorem aaN (ps:List Nat):∀ (a k:Nat),(ps.foldl (fun a p=>a^^^2 ^ p) a).testBit k=(a.testBit k^^(ps.count k % 2 == 1)):=by
 induction ps with
 | nil=>intro a k;simp
 | cons p ps ih=>
   intro a k
   rw [List.foldl_cons,ih,Nat.testBit_xor,Nat.testBit_two_pow,List.count_cons]
   by_cases h:p=k
   ·subst h
    simp only [decide_true,beq_self_eq_true,if_true]
    rcases Nat.mod_two_eq_zero_or_one (List.count p ps) with z | z
    ·have e:(List.count p ps + 1) % 2=1:=by omega
     rw [z,e];cases a.testBit p<;>rfl
    ·have e:(List.count p ps + 1) % 2=0:=by omega
     rw [z,e];cases a.testBit p<;>rfl
   ·have hb:(p == k)=false:=beq_eq_false_iff_ne.mpr h
    simp [hb,h]
theorem ac1 (ps:List Nat) (k:Nat):(xm ps).testBit k=(ps.count k % 2 == 1):=by
 unfold xm;rw [aaN];simp
theorem sW (w k:Nat) (p:Nat→Bool):((List.range w).filter p).count k=if k < w∧p k=true then 1 else 0:=by
 have nd:((List.range w).filter p).Nodup:=List.Pairwise.filter p List.nodup_range
 by_cases h:k < w∧p k=true
 ·rw [if_pos h]
  have hm:k∈(List.range w).filter p:=List.mem_filter.mpr ⟨List.mem_range.mpr h.1,h.2⟩
  exact List.Nodup.count nd |>.trans (by rw [if_pos hm])
 ·rw [if_neg h]
  refine List.count_eq_zero.mpr fun hm=>h ?_
  obtain ⟨a,b⟩:=List.mem_filter.mp hm
  exact ⟨List.mem_range.mp a,b⟩
theorem Yc (w m k:Nat):(pl w m).count k=if k < w∧m.testBit k=true then 1 else 0:=sW w k m.testBit
theorem xm_ext {w m:Nat} {ps:List Nat} (hm:m < 2 ^ w) (h:∀ k,ps.count k % 2=(pl w m).count k % 2):xm ps=m:=by
 apply Nat.eq_of_testBit_eq;intro k
 rw [ac1,h,Yc]
 by_cases hk:k < w
 ·cases e:m.testBit k<;>simp [hk,e]
 ·rw [Nat.testBit_lt_two_pow (Nat.lt_of_lt_of_le hm (Nat.pow_le_pow_right (by decide) (Nat.not_lt.mp hk)))]
  simp [hk]
noncomputable def Span:List Nat→Nat→Prop
 | [],x=>x=0
 | r::rs,x=>Span rs x∨Span rs (x^^^r)
noncomputable def sm:List Nat→Nat→Nat
 | [],_=>0
 | r::rs,p=>(if p.testBit 0 then r else 0)^^^sm rs (p / 2)
theorem xor_lt_pow {x y t:Nat} (h1:x < 2 ^ t) (h2:y < 2 ^ t):x^^^y < 2 ^ t:=Nat.xor_lt_two_pow h1 h2
noncomputable def Fre (rows:List Nat) (i:Nat):Prop:=i < rows.length∧¬ Span (rows.take i) (rows.getD i 0)
noncomputable def Frs (rows:List Nat) (q:Nat):Prop:=∀ i,q.testBit i=true→Fre rows i
structure Ech (es:List (Nat×Nat)) (rows:List Nat):Prop where
 nz:∀ e∈es,e.1≠0
 lt:∀ e∈es,e.2 < 2 ^ rows.length
 sm:∀ e∈es,sm rows e.2=e.1
 nd:(es.map fun e=>e.1.log2).Nodup
 all:∀ y,Span rows y→y≠0→∃ e∈es,e.1.log2=y.log2
 sub:∀ e∈es,Frs rows e.2
noncomputable def tt (p:Prop):Bool:=@decide p (Classical.propDecidable p)
noncomputable def fr (rows:List Nat):List Nat:=(List.range rows.length).filter fun i=> !tt (Span (rows.take i) (rows.getD i 0))
structure Nul (nms rows:List Nat):Prop where
 lt:∀ x∈nms,x < 2 ^ rows.length
 nz:∀ x∈nms,x≠0
 sm:∀ x∈nms,sm rows x=0
 pw:nms.Pairwise fun a b=>a.log2 < b.log2
 len:nms.length + (fr rows).length=rows.length
noncomputable def Inj (ws:List Nat):Prop:=∀ p,p < 2 ^ ws.length→sm ws p=0→p=0
structure Sums (ks rows:List Nat):Prop where
 nd:ks.Nodup
 all:∀ x,x∈ks↔Span rows x
theorem pl_next (i m:Nat):pl (i + 1) m=pl i m++(if m.testBit i then [i] else []):=by
 unfold pl
 rw [List.range_succ,List.filter_append]
 congr 1
 by_cases h:m.testBit i=true
 ·rw [if_pos h];simp [h]
 ·rw [if_neg h];simp [h]
theorem pl_le (i m:Nat):(pl i m).length≤i:=by
 have:=List.length_filter_le m.testBit (List.range i)
 rw [List.length_range] at this
 exact this
theorem pl_lt {w m n:Nat} (h:m < 2 ^ n):∀ x∈pl w m,x < n:=by
 intro x hx
 have hb:=(List.mem_filter.mp hx).2
 refine Nat.lt_of_not_le fun hn=>?_
 rw [Nat.testBit_lt_two_pow (Nat.lt_of_lt_of_le h (Nat.pow_le_pow_right (by decide) hn))] at hb
 cases hb
noncomputable def xs (rows ps:List Nat):Nat:=ps.foldl (fun a k=>a^^^rows.getD k 0) 0
noncomputable abbrev od (m:Nat):Bool:=pb 1000 m
theorem od_xor (a b:Nat):od (a^^^b)=(od a^^od b):=Z6 1000 a b
theorem and_xor (m a b:Nat):m&&&(a^^^b)=(m&&&a)^^^(m&&&b):=by
 apply Nat.eq_of_testBit_eq;intro i
 simp only [Nat.testBit_and,Nat.testBit_xor]
 cases m.testBit i<;>simp
theorem FQ:∀ w:Nat,pb w 0=false
 | 0=>rfl
 | w + 1=>by show ((0:Nat).testBit w^^pb w 0)=false;rw [FQ w];simp
theorem pb_pow {w t:Nat} (h:t < w):pb w (2 ^ t)=true:=by
 rw [pb_up (w:=t + 1) (Nat.pow_lt_pow_right (by decide) (by omega)) h]
 show ((2 ^ t).testBit t^^pb t (2 ^ t))=true
 have e:pb t (2 ^ t)=false:=by
  rw [← Z7,Nat.mod_self,FQ]
 rw [e,Nat.testBit_two_pow_self];rfl
theorem abz (t y:Nat):2 ^ t&&&y=if y.testBit t then 2 ^ t else 0:=by
 apply Nat.eq_of_testBit_eq;intro i
 rw [Nat.testBit_and,Nat.testBit_two_pow]
 by_cases h:t=i
 ·subst h
  cases y.testBit t<;>simp
 ·cases y.testBit t<;>simp [h,Nat.testBit_two_pow]
theorem od_pow {t:Nat} (h:t < 1000) (y:Nat):od (2 ^ t&&&y)=y.testBit t:=by
 rw [abz]
 cases y.testBit t with
 | true=>rw [if_pos rfl];exact pb_pow h
 | false=>rw [if_neg Bool.false_ne_true];exact FQ 1000
theorem od_zero:od 0=false:=FQ 1000
structure Bar (rows:List Nat) (b m:Nat):Prop where
 ev:∀ y,Span rows y→od (m&&&y)=false
 bit:m.testBit b=true
 low:∀ k,k < b→m.testBit k=false
 oth:∀ k,k≠b→(∀ y,Span rows y→y≠0→y.log2≠k)→m.testBit k=false
 lt:∀ W,(∀ r∈rows,r < 2 ^ W)→b < W→m < 2 ^ W
structure BarI (es:List (Nat×Nat)) (ts:List Nat) (b m:Nat):Prop where
 ev:∀ e∈es,e.1.log2∈ts→od (m&&&e.1)=false
 bit:m.testBit b=true
 low:∀ k,k < b→m.testBit k=false
 oth:∀ k,k≠b→(∀ e∈es,e.1.log2≠k)→m.testBit k=false
 lt:∀ W,(∀ e∈es,e.1 < 2 ^ W)→b < W→m < 2 ^ W
noncomputable def cm (a b:Nat):Nat:=if b=0 then 0 else (if b % 2=1 then a else 0)^^^2 * cm a (b / 2)
termination_by b
decreasing_by omega
noncomputable def Dv (d x:Nat):Prop:=∃ q,cm q d=x
structure Rm (d x r:Nat):Prop where
 lt:r < 2 ^ d.log2
 dv:Dv d (x^^^r)
structure Ord (d e:Nat):Prop where
 pos:1≤e
 one:Rm d (2 ^ e) 1
 least:∀ j,1≤j→j < e→¬ Rm d (2 ^ j) 1
 le:e≤2 ^ d.log2
noncomputable def bn (b:Bool):Nat:=if b then 1 else 0
noncomputable def pk (s:Nat→Bool) (t:Nat):Nat→Nat
 | 0=>0
 | L + 1=>pk s t L^^^(if s (t + L) then 2 ^ L else 0)
theorem pk_lt (s:Nat→Bool) (t:Nat):∀ L,pk s t L < 2 ^ L
 | 0=>Nat.one_pos
 | L + 1=>by
   have ih:=pk_lt s t L
   refine xor_lt_pow (Nat.lt_of_lt_of_le ih (Nat.pow_le_pow_right (by decide) (by omega))) ?_
   split
   ·exact Nat.pow_lt_pow_right (by decide) (by omega)
   ·exact Nat.two_pow_pos _
theorem pk_bit (s:Nat→Bool) (t:Nat):∀ L p,(pk s t L).testBit p=(decide (p < L)&&s (t + p))
 | 0,p=>by simp [pk]
 | L + 1,p=>by
   rw [pk,Nat.testBit_xor,pk_bit s t L p]
   rcases Nat.lt_trichotomy p L with h | h | h
   ·have e:(if s (t + L)=true then 2 ^ L else 0:Nat).testBit p=false:=by
     cases s (t + L)<;>simp [Nat.testBit_two_pow];omega
    rw [e];simp [h,show p < L + 1 by omega]
   ·subst h
    cases hs:s (t + p)<;>simp [Nat.testBit_two_pow_self]
   ·have e:(if s (t + L)=true then 2 ^ L else 0:Nat).testBit p=false:=by
     cases s (t + L)<;>simp [Nat.testBit_two_pow];omega
    rw [e];simp [show ¬ p < L by omega,show ¬ p < L + 1 by omega]
theorem Oy {s u:Nat→Bool} {t v:Nat}:∀ {L:Nat},(∀ p,p < L→s (t + p)=u (v + p))→pk s t L=pk u v L
 | 0,_=>rfl
 | L + 1,h=>by rw [pk,pk,Oy fun p hp=>h p (by omega),h L (by omega)]
noncomputable def lf (G:Nat):Nat→(Nat→Bool)→Nat→Bool
 | 0,_,_=>false
 | L + 1,s,t=>lf G L s t^^(G.testBit L&&s (t + L))
noncomputable def tr (as:List Nat) (x:Nat):Nat:=pk (fun k=>od (as.getD k 0&&&x)) 0 as.length
noncomputable def lm (L G:Nat):List Nat:=(List.range (L - 1)).map (fun p=>2 ^ (p + 1))++(if 0 < L then [G] else [])
noncomputable def tr2 (ps:List (Nat×Nat)) (x r:Nat):Nat:=pk (fun k=>od ((ps.getD k (0,0)).1&&&x)^^od ((ps.getD k (0,0)).2&&&r)) 0 ps.length
theorem tr2_bit (ps:List (Nat×Nat)) (x r k:Nat):(tr2 ps x r).testBit k=(decide (k < ps.length)&&(od ((ps.getD k (0,0)).1&&&x)^^od ((ps.getD k (0,0)).2&&&r))):=by unfold tr2;rw [pk_bit,Nat.zero_add]
theorem ac5 (ps:List (Nat×Nat)) (x r:Nat):tr2 ps x r < 2 ^ ps.length:=pk_lt _ _ _
theorem tr2_snoc (ps:List (Nat×Nat)) (p:Nat×Nat) (x r:Nat):tr2 (ps++[p]) x r=tr2 ps x r^^^(if (od (p.1&&&x)^^od (p.2&&&r)) then 2 ^ ps.length else 0):=by
 unfold tr2
 rw [List.length_append,List.length_singleton,pk,Nat.zero_add]
 have e1:(ps++[p]).getD ps.length (0,0)=p:=by rw [List.getD_eq_getElem?_getD,List.getElem?_append_right (Nat.le_refl _),Nat.sub_self];rfl
 rw [e1]
 have e2:pk (fun k=>od (((ps++[p]).getD k (0,0)).1&&&x)^^od (((ps++[p]).getD k (0,0)).2&&&r)) 0 ps.length=pk (fun k=>od ((ps.getD k (0,0)).1&&&x)^^od ((ps.getD k (0,0)).2&&&r)) 0 ps.length:=Oy fun k hk=>by
  rw [Nat.zero_add,List.getD_eq_getElem?_getD,List.getD_eq_getElem?_getD,List.getElem?_append_left hk]
 rw [e2]
theorem Tl (ps:List (Nat×Nat)) (x y r s:Nat):tr2 ps (x^^^y) (r^^^s)=tr2 ps x r^^^tr2 ps y s:=by
 apply Nat.eq_of_testBit_eq;intro i
 rw [Nat.testBit_xor,tr2_bit,tr2_bit,tr2_bit,and_xor,od_xor,and_xor,od_xor]
 cases decide (i < ps.length)<;>cases od ((ps.getD i (0,0)).1&&&x)<;>cases od ((ps.getD i (0,0)).1&&&y)<;>cases od ((ps.getD i (0,0)).2&&&r)<;>cases od ((ps.getD i (0,0)).2&&&s)<;>rfl
theorem Om (ps:List (Nat×Nat)):tr2 ps 0 0=0:=by
 apply Nat.eq_of_testBit_eq;intro i
 rw [tr2_bit,Nat.and_zero,Nat.and_zero,od_zero];simp
noncomputable def wst (ps:List (Nat×Nat)):Nat→List Nat→Nat
 | x,[]=>x
 | x,r::rs=>wst ps (tr2 ps x r) rs
noncomputable def wan (ps os:List (Nat×Nat)):Nat→List Nat→List Nat
 | _,[]=>[]
 | x,r::rs=>tr2 os x r::wan ps os (tr2 ps x r) rs
theorem wst_snoc (ps:List (Nat×Nat)) (r:Nat):∀ (rs:List Nat) (x:Nat),wst ps x (rs++[r])=tr2 ps (wst ps x rs) r
 | [],_=>rfl
 | _::rs,_=>wst_snoc ps r rs _
theorem wan_snoc (ps os:List (Nat×Nat)) (r:Nat):∀ (rs:List Nat) (x:Nat),wan ps os x (rs++[r])=wan ps os x rs++[tr2 os (wst ps x rs) r]
 | [],_=>rfl
 | _::rs,_=>congrArg (_::·) (wan_snoc ps os r rs _)
theorem wan_len (ps os:List (Nat×Nat)):∀ (rs:List Nat) (x:Nat),(wan ps os x rs).length=rs.length
 | [],_=>rfl
 | _::rs,_=>congrArg (· + 1) (wan_len ps os rs _)
theorem wst_lt {ps:List (Nat×Nat)}:∀ {rs:List Nat} {x:Nat},x < 2 ^ ps.length→wst ps x rs < 2 ^ ps.length
 | [],_,h=>h
 | r::rs,x,_=>wst_lt (rs:=rs) (ac5 ps x r)
theorem xm_snoc (qs:List Nat) (k:Nat):xm (qs++[k])=xm qs^^^2 ^ k:=by unfold xm;rw [List.foldl_append];rfl
theorem rev_ind {α:Type} {P:List α→Prop} (h0:P []) (h1:∀ l x,P l→P (l++[x])) (l:List α):P l:=by
 have:∀ l:List α,P l.reverse:=fun l=>by
  induction l with
  | nil=>exact h0
  | cons x l ih=>rw [List.reverse_cons];exact h1 _ _ ih
 have:=this l.reverse
 rwa [List.reverse_reverse] at this
noncomputable def pulse (i T:Nat):List Nat:=(List.range T).map fun t=>if t=0 then 2 ^ i else 0
theorem pulse_len (i T:Nat):(pulse i T).length=T:=by unfold pulse;rw [List.length_map,List.length_range]
theorem pulse_eq (i T:Nat):(2 ^ i::List.replicate T 0).take T=pulse i T:=by
 unfold pulse
 apply List.ext_getElem
 ·rw [List.length_take,List.length_cons,List.length_replicate,List.length_map,List.length_range];omega
 ·intro j h1 h2
  rw [List.getElem_map,List.getElem_range,List.getElem_take]
  cases j with
  | zero=>rfl
  | succ j=>rw [List.getElem_cons_succ,List.getElem_replicate];rfl
theorem pulse_lt {i m:Nat} (h:i < m) (T:Nat):∀ r∈pulse i T,r < 2 ^ m:=fun r hr=>by
 obtain ⟨t,_,rfl⟩:=List.mem_map.mp hr
 show (if t=0 then 2 ^ i else 0) < 2 ^ m
 split
 ·exact Nat.pow_lt_pow_right (by decide) h
 ·exact Nat.two_pow_pos _
noncomputable def bkI (A:List Nat) (s:Nat):Nat→Nat
 | 0=>s
 | i + 1=>sm A (bkI A s i)
noncomputable def zs (ps:List (Nat×Nat)) (x:Nat):Nat→Nat
 | 0=>x
 | n + 1=>tr2 ps (zs ps x n) 0
structure Kern (R ms:List Nat):Prop where
 inj:Inj ms
 lt:∀ m∈ms,m < 2 ^ R.length
 ev:∀ m∈ms,sm R m=0
 all:∀ z,z < 2 ^ R.length→sm R z=0→Span ms z
structure Lft (left rows:List Nat):Prop where
 nz:∀ x∈left,x≠0
 pw:left.Pairwise fun a b=>b.testBit a.log2=false
 sp:∀ x,Span left x↔Span rows x
 len:left.length=(fr rows).length
noncomputable def bm (rows:List Nat) (b:Nat):Nat:=Classical.epsilon (Bar rows b)
structure Fst (ms:List Nat) (p:Nat):Prop where
 lt:p < ms.length
 out:∀ k,k < p→¬ Span (ms.take k) (ms.getD k 0)
 in_:Span (ms.take p) (ms.getD p 0)
theorem Oi (ps os:List (Nat×Nat)):∀ (rs:List Nat) (a k:Nat),wan ps os a (rs.take k)=(wan ps os a rs).take k
 | [],_,k=>by simp [wan]
 | r::rs,a,0=>rfl
 | r::rs,a,k + 1=>by
   show tr2 os a r::wan ps os (tr2 ps a r) (rs.take k)=_
   rw [Oi ps os rs]
   rfl
noncomputable def act (ps:List (Nat×Nat)) (x Q:Nat):Nat:=if Q=0 then 0 else (if Q % 2=1 then x else 0)^^^act ps (tr2 ps x 0) (Q / 2)
termination_by Q
decreasing_by omega
structure Lst (ps:List (Nat×Nat)) (x P:Nat):Prop where
 nz:P≠0
 dv:∀ Q,act ps x Q=0↔Dv P Q
structure Rng (ps:List (Nat×Nat)) (x l n:Nat):Prop where
 pos:1≤n
 back:zs ps x (l + n)=zs ps x l
 least:∀ e,1≤e→e < n→zs ps x (l + e)≠zs ps x l
 early:1≤l→zs ps x (l - 1 + n)≠zs ps x (l - 1)
noncomputable def bl (A:List Nat) (s n:Nat):List Nat:=(List.range (n + 1)).map (bkI A s)
theorem Tj (ps os:List (Nat×Nat)):∀ (rs qs:List Nat) (x y:Nat),rs.length=qs.length→wan ps os (x^^^y) (List.zipWith (·^^^·) rs qs)=List.zipWith (·^^^·) (wan ps os x rs) (wan ps os y qs)
 | [],[],_,_,_=>rfl
 | [],_::_,_,_,h=>by simp at h
 | _::_,[],_,_,h=>by simp at h
 | r::rs,q::qs,x,y,h=>by
   have ih:=Tj ps os rs qs (tr2 ps x r) (tr2 ps y q) (by simpa using h)
   show tr2 os (x^^^y) (r^^^q)::wan ps os (tr2 ps (x^^^y) (r^^^q)) (List.zipWith (·^^^·) rs qs)=(tr2 os x r^^^tr2 os y q)::List.zipWith (·^^^·) (wan ps os (tr2 ps x r) rs) (wan ps os (tr2 ps y q) qs)
   rw [Tl,Tl,ih]
theorem Fs (ps os:List (Nat×Nat)) (qs:List Nat):∀ t,wan ps os 0 (List.replicate t 0++qs)=List.replicate t 0++wan ps os 0 qs
 | 0=>rfl
 | t + 1=>by
   show tr2 os 0 0::wan ps os (tr2 ps 0 0) (List.replicate t 0++qs)=0::(List.replicate t 0++wan ps os 0 qs)
   rw [Om,Om,Fs ps os qs t]
theorem wan_zeros (ps os:List (Nat×Nat)) (t:Nat):wan ps os 0 (List.replicate t 0)=List.replicate t 0:=by
 have:=Fs ps os [] t
 rwa [List.append_nil,show wan ps os 0 []=[] from rfl,List.append_nil] at this
theorem P2 {w n k:Nat} (h:k≤n):(pulse w n).take k=pulse w k:=by
 unfold pulse
 rw [← List.map_take,List.take_range,Nat.min_eq_left h]
theorem getD_at {l:List Nat} {i:Nat} (h:i < l.length):l.getD i 0=l[i]:=by rw [List.getD_eq_getElem?_getD,List.getElem?_eq_getElem h];rfl
theorem TR {R:List Nat} {t w n:Nat} (hn:R.length=n) (ht:t < n):R.set t (R.getD t 0^^^2 ^ w)=List.zipWith (·^^^·) R (List.replicate t 0++pulse w (n - t)):=by
 apply List.ext_getElem
 ·rw [List.length_set,List.length_zipWith,List.length_append,List.length_replicate,pulse_len];omega
 ·intro i h1 h2
  rw [List.length_set] at h1
  rw [List.getElem_set,List.getElem_zipWith]
  by_cases hi:i < t
  ·rw [if_neg (by omega),List.getElem_append_left (by rw [List.length_replicate];exact hi),List.getElem_replicate,Nat.xor_zero]
  ·rw [List.getElem_append_right (by rw [List.length_replicate];omega)]
   unfold pulse
   rw [List.getElem_map,List.getElem_range,List.length_replicate]
   by_cases e:t=i
   ·subst e;rw [if_pos rfl,if_pos (by omega),getD_at h1]
   ·rw [if_neg e,if_neg (by omega),Nat.xor_zero]
theorem aaQ (ps os:List (Nat×Nat)) {R:List Nat} {t w n:Nat} (hn:R.length=n) (ht:t < n):wan ps os 0 (R.set t (R.getD t 0^^^2 ^ w))=List.zipWith (·^^^·) (wan ps os 0 R) (List.replicate t 0++(wan ps os 0 (pulse w n)).take (n - t)):=by
 rw [TR hn ht]
 have:=Tj ps os R (List.replicate t 0++pulse w (n - t)) 0 0 (by rw [List.length_append,List.length_replicate,pulse_len];omega)
 rw [Nat.xor_self] at this
 rw [this,Fs,← Oi,P2 (by omega)]
noncomputable def mixl (A S:List Nat) (t k:Nat):List Nat:=(List.range A.length).map fun i=>A.getD i 0^^^(if t≤i∧i < k then S.getD (i - t) 0 else 0)
theorem mixl_len (A S:List Nat) (t k:Nat):(mixl A S t k).length=A.length:=by unfold mixl;rw [List.length_map,List.length_range]
theorem sF (A S:List Nat) (t k:Nat) {i:Nat} (h:i < A.length):(mixl A S t k)[i]? =some (A.getD i 0^^^(if t≤i∧i < k then S.getD (i - t) 0 else 0)):=by unfold mixl;rw [List.getElem?_map,List.getElem?_range h];rfl
theorem mixl_zero (A S:List Nat) (t:Nat):mixl A S t t=A:=by
 apply List.ext_getElem?
 intro i
 by_cases h:i < A.length
 ·rw [sF _ _ _ _ h,if_neg (by omega),Nat.xor_zero,getD_at h,List.getElem?_eq_getElem h]
 ·rw [List.getElem?_eq_none (by rw [mixl_len];omega),List.getElem?_eq_none (by omega)]
theorem mixl_set {A S:List Nat} {t k:Nat} (ht:t≤k) (hk:k < A.length):(mixl A S t k).set k (A.getD k 0^^^S.getD (k - t) 0)=mixl A S t (k + 1):=by
 apply List.ext_getElem?
 intro i
 by_cases h:i < A.length
 ·rw [List.getElem?_set,sF _ _ _ _ h,sF _ _ _ _ h,mixl_len]
  by_cases e:k=i
  ·subst e;rw [if_pos rfl,if_pos hk,if_pos ⟨ht,by omega⟩]
  ·rw [if_neg e]
   by_cases c:t≤i∧i < k
   ·rw [if_pos c,if_pos ⟨c.1,by omega⟩]
   ·rw [if_neg c,if_neg (by omega)]
 ·rw [List.getElem?_eq_none (by rw [List.length_set,mixl_len];omega),List.getElem?_eq_none (by rw [mixl_len];omega)]
theorem mixl_at {A S:List Nat} {t k:Nat} (hk:k < A.length):(mixl A S t k)[k]? =some (A.getD k 0):=by rw [sF _ _ _ _ hk,if_neg (by omega),Nat.xor_zero]
theorem YF {A S:List Nat} {t n:Nat} (hA:A.length=n) (hS:S.length=n) (ht:t≤n):mixl A S t n=List.zipWith (·^^^·) A (List.replicate t 0++S.take (n - t)):=by
 apply List.ext_getElem
 ·rw [mixl_len,List.length_zipWith,List.length_append,List.length_replicate,List.length_take];omega
 ·intro i h1 h2
  rw [mixl_len] at h1
  have e1:(mixl A S t n)[i]? =some ((mixl A S t n)[i]'(by rw [mixl_len];exact h1)):=List.getElem?_eq_getElem _
  rw [sF _ _ _ _ h1] at e1
  rw [← Option.some.inj e1,List.getElem_zipWith,getD_at h1]
  by_cases hi:i < t
  ·rw [if_neg (by omega),List.getElem_append_left (by rw [List.length_replicate];exact hi),List.getElem_replicate]
  ·rw [if_pos (by omega),List.getElem_append_right (by rw [List.length_replicate];omega)]
   congr 1
   rw [List.getElem_take,getD_at (by omega)]
   congr 1
   rw [List.length_replicate]
theorem wan_mixl (ps os:List (Nat×Nat)) {R:List Nat} {t w n:Nat} (hn:R.length=n) (ht:t < n):mixl (wan ps os 0 R) (wan ps os 0 (pulse w n)) t n=wan ps os 0 (R.set t (R.getD t 0^^^2 ^ w)):=by
 rw [aaQ ps os hn ht,YF (by rw [wan_len];exact hn) (by rw [wan_len,pulse_len]) (by omega)]
noncomputable def rowU (rows:List Nat) (t x:Nat):List Nat:=rows.take t++x::List.replicate (rows.length - t - 1) 0
theorem rowU_len {rows:List Nat} {t:Nat} (h:t < rows.length) (x:Nat):(rowU rows t x).length=rows.length:=by
 unfold rowU;rw [List.length_append,List.length_cons,List.length_replicate,List.length_take];omega
theorem rowU_set {rows:List Nat} {t:Nat} (h:t < rows.length) (x w:Nat):(rowU rows t x).set t ((rowU rows t x).getD t 0^^^2 ^ w)=rowU rows t (x^^^2 ^ w):=by
 have hl:(rows.take t).length=t:=by rw [List.length_take];omega
 have e:(rowU rows t x).getD t 0=x:=by
  unfold rowU
  rw [List.getD_eq_getElem?_getD,List.getElem?_append_right (by omega),hl,Nat.sub_self];rfl
 rw [e]
 unfold rowU
 rw [List.set_append_right _ _ (by omega),hl,Nat.sub_self];rfl
theorem rowU_zero (rows:List Nat) (t:Nat) (h:t < rows.length):rowU rows t 0=rows.take t++List.replicate (rows.length - t) 0:=by
 unfold rowU
 rw [show rows.length - t=(rows.length - t - 1) + 1 by omega,List.replicate_succ];rfl
theorem rowU_done {rows:List Nat} {t x:Nat} (h:rows[t]? =some x):rowU rows t x=rows.take (t + 1)++List.replicate (rows.length - (t + 1)) 0:=by
 unfold rowU
 rw [List.take_add_one,h,show rows.length - (t + 1)=rows.length - t - 1 by omega]
 simp
end M
namespace Sx
open PySem L2
noncomputable abbrev nat (k:Nat):V:= .int (k:Int)
theorem Lh {k:Nat} {A:Around} (r:Room k A):A.units + 100 < cLine:=by have:=r.un;omega
theorem iteB {c:Bool} {A B:Prop} (h1:c=true→A) (h2:c=false→B):if c=true then A else B:=by
 cases c
 ·rw [if_neg Bool.false_ne_true];exact h2 rfl
 ·rw [if_pos rfl];exact h1 rfl
theorem Ox (h:Nat):(2:Int) ^ h=((2 ^ h:Nat):Int):=by norm_cast
theorem shl1 (k:Nat):(1:Int) * 2 ^ ((k:Int).toNat)=((2 ^ k:Nat):Int):=by rw [Int.toNat_natCast,Int.one_mul];norm_cast
theorem Wn (a b:Nat):Builtin.bitOr (a:Int) (b:Int)=((a||| b:Nat):Int):=by
 have e1:Builtin.bitNot (a:Int)= -(a:Int) - 1:=by first | rfl | (unfold Builtin.bitNot;omega)
 have e2:Builtin.bitNot (b:Int)= -(b:Int) - 1:=by first | rfl | (unfold Builtin.bitNot;omega)
 unfold Builtin.bitOr Builtin.bitAnd
 rw [decide_eq_false (show ¬ (0:Int)≤Builtin.bitNot (a:Int) by rw [e1];omega),decide_eq_false (show ¬ (0:Int)≤Builtin.bitNot (b:Int) by rw [e2];omega)]
 have n:∀ x:Int,Builtin.bitNot (Builtin.bitNot x)=x:=fun x=>by unfold Builtin.bitNot;omega
 simp only [n,Int.toNat_natCast]
theorem jf (a b:Nat):Builtin.bitXor (a:Int) (b:Int)=((a^^^b:Nat):Int):=by
 unfold Builtin.bitXor
 rw [Wn,lQ]
 have:=M.or_sum a b
 omega
theorem Wm:Builtin.Int.intBits ((0:Nat):Int)=0:=by decide
theorem O0 {m:Nat} (h:m≠0):Builtin.Int.intBits (m:Int)=m.log2 + 1:=by
 unfold Builtin.Int.intBits
 have e:((m:Int) == 0)=false:=by rw [beq_eq_false_iff_ne];omega
 rw [e,if_neg Bool.false_ne_true,Int.natAbs_natCast]
theorem O1 (m i:Nat):Builtin.bitAnd ((m:Int) / 2 ^ ((0 + (i:Int)).toNat)) 1=if m.testBit i then 1 else 0:=by
 have e0:(0 + (i:Int)).toNat=i:=by omega
 rw [e0,Ox]
 have e1:(m:Int) / ((2 ^ i:Nat):Int)=((m>>>i:Nat):Int):=by rw [Nat.shiftRight_eq_div_pow];norm_cast
 rw [e1,show (1:Int)=((1:Nat):Int) from rfl,lQ,Nat.and_one_is_mod]
 have:m.testBit i=(m>>>i % 2 == 1):=by
  rw [Nat.testBit_eq_decide_div_mod_eq,Nat.shiftRight_eq_div_pow]
  rcases Nat.mod_two_eq_zero_or_one (m / 2 ^ i) with h | h<;>rw [h]<;>rfl
 rw [this]
 rcases Nat.mod_two_eq_zero_or_one (m>>>i) with h | h<;>rw [h]<;>rfl
structure En where
 a:Addr
 m:Nat
 p:Nat
noncomputable def af0 (es:List En):List (Key×V):=es.map fun e=>(Sum.inl ((e.m.log2:Nat):Int),V.ref e.a)
theorem X9 {kvs:List (Key×V)} {k:Key} {v:V} (h:valV kvs k=none):putK kvs k v=kvs++[(k,v)]:=by
 unfold putK
 rw [rR,h]
 rfl
structure StA (H:Hp) (C p d f n:Addr) (rows:List Nat):Prop where
 ho:∃ dx,H p=some (.ins C dx [("by_top",.ref d),("free_places",.ref f),("null_masks",.ref n)])
 he:∃ es:List En,H d=some (.dK (af0 es))∧(∀ e∈es,H e.a=some (.tup [nat e.m,nat e.p]))∧M.Ech (es.map fun e=>(e.m,e.p)) rows∧es.length=(M.fr rows).length
 hf:H f=some (.lst ((M.fr rows).map nat))
 hn:∃ nms,H n=some (.lst (nms.map nat))∧M.Nul nms rows
 ne:f≠n
theorem aC {α:Type} {f:α→V} {ws:List α} {i:Nat} {x:V} (h:(ws.map f)[i]? =some x):∃ k,ws[i]? =some k∧x=f k:=by
 rw [List.getElem?_map] at h
 cases e:ws[i]? with
 | none=>rw [e] at h;cases h
 | some k=>rw [e] at h;exact ⟨k,rfl,(Option.some.inj h).symm⟩
theorem take_succ {α:Type} {ws:List α} {i:Nat} {w:α} (h:ws[i]? =some w):ws.take (i + 1)=ws.take i++[w]:=by rw [List.take_succ,h];rfl
theorem Xz {α:Type} {ws:List α} {i:Nat} {w:α} (h:ws[i]? =some w):(ws.take i).length=i:=by
 rw [List.length_take]
 have:=(List.getElem?_eq_some_iff.mp h).1
 omega
theorem AO (ns:List Nat):(ns.map nat).all ox=true:=by simp [ox]
theorem Oq {K:PySem.W.Frag} {H:Hp} {Q:VK} {neg:Bool} {p q:Addr} {ns:List Nat} (e:SqL K H p (ns.map nat)) (e':SqL K H q (ns.map nat)) (h:Q (.bl (!neg)) H):rEqL K neg (.ref p) (.ref q) H Q:=by
 refine ⟨p,q,_,_,rfl,rfl,e,e',AO ns,AO ns,?_⟩
 rw [VN (AO ns)]
 cases neg<;>exact h
theorem aeJ {A:Around} {k:Nat} (hr:Room k A):A.units < cLine:=by have:=hr.un;omega
theorem Zc (ns:List Int) (lo hi:Option Int):∃ cs:List Int,cutV (ns.map V.int) lo hi=cs.map V.int∧cs.length≤ns.length:=by
 refine ⟨(ns.drop (HT.sIx (ns.map V.int).length 0 lo)).take (HT.sIx (ns.map V.int).length (ns.map V.int).length hi - HT.sIx (ns.map V.int).length 0 lo),?_,?_⟩
 ·unfold cutV
  rw [List.map_take,List.map_drop]
 ·rw [List.length_take,List.length_drop];omega
noncomputable def Oo (K:PySem.W.Frag):Sp:=fun vs H Q _=>∃ (a:Addr) (ns:List Int),vs=[.ref a]∧SqL K H a (ns.map V.int)∧ns.length≤63∧∀ H',Q (.bl true) H'
structure Prs (H:Hp) (ws:List Nat) (D:Addr) (ps:List (Addr×Nat)):Prop where
 l:H D=some (.lst (ps.map fun q=>V.ref q.1))
 t:∀ q∈ps,H q.1=some (.tup [nat q.2,nat (M.sm ws q.2)])
 b:∀ q∈ps,q.2 < 2 ^ ws.length
theorem NM (m:Nat):m < 2 ^ Builtin.Int.intBits (m:Int):=by
 by_cases h:m=0
 ·subst h;decide
 ·rw [O0 h];exact Nat.lt_log2_self
theorem NN {m w:Nat} (hm:m < 2 ^ w):Builtin.Int.intBits (m:Int)≤w:=by
 by_cases h:m=0
 ·subst h;rw [Wm];exact Nat.zero_le _
 ·rw [O0 h];exact (Nat.log2_lt h).mpr hm
noncomputable def aba:Sp:=fun vs H Q _=>∃ m:Nat,vs=[nat m]∧m < 2 ^ 1000∧∀ D H2,H D=none→Same H H2→H2 D=some (.lst ((M.pl 1000 m).map nat))→Q (.ref D) H2
noncomputable def cell (ns:List Int) (k:Int):Int:=if k < ns.length then ns.getD k.toNat 0 else 41 * k + 3
noncomputable def Op (K:PySem.W.Frag):Sp:=fun vs H Q _=>∃ (p:Addr) (ns:List Int) (k:Int),vs=[.ref p,.int k]∧SqL K H p (ns.map V.int)∧0≤k∧Q (.int (cell ns k)) H
theorem Ho {K:PySem.W.Frag} {H:Hp} {Q:VK} {E:XK} {p:Addr} {ns:List Int} {k:Int} (e:SqL K H p (ns.map V.int)) (h0:0≤k) (q:Q (.int (cell ns k)) H):Op K [.ref p,.int k] H Q E:=⟨p,ns,k,rfl,e,h0,q⟩
noncomputable def aa8:Sp:=fun vs H Q _=>∃ m:Nat,vs=[nat m]∧m < 2 ^ 1000∧Q (.bl (!M.od m)) H
theorem VM (n h:Nat):Builtin.bitXor ((n:Int) / 2 ^ ((h:Int).toNat)) (Builtin.bitAnd (n:Int) (1 * 2 ^ ((h:Int).toNat) - 1))=(((n>>>h)^^^(n&&&(2 ^ h - 1)):Nat):Int):=by
 rw [Int.toNat_natCast,Int.one_mul,Ox]
 have e1:(n:Int) / ((2 ^ h:Nat):Int)=((n>>>h:Nat):Int):=by rw [Nat.shiftRight_eq_div_pow];norm_cast
 have e2:((2 ^ h:Nat):Int) - 1=((2 ^ h - 1:Nat):Int):=by have:=Nat.two_pow_pos h;omega
 rw [e1,e2,lQ,jf]
theorem Vy (wd:Nat):((wd:Int) + 1) / 2=(((wd + 1) / 2:Nat):Int):=by omega
theorem Yi {n:Nat} (h:n < 2):decide (nat n=V.int 0)= !M.od n:=by
 have:n=0∨n=1:=by omega
 rcases this with rfl | rfl
 ·rw [M.od_zero];decide
 ·rw [show M.od 1=true from M.pb_pow (t:=0) (by decide)];decide
noncomputable def af6 (rows:List Nat) (b:Nat):Prop:=∀ y,M.Span rows y→y≠0→y.log2≠b
structure Acr (rows:List Nat) (wd:Nat) (ms:List Nat):Prop where
 len:ms.length + (M.fr rows).length=wd
 inj:M.Inj ms
 lt:∀ m∈ms,m < 2 ^ wd
 ev:∀ m∈ms,∀ y,M.Span rows y→M.od (m&&&y)=false
 all:∀ z,z < 2 ^ wd→(∀ y,M.Span rows y→M.od (z&&&y)=false)→M.Span ms z
noncomputable def dg (m:Nat):Int:=(Builtin.Int.intBits (m:Int):Int) - 1
noncomputable def Ti (k:String):Bool:=subB k "int"&& !subB k "bool"
noncomputable def mq (x:V) (w:Int):Bool:=match x with
 | .int i=>decide (0≤i)&&decide (((Builtin.Int.intBits i:Nat):Int)≤w)
 | _=>false
noncomputable def yC (K:PySem.W.Frag):Sp:=fun vs H Q _=>∃ x k,vs=[x]∧rj K H x k∧Q (.bl (Ti k)) H
noncomputable def KW (K:PySem.W.Frag):Sp:=fun vs H Q _=>∃ x k w,vs=[x,.int w]∧rj K H x k∧Q (.bl (mq x w)) H
theorem fN {K:PySem.W.Frag} {H:Hp} {Q:VK} {E:XK} {x:V} {k:String} (hk:rj K H x k) (q:Q (.bl (Ti k)) H):yC K [x] H Q E:=⟨x,k,rfl,hk,q⟩
theorem jI {K:PySem.W.Frag} {H:Hp} {Q:VK} {E:XK} {x:V} {k:String} {i:Int} (hk:rj K H x k) (q:Q (.bl (mq x i)) H):KW K [x,.int i] H Q E:=⟨x,k,i,rfl,hk,q⟩
theorem j2 {c m:Int} (h:0 < m):∃ k:Nat,c % m=(k:Int)∧(k:Int) < m:=by
 obtain ⟨k,hk⟩:=Int.eq_ofNat_of_zero_le (Int.emod_nonneg c (Int.ne_of_gt h))
 exact ⟨k,hk,by rw [← hk];exact Int.emod_lt_of_pos c h⟩
theorem adr {H:Hp} {Q:VK} {l:Addr} {k:Int} {xs:List V} (e:H l=some (.lst xs)) (h0: -(2 ^ 63)≤k) (h1:k < 2 ^ 63) (hz:xs.length * k.toNat≤sizeLine) (h:∀ p H2,H p=none→Same H H2→H2 p=some (.lst (List.replicate k.toNat xs).flatten)→Q (.ref p) H2):rRep (.ref l) (.int k) H Q:=
 ⟨l,k,xs,rfl,rfl,e,h0,h1,hz,jl h⟩
noncomputable abbrev Pr3:=Addr×Nat×Nat
noncomputable def refs (ps:List Pr3):List V:=ps.map fun q=>V.ref q.1
noncomputable def Prt (H:Hp) (ps:List Pr3):Prop:=∀ q∈ps,H q.1=some (.tup [nat q.2.1,nat q.2.2])
theorem Prt.same {H H2:Hp} {ps:List Pr3} (x:Prt H ps) (s:Same H H2):Prt H2 ps:=fun q h=>s _ _ (x q h)
structure MaA (H:Hp) (C p:Addr) (m:Nat) (nx os:List Pr3):Prop where
 ho:∃ dx tn to,H p=some (.ins C dx [("inputs",nat m),("nexts",.ref tn),("outs",.ref to)])∧H tn=some (.tup (refs nx))∧H to=some (.tup (refs os))
 hn:Prt H nx
 hs:Prt H os
theorem MaA.same {H H2:Hp} {C p:Addr} {m:Nat} {nx os:List Pr3} (x:MaA H C p m nx os) (s:Same H H2):MaA H2 C p m nx os:=
 ⟨let ⟨dx,tn,to,a,b,c⟩:=x.ho;⟨dx,tn,to,s _ _ a,s _ _ b,s _ _ c⟩,x.hn.same s,x.hs.same s⟩
noncomputable def sq (bs:List Bool):Nat→Bool:=fun i=>bs.getD i false
noncomputable def Tz:Sp:=fun vs H Q _=>∃ (r:Addr) (ps:List Nat),vs=[.ref r]∧H r=some (.lst (ps.map nat))∧(∀ p∈ps,p < 1000)∧Q (nat (M.xm ps)) H
noncomputable def XL:Sp:=fun vs H Q _=>∃ (t:Addr) (x y n m:Nat),vs=[.ref t,nat n,nat m]∧H t=some (.tup [nat x,nat y])∧x < 2 ^ n∧y < 2 ^ m∧Q (.bl true) H
structure Tab (H:Hp) (n o:Addr) (m:Nat) (nx os:List Pr3):Prop where
 m6:m≤6
 n:H n=some (.lst (refs nx))
 o:H o=some (.lst (refs os))
 pn:Prt H nx
 po:Prt H os
 ln:nx.length≤120
 lo:os.length≤6
 bn:∀ q∈nx++os,q.2.1 < 2 ^ nx.length∧q.2.2 < 2 ^ m
noncomputable def aa9:Sp:=fun vs H Q _=>∃ (n o:Addr) (m:Nat) (nx os:List Pr3),vs=[nat m,.ref n,.ref o]∧Tab H n o m nx os∧∀ H2,Same H H2→Q .non H2
noncomputable def aa5 (C:Addr):Sp:=fun vs H Q _=>∃ (x dx n o:Addr) (m:Nat) (nx os:List Pr3),vs=[.ref x,nat m,.ref n,.ref o]∧H x=some (.ins C dx [])∧Tab H n o m nx os∧∀ H2,(∀ b ob,b≠x→H b=some ob→H2 b=some ob)→MaA H2 C x m nx os→Q .non H2
noncomputable def Tr (C:Addr):Sp:=fun vs H Q _=>∃ (p:Addr) (m:Nat) (nx os:List Pr3),vs=[.ref p]∧MaA H C p m nx os∧Q (nat nx.length) H
structure Lfsr (nx os:List Pr3) (L G:Nat):Prop where
 nx:nx.map (fun q=>q.2.1)=M.lm L G
 os:∃ t,os=[(t,(if 0 < L then 1 else 0),0)]
theorem gj {a n:Nat} (h:a < 2 ^ n):mq (nat a) (n:Int)=true:=by
 have:=NN h
 show (decide ((0:Int)≤(a:Int))&&decide (((Builtin.Int.intBits (a:Int):Nat):Int)≤(n:Int)))=true
 rw [decide_eq_true (by omega),decide_eq_true (by omega)];rfl
theorem Tb {ps:List Nat} {i k:Nat} (h:ps[i]? =some k):M.xm (ps.take (i + 1))=M.xm (ps.take i)^^^2 ^ k:=by rw [take_succ h];unfold M.xm;rw [List.foldl_append];rfl
theorem Xn {w m:Nat} (h:m < 2 ^ w):M.xm (M.pl w m)=m:=M.xm_ext h fun k=>rfl
noncomputable abbrev ms (nx:List Pr3):List Nat:=nx.map fun q=>q.2.1
theorem ab5 {n j:Nat} (h:j < n):ixN n (j:Int)=some j:=by unfold ixN;rw [if_pos (Int.natCast_nonneg j),if_pos (by omega),Int.toNat_natCast]
theorem ado {H:Hp} {Q:Hp→Prop} {p:Addr} {xs:List V} {j:Nat} {v:V} (e:H p=some (.lst xs)) (hj:j < xs.length) (h:∀ H2,Upd H H2 p (.lst (xs.set j v))→Q H2):adV (.ref p) (.int (j:Int)) v H Q:=
 ⟨p,xs,j,j,rfl,rfl,e,ab5 hj,h _ Upd.of⟩
theorem adG {σ:St} {H:Hp} {to ti:TE} {t:TSet} {v:V} {Q:St→Hp→Prop} (h:to σ H fun o H1=>ti σ H1 fun i H2=>t o i v H2 fun H3=>Q σ H3):gSub to ti t v σ H Q:=h
structure MaG (m:Nat) (nx os:List Pr3):Prop where
 m6:m≤6
 ln:nx.length≤120
 lo:os.length≤6
 bn:∀ q∈nx++os,q.2.1 < 2 ^ nx.length∧q.2.2 < 2 ^ m
noncomputable abbrev prs (nx:List Pr3):List (Nat×Nat):=nx.map (·.2)
theorem eZ (nx:List Pr3):(prs nx).length=nx.length:=List.length_map ..
theorem aby {nx:List Pr3} {i:Nat} {q:Pr3} (h:nx[i]? =some q):(prs nx)[i]? =some q.2:=by rw [List.getElem?_map,h];rfl
theorem jS (nx:List Pr3):(refs nx).length=nx.length:=List.length_map ..
theorem gU {x n:Nat} (h:x < 2 ^ n) (hn:n≤1000):x < 2 ^ 1000:=Nat.lt_of_lt_of_le h (Nat.pow_le_pow_right (by decide) hn)
theorem MaG.b1 {m:Nat} {nx os:List Pr3} (g:MaG m nx os):∀ q∈nx,q.2.1 < 2 ^ 1000∧q.2.2 < 2 ^ 1000:=fun q h=>have:=g.ln;have:=g.m6;have b:=g.bn q (List.mem_append_left _ h);⟨gU b.1 (by omega),gU b.2 (by omega)⟩
theorem MaG.b2 {m:Nat} {nx os:List Pr3} (g:MaG m nx os):∀ q∈os,q.2.1 < 2 ^ 1000∧q.2.2 < 2 ^ 1000:=fun q h=>have:=g.ln;have:=g.m6;have b:=g.bn q (List.mem_append_right _ h);⟨gU b.1 (by omega),gU b.2 (by omega)⟩
theorem abv {H H2:Hp} {a:Addr} {u:HO} (h:Rd H a u) (s:Same H H2):Rd H2 a u:=h.imp (s _ _) fun ⟨o,e⟩=>⟨o,s _ _ e⟩
theorem JE {K:PySem.W.Frag} {H H2:Hp} {x:V} {k:String} (h:rj K H x k) (s:Same H H2):rj K H2 x k:=by
 cases x with
 | ref p=>exact Or.imp (fun ⟨a,xs,e⟩=>⟨a,xs,Same.seq s e⟩) (Or.imp (fun ⟨a,xs,e⟩=>⟨a,xs,Same.tup s e⟩) fun ⟨a,xs,e⟩=>⟨a,xs,abv e s⟩) h
 | _=>exact h
noncomputable def Ob (K:PySem.W.Frag) (H:Hp) (xs:List V):Prop:=∀ x∈xs,∃ k,rj K H x k
theorem Ob.nats (K:PySem.W.Frag) (H:Hp) (rs:List Nat):Ob K H (rs.map nat):=fun x hx=>by
 obtain ⟨r,_,rfl⟩:=List.mem_map.mp hx
 exact ⟨"int",rfl⟩
theorem yF {x:V} {n:Nat} (h:mq x (n:Int)=true):∃ a:Nat,x=nat a∧a < 2 ^ n:=by
 cases x with
 | int i=>
   have h:(decide ((0:Int)≤i)&&decide (((Builtin.Int.intBits i:Nat):Int)≤(n:Int)))=true:=h
   simp only [Bool.and_eq_true,decide_eq_true_eq] at h
   obtain ⟨a,rfl⟩:=Int.eq_ofNat_of_zero_le h.1
   exact ⟨a,rfl,Nat.lt_of_lt_of_le (NM a) (Nat.pow_le_pow_right (by decide) (by omega))⟩
 | _=>cases h
noncomputable def idxB (x:V) (m:Nat):Bool:=match x with
 | .int i=>decide (0≤i)&&decide (i < (m:Int))
 | _=>false
theorem Ta (x y:Bool):(!decide (V.bl (!x)=V.bl (!y)))=(x^^y):=by cases x<;>cases y<;>rfl
theorem Xy {ps:List Pr3} {i:Nat} {q:Pr3} (x y:Nat) (h:ps[i]? =some q):M.tr2 (prs (ps.take (i + 1))) x y=M.tr2 (prs (ps.take i)) x y^^^(if (M.od (q.2.1&&&x)^^M.od (q.2.2&&&y)) then 2 ^ i else 0):=by
 have hl:(prs (ps.take i)).length=i:=by rw [eZ];exact Xz h
 rw [take_succ h]
 unfold prs at hl ⊢
 rw [List.map_append,List.map_singleton,M.tr2_snoc,hl]
theorem OU (xs:List V) (y:Nat) (hy:y≤xs.length):cutV xs none (some (y:Int))=xs.take y:=by
 unfold cutV
 rw [HT.sIx_nat,HT.sIx_none,Nat.min_eq_left hy,Nat.sub_zero,List.drop_zero]
theorem z9 {a b:Nat} (h:nat a=nat b):a=b:=by
 have h:(a:Int)=(b:Int):=V.int.inj h
 omega
noncomputable def XO:Sp:=fun vs H Q _=>∃ (t:Addr) (a b x r:Nat),vs=[.ref t,nat x,nat r]∧H t=some (.tup [nat a,nat b])∧a < 2 ^ 1000∧b < 2 ^ 1000∧Q (.bl (M.od (a&&&x)^^M.od (b&&&r))) H
noncomputable def aa1 (K:PySem.W.Frag):Sp:=fun vs H Q _=>∃ (r:Addr) (ps:List Pr3) (x y:Nat),vs=[.ref r,nat x,nat y]∧SqT K H r (refs ps)∧Prt H ps∧ps.length≤1000∧(∀ q∈ps,q.2.1 < 2 ^ 1000∧q.2.2 < 2 ^ 1000)∧∀ H2,Same H H2→Q (nat (M.tr2 (prs ps) x y)) H2
noncomputable def adi (K:PySem.W.Frag) (C B:Addr):Sp:=fun vs H Q E=>∃ (p:Addr) (m:Nat) (nx os:List Pr3) (x:V) (k:String),vs=[.ref p,x]∧MaA H C p m nx os∧rj K H x k∧(mq x nx.length=true→Q .non H)∧(mq x nx.length=false→E (.ref B) none H)
noncomputable def XN (K:PySem.W.Frag) (C B:Addr):Sp:=fun vs H Q E=>∃ (p:Addr) (m:Nat) (nx os:List Pr3) (x y:V) (kx ky:String),vs=[.ref p,x,y]∧MaA H C p m nx os∧MaG m nx os∧rj K H x kx∧rj K H y ky∧
 (∀ a b:Nat,x=nat a→y=nat b→a < 2 ^ nx.length→b < 2 ^ m→∀ (t:Addr) (H2:Hp),Same H H2→H2 t=some (.tup [nat (M.tr2 (prs os) a b),nat (M.tr2 (prs nx) a b)])→Q (.ref t) H2)∧
 (mq x nx.length=false∨mq y m=false→E (.ref B) none H)
structure Zy (K:PySem.W.Frag) (H:Hp) (C p rr:Addr) (m:Nat) (nx os:List Pr3) (x:V) (xs:List V):Prop where
 ma:MaA H C p m nx os
 g:MaG m nx os
 kx:∃ k,rj K H x k
 sq:SqL K H rr xs
 ks:Ob K H xs
 ln:xs.length≤1000
noncomputable def Good (m:Nat) (nx:List Pr3) (x:V) (xs:List V) (a:Nat) (rs:List Nat):Prop:=x=nat a∧xs=rs.map nat∧a < 2 ^ nx.length∧∀ r∈rs,r < 2 ^ m
noncomputable def Bad (m:Nat) (nx:List Pr3) (x:V) (xs:List V):Prop:=mq x nx.length=false∨∃ y∈xs,mq y m=false
noncomputable def XD (K:PySem.W.Frag) (C B:Addr):Sp:=fun vs H Q E=>∃ (p rr:Addr) (m:Nat) (nx os:List Pr3) (x:V) (xs:List V),vs=[.ref p,.ref rr,x]∧Zy K H C p rr m nx os x xs∧
 (∀ a rs,Good m nx x xs a rs→∀ (t D:Addr) (H2:Hp),H D=none→Same H H2→H2 t=some (.tup [.ref D,nat (M.wst (prs nx) a rs)])→H2 D=some (.lst ((M.wan (prs nx) (prs os) a rs).map nat))→Q (.ref t) H2)∧
 (Bad m nx x xs→∀ H2,Same H H2→E (.ref B) none H2)
noncomputable def adg (K:PySem.W.Frag) (C B:Addr):Sp:=fun vs H Q E=>∃ (p rr:Addr) (m:Nat) (nx os:List Pr3) (x:V) (xs:List V),vs=[.ref p,.ref rr,x]∧Zy K H C p rr m nx os x xs∧
 (∀ a rs,Good m nx x xs a rs→∀ (D:Addr) (H2:Hp),H D=none→Same H H2→H2 D=some (.lst ((M.wan (prs nx) (prs os) a rs).map nat))→Q (.ref D) H2)∧
 (Bad m nx x xs→∀ H2,Same H H2→E (.ref B) none H2)
noncomputable def XZ (K:PySem.W.Frag) (C B:Addr):Sp:=fun vs H Q E=>∃ (p rr:Addr) (m:Nat) (nx os:List Pr3) (x:V) (xs:List V),vs=[.ref p,.ref rr,x]∧Zy K H C p rr m nx os x xs∧
 (∀ a rs,Good m nx x xs a rs→∀ H2:Hp,Same H H2→Q (nat (M.wst (prs nx) a rs)) H2)∧
 (Bad m nx x xs→∀ H2,Same H H2→E (.ref B) none H2)
noncomputable def Tt (K:PySem.W.Frag) (C B:Addr):Sp:=fun vs H Q E=>∃ (p:Addr) (m:Nat) (nx os:List Pr3) (x:V) (k:String) (T:Nat),vs=[.ref p,x,nat T]∧MaA H C p m nx os∧MaG m nx os∧rj K H x k∧T≤900∧
 (∀ i,x=nat i→i < m→∀ (D:Addr) (H2:Hp),H D=none→Same H H2→H2 D=some (.lst ((M.wan (prs nx) (prs os) 0 (M.pulse i T)).map nat))→Q (.ref D) H2)∧
 (idxB x m=false→E (.ref B) none H)
noncomputable def aaW (C:Addr):Sp:=fun vs H Q _=>∃ (p:Addr) (m:Nat) (nx os:List Pr3),vs=[.ref p]∧MaA H C p m nx os∧MaG m nx os∧
 ∀ (t D1 D2:Addr) (H2:Hp),H D1=none→H D2=none→D1≠D2→Same H H2→H2 t=some (.tup [nat m,.ref D1,.ref D2])→H2 D1=some (.lst (refs nx))→H2 D2=some (.lst (refs os))→Q (.ref t) H2
noncomputable def Pu (C:Addr):Sp:=fun vs H Q _=>∃ (p:Addr) (m:Nat) (nx os:List Pr3),vs=[.ref p]∧MaA H C p m nx os∧Q (nat os.length) H
structure TabT (H:Hp) (t n o:Addr) (m:Nat) (nx os:List Pr3):Prop where
 t:H t=some (.tup [nat m,.ref n,.ref o])
 tab:Tab H n o m nx os
noncomputable def LB (q:Pr3):Dt:= .tup [.int q.2.1,.int q.2.2]
noncomputable def tabD (m:Nat) (nx os:List Pr3):Dt:= .tup [.int m,.lst (nx.map LB),.lst (os.map LB)]
theorem rep2 {K:PySem.W.Frag} {H:Hp} {p:Addr} {i j:Int} (e:H p=some (.tup [.int i,.int j])):Rep K H (.ref p) (.tup [.int i,.int j]):=by
 refine .tup (SqT.of e) rfl fun k x d hx hd=>?_
 match k,hx,hd with
 | 0,hx,hd=>cases hx;cases hd;exact .int _
 | 1,hx,hd=>cases hx;cases hd;exact .int _
 | k + 2,hx,_=>simp at hx
theorem Il {K:PySem.W.Frag} {H:Hp} {D:Addr} {l:List Pr3} (e:H D=some (.lst (refs l))) (pt:Prt H l):Rep K H (.ref D) (.lst (l.map LB)):=by
 refine .lst (SqL.of e) (by unfold refs;rw [List.length_map,List.length_map]) fun k x d hx hd=>?_
 obtain ⟨q,hq,rfl⟩:=aC hx
 rw [List.getElem?_map,hq] at hd
 cases hd
 exact rep2 (pt q (List.mem_of_getElem? hq))
theorem T0 {K:PySem.W.Frag} {H:Hp} {t n o:Addr} {m:Nat} {nx os:List Pr3} (et:H t=some (.tup [nat m,.ref n,.ref o])) (en:H n=some (.lst (refs nx))) (eo:H o=some (.lst (refs os))) (pn:Prt H nx) (po:Prt H os):Rep K H (.ref t) (tabD m nx os):=by
 refine .tup (SqT.of et) rfl fun k x d hx hd=>?_
 match k,hx,hd with
 | 0,hx,hd=>cases hx;cases hd;exact .int _
 | 1,hx,hd=>cases hx;cases hd;exact Il en pn
 | 2,hx,hd=>cases hx;cases hd;exact Il eo po
 | k + 3,hx,_=>simp at hx
theorem AR:∀ l:List Pr3,yb (l.map LB)≤1
 | []=>by simp [yb]
 | q::l=>by
   have:=AR l
   rw [List.map_cons,yb]
   have e:depD (LB q)=1:=by simp [LB,depD,yb]
   omega
theorem ace (m:Nat) (nx os:List Pr3):depD (tabD m nx os)≤100:=by
 have h1:=AR nx
 have h2:=AR os
 unfold tabD
 simp only [depD,yb]
 omega
theorem Kn (m i:Nat):Builtin.bitAnd ((m:Int) / 2 ^ ((i:Int).toNat)) 1=if m.testBit i then 1 else 0:=by
 have:=O1 m i
 rwa [show (0:Int) + (i:Int)=(i:Int) from Int.zero_add _] at this
theorem sN {m:Nat} {nx:List Pr3} {a a':Nat} {rs rs':List Nat} (g:Good m nx (nat a) (rs.map nat) a' rs'):a=a'∧rs=rs':=by
 obtain ⟨h1,h2,_,_⟩:=g
 refine ⟨z9 h1,?_⟩
 have h:∀ (l l':List Nat),l.map nat=l'.map nat→l=l':=by
  intro l
  induction l with
  | nil=>intro l' h;cases l' with | nil=>rfl | cons _ _=>cases h
  | cons x l ih=>
    intro l' h
    cases l' with
    | nil=>cases h
    | cons y l'=>
      rw [List.map_cons,List.map_cons] at h
      obtain ⟨h1,h2⟩:=List.cons.inj h
      rw [ih _ h2,z9 h1]
 exact h rs rs' h2
theorem Mq {m:Nat} {nx:List Pr3} {a:Nat} {rs:List Nat} (ha:a < 2 ^ nx.length) (hr:∀ r∈rs,r < 2 ^ m) (b:Bad m nx (nat a) (rs.map nat)):False:=by
 rcases b with h | ⟨y,hy,h⟩
 ·rw [gj ha] at h;cases h
 ·obtain ⟨r,hr',rfl⟩:=List.mem_map.mp hy
  rw [gj (hr r hr')] at h;cases h
theorem yH (xs:List V) (k:Nat) (h:k≤xs.length):cutV xs (some (k:Int)) none=xs.drop k:=by
 unfold cutV
 rw [HT.sIx_nat,HT.sIx_none,Nat.min_eq_left h]
 exact List.take_of_length_le (by rw [List.length_drop];exact Nat.le_refl _)
theorem T1 {K:PySem.W.Frag} {H:Hp} {α:Type} (f:α→V) (g:α→Dt) (r:∀ x,Rep K H (f x) (g x)) (xs:List α):∀ (i:Nat) x d,(xs.map f)[i]? =some x→(xs.map g)[i]? =some d→Rep K H x d:=by
 intro i x d h1 h2
 rw [List.getElem?_map] at h1 h2
 cases e:xs[i]? with
 | none=>rw [e] at h1;cases h1
 | some y=>rw [e] at h1 h2;cases h1;cases h2;exact r y
theorem ZL {K:PySem.W.Frag} {te:TE} {σ:St} {H:Hp} {Q:VK} (h:te σ H fun x H1=>∃ a xs,x= .ref a∧SqL K H1 a xs∧∀ l,H1 l=none→Q (.ref l) (upd H1 l (.lst xs.reverse))):tRev K te σ H Q:=h
noncomputable def low (c:Nat):Bool:=decide (97≤c)&&decide (c≤122)
noncomputable def fig (c:Nat):Bool:=decide (48≤c)&&decide (c≤57)
noncomputable def nm (l:List Nat):Bool:=match l with
 | []=>false
 | c::r=>decide ((c::r).length≤6)&&low c&&(c::r).all fun c=>low c||fig c
noncomputable def afX (x:V):Bool:=match x with
 | .str z=>nm z.cps.toList
 | _=>false
noncomputable def Nm (z:Str):Prop:=nm z.cps.toList=true
noncomputable def Tw (K:PySem.W.Frag):Sp:=fun vs H Q _=>∃ x k,vs=[x]∧rj K H x k∧(∀ z,x= .str z→z.length≤1000)∧∀ H',Same H H'→Q (.bl (afX x)) H'
theorem memL (c:Nat):decide (c∈("abcdefghijklmnopqrstuvwxyz":Str).cps.toList)=low c:=by
 have e:("abcdefghijklmnopqrstuvwxyz":Str).cps.toList=List.range' 97 26:=by decide +kernel
 rw [e]
 unfold low
 rw [Bool.eq_iff_iff,Bool.and_eq_true,decide_eq_true_eq,decide_eq_true_eq,decide_eq_true_eq,List.mem_range']
 constructor
 ·rintro ⟨i,h,rfl⟩;omega
 ·rintro ⟨h1,h2⟩;exact ⟨c - 97,by omega,by omega⟩
theorem memN (c:Nat):decide (c∈("abcdefghijklmnopqrstuvwxyz0123456789":Str).cps.toList)=(low c||fig c):=by
 have e:("abcdefghijklmnopqrstuvwxyz0123456789":Str).cps.toList=List.range' 97 26++List.range' 48 10:=by decide +kernel
 rw [e]
 unfold low fig
 rw [Bool.eq_iff_iff,Bool.or_eq_true,Bool.and_eq_true,Bool.and_eq_true,decide_eq_true_eq,decide_eq_true_eq,decide_eq_true_eq,decide_eq_true_eq,decide_eq_true_eq,List.mem_append,List.mem_range',List.mem_range']
 constructor
 ·rintro (⟨i,h,rfl⟩ | ⟨i,h,rfl⟩)
  ·left;omega
  ·right;omega
 ·rintro (⟨h1,h2⟩ | ⟨h1,h2⟩)
  ·exact .inl ⟨c - 97,by omega,by omega⟩
  ·exact .inr ⟨c - 48,by omega,by omega⟩
theorem pd (z:Str):z.cps.toList.length=z.length:=by simp [Str.length]
theorem KU {z:Str}:z=""↔z.cps.toList=[]:=by
 constructor
 ·rintro rfl;decide +kernel
 ·intro h;cases z with | mk c=>cases c with | mk l=>have h:l=[]:=h;subst h;decide +kernel
theorem Nm.len {z:Str} (h:Nm z):z.length≤6:=by
 have h:nm z.cps.toList=true:=h
 have l:=pd z
 cases e:z.cps.toList with
 | nil=>rw [e] at l;rw [← l];decide
 | cons c r=>
   rw [e] at h l
   unfold nm at h
   rw [Bool.and_eq_true,Bool.and_eq_true] at h
   have:=of_decide_eq_true h.1.1
   omega
theorem c_nm {K:PySem.W.Frag} {H:Hp} {Q:VK} {E:XK} {z:Str} (h:Nm z) (q:∀ H',Same H H'→Q (.bl true) H'):Tw K [.str z] H Q E:=⟨_,"str",rfl,rfl,fun z' e=>by cases e;have:=h.len;omega,fun H' s=>by show Q (.bl (nm z.cps.toList)) H';rw [show nm z.cps.toList=true from h];exact q H' s⟩
noncomputable def XS (K:PySem.W.Frag):Sp:=fun vs H Q _=>∃ x C dx nm,vs=[.ref x,nm]∧Cls K C∧ao K C "name"∧H x=some (.ins C dx [])∧∀ H2,Upd H H2 x (.ins C dx [("name",nm)])→Q .non H2
noncomputable def XR (C:Addr):Sp:=fun vs H Q _=>∃ x dx nm k,vs=[.ref x,nm,k]∧H x=some (.ins C dx [])∧∀ H2,Upd H H2 x (.ins C dx [("name",nm),("number",k)])→Q .non H2
noncomputable def XQ (C:Addr):Sp:=fun vs H Q _=>∃ x dx nm w k,vs=[.ref x,nm,w,k]∧H x=some (.ins C dx [])∧∀ H2,Upd H H2 x (.ins C dx [("name",nm),("wire",w),("number",k)])→Q .non H2
noncomputable def abd (C:Addr):Sp:=fun vs H Q _=>∃ p dx nm k kn row st,vs=[.ref p,kn,.int row,.int st]∧H p=some (.ins C dx [("name",nm),("number",.int k)])∧0≤k∧Q (.int (Builtin.bitAnd (row / 2 ^ k.toNat) 1)) H
noncomputable def abb (C:Addr):Sp:=fun vs H Q _=>∃ p dx nm w k kn row st,vs=[.ref p,kn,.int row,.int st]∧H p=some (.ins C dx [("name",nm),("wire",w),("number",.int k)])∧0≤k∧Q (.int (Builtin.bitAnd (st / 2 ^ k.toNat) 1)) H
noncomputable def abc (K:PySem.W.Frag) (C:Addr):Sp:=fun vs H Q _=>∃ (p dx:Addr) (nm:V) (tw d:Addr) (ws:List Str) (kvs:List (Key×V)) (f:Str→Int) (row st:Int),vs=[.ref p,.ref d,.int row,.int st]∧H p=some (.ins C dx [("name",nm),("wires",.ref tw)])∧SqT K H tw (ws.map V.str)∧
 H d=some (.dK kvs)∧(∀ w∈ws,valV kvs (Sum.inr w)=some (.int (f w)))∧Q (.int ((ws.map f).foldl Builtin.bitXor 0)) H
noncomputable def XX (C:Addr):Sp:=fun vs H Q _=>∃ p dx nm k kn,vs=[.ref p,kn]∧H p=some (.ins C dx [("name",nm),("number",.int k)])∧0≤k∧k≤1000∧∀ t H2,Same H H2→H2 t=some (.tup [.int 0,.int (1 * 2 ^ k.toNat)])→Q (.ref t) H2
noncomputable def XU (C:Addr):Sp:=fun vs H Q _=>∃ p dx nm w k kn,vs=[.ref p,kn]∧H p=some (.ins C dx [("name",nm),("wire",w),("number",.int k)])∧0≤k∧k≤1000∧∀ t H2,Same H H2→H2 t=some (.tup [.int (1 * 2 ^ k.toNat),.int 0])→Q (.ref t) H2
noncomputable def XV (K:PySem.W.Frag) (C:Addr):Sp:=fun vs H Q _=>∃ (p dx:Addr) (nm:V) (tw d:Addr) (ws:List Str) (kvs:List (Key×V)) (f g:Str→Int),vs=[.ref p,.ref d]∧H p=some (.ins C dx [("name",nm),("wires",.ref tw)])∧SqT K H tw (ws.map V.str)∧
 H d=some (.dK kvs)∧(∀ w∈ws,∃ t,valV kvs (Sum.inr w)=some (.ref t)∧SqT K H t [.int (f w),.int (g w)])∧∀ t H2,Same H H2→H2 t=some (.tup [.int ((ws.map f).foldl Builtin.bitXor 0),.int ((ws.map g).foldl Builtin.bitXor 0)])→Q (.ref t) H2
theorem AN {ws:List Str} {f:Str→Int} {i:Nat} {w:Str} (h:ws[i]? =some w):((ws.take (i + 1)).map f).foldl Builtin.bitXor 0=Builtin.bitXor (((ws.take i).map f).foldl Builtin.bitXor 0) (f w):=by
 rw [List.take_succ,h,List.map_append,List.foldl_append];rfl
structure Nt where
 ins:List Str
 sums:List (Str×List Str)
 sts:List (Str×Str)
 outs:List Str
noncomputable def Nt.names (N:Nt):List Str:=N.ins++N.sums.map (·.1)++N.sts.map (·.1)
structure Gn (N:Nt):Prop where
 li:N.ins.length≤6
 ls:N.sums.length≤40
 lt:N.sts.length≤16
 lo:N.outs.length≤6
 lw:∀ r∈N.sums,r.2.length≤24
 nm:∀ z∈N.names,Nm z
 nd:N.names.Nodup
 ws:∀ r∈N.sums,∀ z∈r.2,z∈N.names
 ts:∀ r∈N.sts,r.2∈N.names
 os:∀ z∈N.outs,z∈N.names
 rk:∃ rank:Str→Nat,∀ r∈N.sums,∀ z∈r.2,z∈N.sums.map (·.1)→rank z < rank r.1
structure Topo (sums:List (Str×List Str)) (od:List Str):Prop where
 perm:od.Perm (sums.map (·.1))
 need:∀ (i:Nat) z,od[i]? =some z→∀ ws,(z,ws)∈sums→∀ y∈ws,y∈sums.map (·.1)→y∈od.take i
noncomputable abbrev Rw:=Addr×Addr×Str×List Str
noncomputable abbrev Qs:=Addr×Str×Str
structure Hnd (H:Hp) (i s t o:Addr) (rs:List Rw) (qs:List Qs) (N:Nt):Prop where
 i:H i=some (.lst (N.ins.map V.str))
 s:H s=some (.lst (rs.map fun r=>V.ref r.1))
 sr:∀ r∈rs,H r.1=some (.tup [.str r.2.2.1,.ref r.2.1])∧H r.2.1=some (.lst (r.2.2.2.map V.str))
 es:rs.map (·.2.2)=N.sums
 t:H t=some (.lst (qs.map fun q=>V.ref q.1))
 tr:∀ q∈qs,H q.1=some (.tup [.str q.2.1,.str q.2.2])
 et:qs.map (·.2)=N.sts
 o:H o=some (.lst (N.outs.map V.str))
theorem Hnd.same {H H2:Hp} {i s t o:Addr} {rs:List Rw} {qs:List Qs} {N:Nt} (x:Hnd H i s t o rs qs N) (h:Same H H2):Hnd H2 i s t o rs qs N:=⟨h.get x.i,h.get x.s,fun r m=>⟨h.get (x.sr r m).1,h.get (x.sr r m).2⟩,x.es,h.get x.t,fun q m=>h.get (x.tr q m),x.et,h.get x.o⟩
structure Kpt (H:Hp) (i s t o:Addr) (rs:List Rw) (qs:List Qs) (N:Nt):Prop where
 i:H i=some (.tup (N.ins.map V.str))
 s:H s=some (.tup (rs.map fun r=>V.ref r.1))
 sr:∀ r∈rs,H r.1=some (.tup [.str r.2.2.1,.ref r.2.1])∧H r.2.1=some (.tup (r.2.2.2.map V.str))
 es:rs.map (·.2.2)=N.sums
 t:H t=some (.tup (qs.map fun q=>V.ref q.1))
 tr:∀ q∈qs,H q.1=some (.tup [.str q.2.1,.str q.2.2])
 et:qs.map (·.2)=N.sts
 o:H o=some (.tup (N.outs.map V.str))
theorem Kpt.same {H H2:Hp} {i s t o:Addr} {rs:List Rw} {qs:List Qs} {N:Nt} (x:Kpt H i s t o rs qs N) (h:Same H H2):Kpt H2 i s t o rs qs N:=⟨h.get x.i,h.get x.s,fun r m=>⟨h.get (x.sr r m).1,h.get (x.sr r m).2⟩,x.es,h.get x.t,fun q m=>h.get (x.tr q m),x.et,h.get x.o⟩
noncomputable def TJ:Sp:=fun vs H Q _=>∃ (i s t o:Addr) (rs:List Rw) (qs:List Qs) (N:Nt),vs=[.ref i,.ref s,.ref t,.ref o]∧Hnd H i s t o rs qs N∧Gn N∧∀ H2,Same H H2→Q .non H2
noncomputable def TK:Sp:=fun vs H Q _=>∃ (l:Addr) (zs:List Str),vs=[.ref l]∧H l=some (.lst (zs.map V.str))∧zs.length≤1000∧zs.Nodup∧(∀ z∈zs,Nm z)∧∀ H2,Same H H2→Q .non H2
noncomputable def Knw (H:Hp) (d:Addr) (zs:List Str):Prop:=∃ kvs:List (Key×V),H d=some (.dK kvs)∧kvs.map (·.1)=zs.map Sum.inr
theorem Knw.same {H H2:Hp} {d:Addr} {zs:List Str} (x:Knw H d zs) (h:Same H H2):Knw H2 d zs:=let ⟨k,e,f⟩:=x;⟨k,h.get e,f⟩
noncomputable def XY:Sp:=fun vs H Q _=>∃ (z:Str) (d:Addr) (zs:List Str),vs=[.str z,.ref d]∧Knw H d zs∧z∈zs∧Nm z∧∀ H2,Same H H2→Q .non H2
noncomputable def TH:Sp:=fun vs H Q _=>∃ (i s t o d:Addr) (rs:List Rw) (qs:List Qs) (N:Nt),vs=[.ref s,.ref t,.ref o,.ref d]∧Kpt H i s t o rs qs N∧Gn N∧Knw H d N.names∧∀ H2,Same H H2→Q .non H2
theorem yB {kvs:List (Key×V)} {zs:List Str} (e:kvs.map (·.1)=zs.map Sum.inr) (z:Str):(valV kvs (Sum.inr z)).isSome=decide (z∈zs):=by
 cases h:valV kvs (Sum.inr z) with
 | none=>
   have:=Xv h
   rw [e] at this
   rw [decide_eq_false fun m=>this (List.mem_map.mpr ⟨z,m,rfl⟩)];rfl
 | some v=>
   have:=aaR h
   rw [e] at this
   obtain ⟨y,hy,ey⟩:=List.mem_map.mp this
   cases ey
   rw [decide_eq_true hy];rfl
theorem Lk {kvs:List (Key×V)} {zs:List Str} (e:kvs.map (·.1)=zs.map Sum.inr) {z:Str} (h:z∉zs) (v:V):putK kvs (Sum.inr z) v=kvs++[(Sum.inr z,v)]:=by
 refine X9 ?_
 rw [← Option.not_isSome_iff_eq_none,yB e z,decide_eq_false h];exact Bool.false_ne_true
inductive Wob (H:Hp) (CI CS CT:Addr) (N:Nt) (z:Str) (w:Addr):Prop where
 | i (k:Nat) (dx:Addr) (hk:N.ins[k]? =some z) (e:H w=some (.ins CI dx [("name",.str z),("number",nat k)])):Wob H CI CS CT N z w
 | s (ws:List Str) (dx tw:Addr) (hk:(z,ws)∈N.sums) (e:H w=some (.ins CS dx [("name",.str z),("wires",.ref tw)])) (et:H tw=some (.tup (ws.map V.str))):Wob H CI CS CT N z w
 | t (k:Nat) (y:Str) (dx:Addr) (hk:N.sts[k]? =some (z,y)) (e:H w=some (.ins CT dx [("name",.str z),("wire",.str y),("number",nat k)])):Wob H CI CS CT N z w
theorem Wob.same {H H2:Hp} {CI CS CT:Addr} {N:Nt} {z:Str} {w:Addr} (x:Wob H CI CS CT N z w) (h:Same H H2):Wob H2 CI CS CT N z w:=by
 cases x with
 | i k dx hk e=>exact .i k dx hk (h.get e)
 | s ws dx tw hk e et=>exact .s ws dx tw hk (h.get e) (h.get et)
 | t k y dx hk e=>exact .t k y dx hk (h.get e)
theorem Wob.name {H:Hp} {CI CS CT:Addr} {N:Nt} {z:Str} {w:Addr} (x:Wob H CI CS CT N z w):∃ C dx fs,H w=some (.ins C dx (("name",.str z)::fs))∧(C=CI∨C=CS∨C=CT):=by
 cases x with
 | i k dx hk e=>exact ⟨_,_,_,e,.inl rfl⟩
 | s ws dx tw hk e et=>exact ⟨_,_,_,e,.inr (.inl rfl)⟩
 | t k y dx hk e=>exact ⟨_,_,_,e,.inr (.inr rfl)⟩
structure WiA (H:Hp) (CI CS CT d:Addr) (N:Nt) (ws:List (Str×Addr)):Prop where
 d:H d=some (.dK (ws.map fun q=>(Sum.inr q.1,V.ref q.2)))
 nm:ws.map (·.1)=N.names
 ob:∀ q∈ws,Wob H CI CS CT N q.1 q.2
theorem WiA.same {H H2:Hp} {CI CS CT d:Addr} {N:Nt} {ws:List (Str×Addr)} (x:WiA H CI CS CT d N ws) (h:Same H H2):WiA H2 CI CS CT d N ws:=⟨h.get x.d,x.nm,fun q m=>(x.ob q m).same h⟩
theorem WiA.knw {H:Hp} {CI CS CT d:Addr} {N:Nt} {ws:List (Str×Addr)} (x:WiA H CI CS CT d N ws):Knw H d N.names:=⟨_,x.d,by rw [List.map_map,← x.nm,List.map_map];rfl⟩
noncomputable def Ps (CI CS CT:Addr):Sp:=fun vs H Q _=>∃ (i s t o:Addr) (rs:List Rw) (qs:List Qs) (N:Nt),vs=[.ref i,.ref s,.ref t]∧Kpt H i s t o rs qs N∧Gn N∧∀ (d:Addr) (H2:Hp) (ws:List (Str×Addr)),H d=none→Same H H2→WiA H2 CI CS CT d N ws→Q (.ref d) H2
noncomputable def gM (zs:List Str) (ws:List Str):Bool:=ws.any fun w=>decide (w∈zs)
noncomputable def XF:Sp:=fun vs H Q _=>∃ (r:Rw) (d:Addr) (zs:List Str),vs=[.ref r.1,.ref d]∧H r.1=some (.tup [.str r.2.2.1,.ref r.2.1])∧H r.2.1=some (.tup (r.2.2.2.map V.str))∧r.2.2.2.length≤24∧Knw H d zs∧∀ H2,Same H H2→Q (.bl (gM zs r.2.2.2)) H2
noncomputable def Pw:Sp:=fun vs H Q _=>∃ (s:Addr) (rs:List Rw) (N:Nt),vs=[.ref s]∧H s=some (.tup (rs.map fun r=>V.ref r.1))∧(∀ r∈rs,H r.1=some (.tup [.str r.2.2.1,.ref r.2.1])∧H r.2.1=some (.tup (r.2.2.2.map V.str)))∧rs.map (·.2.2)=N.sums∧Gn N∧∀ (D:Addr) (H2:Hp) (od:List Str),H D=none→Same H H2→H2 D=some (.lst (od.map V.str))→Topo N.sums od→Q (.ref D) H2
theorem o6 {H:Hp} {Q:VK} {l b:Addr} {xs zs:List V} (e1:H l=some (.lst xs)) (e2:H b=some (.lst zs)) (hl:xs.length + zs.length≤sizeLine) (h:∀ H2,Upd H H2 l (.lst (xs++zs))→Q .non H2):T5 (.ref l) [.ref b] H Q:=⟨l,b,xs,zs,rfl,rfl,e1,e2,hl,h _ Upd.of⟩
theorem Wob.keep {H H2:Hp} {CI CS CT:Addr} {N:Nt} {z:Str} {w D:Addr} {xs:List V} (x:Wob H CI CS CT N z w) (hD:H D=some (.lst xs)) (h:∀ b o,b≠D→H b=some o→H2 b=some o):Wob H2 CI CS CT N z w:=by
 cases x with
 | i k dx hk e=>exact .i k dx hk (h _ _ (dB e hD (fun z=>by cases z)) e)
 | s ws dx tw hk e et=>exact .s ws dx tw hk (h _ _ (dB e hD (fun z=>by cases z)) e) (h _ _ (dB et hD (fun z=>by cases z)) et)
 | t k y dx hk e=>exact .t k y dx hk (h _ _ (dB e hD (fun z=>by cases z)) e)
structure WL (H0 H:Hp) (CI CS CT:Addr) (N:Nt) (D:Addr) (ys:List V) (zs:List Str) (ws:List (Str×Addr)):Prop where
 ey:ys=ws.map fun q=>V.ref q.2
 nm:ws.map (·.1)=zs
 ob:∀ q∈ws,Wob H CI CS CT N q.1 q.2
 same:Same H0 H
 d:H D=some (.lst ys)
noncomputable def TF (K:PySem.W.Frag) (C:Addr):Sp:=fun vs H Q _=>∃ x dx nm tw ws,vs=[.ref x,nm,.ref tw]∧H tw=some (.tup ws)∧H x=some (.ins C dx [])∧
 ∀ H2,Upd H H2 x (.ins C dx [("name",nm),("wires",.ref tw)])→Q .non H2
theorem WL.put {H0 H H4:Hp} {CI CS CT:Addr} {N:Nt} {D:Addr} {ys:List V} {zs:List Str} {ws:List (Str×Addr)} (c:WL H0 H CI CS CT N D ys zs ws) (hD:H0 D=none) (s:Same H H4) {z:Str} {x:Addr} (wb:Wob H4 CI CS CT N z x) (lz:zs.length≤900) {zs':List Str} (ez:zs'=zs++[z]):
  H4 D=some (.lst ys)∧ys.length < sizeLine∧∃ ws,WL H0 (upd H4 D (.lst (ys++[.ref x]))) CI CS CT N D (ys++[.ref x]) zs' ws:=by
 have eD:=s.get c.d
 have k:∀ b o,b≠D→H4 b=some o→upd H4 D (.lst (ys++[.ref x])) b=some o:=fun b o n e=>by rw [aB n];exact e
 have lw:ys.length=zs.length:=by rw [c.ey,← c.nm,List.length_map,List.length_map]
 refine ⟨eD,aP (by omega),ws++[(z,x)],by rw [List.map_append,c.ey];rfl,by rw [List.map_append,c.nm,ez];rfl,fun q hq=>?_,fun b o e=>?_,av⟩
 ·rcases List.mem_append.mp hq with h | h
  ·exact ((c.ob q h).same s).keep eD k
  ·rw [List.mem_singleton] at h;subst h;exact wb.keep eD k
 ·exact k _ _ (ai e hD) (s.get (c.same.get e))
theorem WL.join {H0 H H2 H3:Hp} {CI CS CT:Addr} {N:Nt} {D D2:Addr} {ys ys2:List V} {zs zs2:List Str} {ws ws2:List (Str×Addr)} (c:WL H0 H CI CS CT N D ys zs ws) (c2:WL H H2 CI CS CT N D2 ys2 zs2 ws2) (hD:H0 D=none) (u:Upd H2 H3 D (.lst (ys++ys2))):
  WL H0 H3 CI CS CT N D (ys++ys2) (zs++zs2) (ws++ws2):=by
 have eD:=c2.same.get c.d
 refine ⟨by rw [List.map_append,c.ey,c2.ey],by rw [List.map_append,c.nm,c2.nm],fun q hq=>?_,fun b o e=>u.oth _ _ (ai e hD) (c2.same.get (c.same.get e)),u.at'⟩
 rcases List.mem_append.mp hq with h | h
 ·exact ((c.ob q h).same c2.same).keep eD u.oth
 ·exact (c2.ob q h).keep eD u.oth
structure Otp (sums:List (Str×List Str)) (od:List Str) (lf:List (Str×List Str)):Prop where
 perm:(od++lf.map (·.1)).Perm (sums.map (·.1))
 sub:∀ r∈lf,r∈sums
 need:∀ (i:Nat) z,od[i]? =some z→∀ ws,(z,ws)∈sums→∀ y∈ws,y∈sums.map (·.1)→y∈od.take i
theorem Otp.start (sums:List (Str×List Str)):Otp sums [] sums:=⟨List.Perm.refl _,fun _ h=>h,fun i z h=>by simp at h⟩
theorem Otp.done {sums:List (Str×List Str)} {od:List Str} (o:Otp sums od []):Topo sums od:=⟨by have:=o.perm;rwa [List.map_nil,List.append_nil] at this,o.need⟩
theorem Ux {sums:List (Str×List Str)} (nd:(sums.map (·.1)).Nodup) {z:Str} {ws ws':List Str} (h:(z,ws)∈sums) (h':(z,ws')∈sums):ws=ws':=by
 induction sums with
 | nil=>cases h
 | cons r l ih=>
   rw [List.map_cons,List.nodup_cons] at nd
   rcases List.mem_cons.mp h with e | h
   ·rcases List.mem_cons.mp h' with e' | h'
    ·rw [← e] at e';exact (Prod.mk.inj e').2.symm
    ·exact absurd (List.mem_map.mpr ⟨_,h',rfl⟩) (by rw [← e] at nd;exact nd.1)
   ·rcases List.mem_cons.mp h' with e' | h'
    ·exact absurd (List.mem_map.mpr ⟨_,h,rfl⟩) (by rw [← e'] at nd;exact nd.1)
    ·exact ih nd.2 h h'
theorem Otp.step {sums:List (Str×List Str)} (nd:(sums.map (·.1)).Nodup) {od:List Str} {lf:List (Str×List Str)} (o:Otp sums od lf):
  Otp sums (od++(lf.filter fun r=> !gM (lf.map (·.1)) r.2).map (·.1)) (lf.filter fun r=>gM (lf.map (·.1)) r.2):=by
 refine ⟨?_,fun r h=>o.sub r (List.mem_filter.mp h).1,fun i z hz ws hw y hy hs=>?_⟩
 ·refine List.Perm.trans ?_ o.perm
  rw [List.append_assoc,← List.map_append]
  refine List.Perm.append_left _ (List.Perm.map _ ?_)
  refine List.Perm.trans List.perm_append_comm ?_
  exact List.filter_append_perm _ _
 ·by_cases hi:i < od.length
  ·rw [List.getElem?_append_left hi] at hz
   rw [List.take_append_of_le_length (Nat.le_of_lt hi)]
   exact o.need i z hz ws hw y hy hs
  ·rw [List.getElem?_append_right (by omega)] at hz
   have hm:=List.mem_of_getElem? hz
   obtain ⟨r,hr,rfl⟩:=List.mem_map.mp hm
   obtain ⟨hr1,hr2⟩:=List.mem_filter.mp hr
   have e:ws=r.2:=Ux nd hw (o.sub r hr1)
   subst e
   have hn:y∉lf.map (·.1):=fun m=>by
    have:gM (lf.map (·.1)) r.2=true:=List.any_eq_true.mpr ⟨y,hy,decide_eq_true m⟩
    rw [this] at hr2
    cases hr2
   have:=(o.perm.mem_iff (a:=y)).mpr hs
   rcases List.mem_append.mp this with h | h
   ·rw [List.take_append,List.mem_append]
    left
    rw [List.take_of_length_le (by omega)]
    exact h
   ·exact absurd h hn
theorem E7 {α:Type} (f:α→Nat):∀ l:List α,l≠[]→∃ a∈l,∀ b∈l,f a≤f b
 | [],h=>absurd rfl h
 | [a],_=>⟨a,List.mem_singleton.mpr rfl,fun b h=>by rw [List.mem_singleton.mp h];exact Nat.le_refl _⟩
 | a::b::l,_=>by
   obtain ⟨c,hc,h⟩:=E7 f (b::l) (by simp)
   by_cases hac:f a≤f c
   ·exact ⟨a,List.mem_cons_self ..,fun d hd=>(List.mem_cons.mp hd).elim (fun e=>by rw [e];exact Nat.le_refl _) fun e=>Nat.le_trans hac (h d e)⟩
   ·exact ⟨c,List.mem_cons_of_mem _ hc,fun d hd=>(List.mem_cons.mp hd).elim (fun e=>by rw [e];omega) fun e=>h d e⟩
theorem Otp.ready {N:Nt} (g:Gn N) {od:List Str} {lf:List (Str×List Str)} (o:Otp N.sums od lf) (h:lf≠[]):0 < (lf.filter fun r=> !gM (lf.map (·.1)) r.2).length:=by
 obtain ⟨rank,hr⟩:=g.rk
 obtain ⟨r,hm,hl⟩:=E7 (fun r:Str×List Str=>rank r.1) lf h
 refine List.length_pos_of_mem (List.mem_filter.mpr ⟨hm,?_⟩)
 cases hw:gM (lf.map (·.1)) r.2 with
 | false=>rfl
 | true=>
   obtain ⟨y,hy,hy2⟩:=List.any_eq_true.mp hw
   obtain ⟨r2,hm2,rfl⟩:=List.mem_map.mp (of_decide_eq_true hy2)
   have h1:=hr r (o.sub r hm) _ hy (List.mem_map.mpr ⟨r2,o.sub r2 hm2,rfl⟩)
   have h2:=hl r2 hm2
   omega
theorem M9 {α:Type} (p:α→Bool):∀ l:List α,0 < (l.filter fun x=> !p x).length→(l.filter p).length < l.length:=fun l h=>by
 have:=(List.filter_append_perm p l).length_eq
 rw [List.length_append] at this
 omega
theorem Gn.nds {N:Nt} (g:Gn N):(N.sums.map (·.1)).Nodup:=by
 have:=g.nd
 unfold Nt.names at this
 rw [List.nodup_append,List.nodup_append] at this
 exact this.1.2.1
structure NetA (H:Hp) (C CI CS CT p:Addr) (N:Nt) (od:List Str):Prop where
 ho:∃ (dx i s t o d tq:Addr) (rs:List Rw) (qs:List Qs) (ws:List (Str×Addr)),H p=some (.ins C dx [("ins",.ref i),("sums",.ref s),("kept_stores",.ref t),("outs",.ref o),("by_name",.ref d),("sum_order",.ref tq)])∧Kpt H i s t o rs qs N∧WiA H CI CS CT d N ws∧H tq=some (.tup (od.map V.str))
 g:Gn N
 tp:Topo N.sums od
theorem NetA.same {H H2:Hp} {C CI CS CT p:Addr} {N:Nt} {od:List Str} (x:NetA H C CI CS CT p N od) (h:Same H H2):NetA H2 C CI CS CT p N od:=
 ⟨let ⟨dx,i,s,t,o,d,tq,rs,qs,ws,a,b,c,e⟩:=x.ho;⟨dx,i,s,t,o,d,tq,rs,qs,ws,h.get a,b.same h,c.same h,h.get e⟩,x.g,x.tp⟩
noncomputable def adh (C CI CS CT:Addr):Sp:=fun vs H Q _=>∃ (x dx i s t o:Addr) (rs:List Rw) (qs:List Qs) (N:Nt),vs=[.ref x,.ref i,.ref s,.ref t,.ref o]∧H x=some (.ins C dx [])∧Hnd H i s t o rs qs N∧Gn N∧
 ∀ (H2:Hp) (od:List Str),(∀ b ob,b≠x→H b=some ob→H2 b=some ob)→NetA H2 C CI CS CT x N od→Q .non H2
noncomputable def Kx (x:Addr) (H H2:Hp):Prop:=∀ b ob,b≠x→H b=some ob→H2 b=some ob
theorem Kx.trans {x:Addr} {H H2 H3:Hp} (a:Kx x H H2) (b:Kx x H2 H3):Kx x H H3:=fun c o n e=>b c o n (a c o n e)
theorem Kx.same {x:Addr} {H H2:Hp} (s:Same H H2):Kx x H H2:=fun _ _ _ e=>s.get e
theorem Kx.upd {x:Addr} {H H2:Hp} {o:HO} (u:Upd H H2 x o):Kx x H H2:=u.oth
theorem Kx.tup {x:Addr} {H H2:Hp} (k:Kx x H H2) {C dx:Addr} {fs:List (Str×V)} (hx:H x=some (.ins C dx fs)) {b:Addr} {xs:List V} (e:H b=some (.tup xs)):H2 b=some (.tup xs):=k b _ (dB e hx fun z=>by cases z) e
theorem Kx.lst {x:Addr} {H H2:Hp} (k:Kx x H H2) {C dx:Addr} {fs:List (Str×V)} (hx:H x=some (.ins C dx fs)) {b:Addr} {xs:List V} (e:H b=some (.lst xs)):H2 b=some (.lst xs):=k b _ (dB e hx fun z=>by cases z) e
theorem Kx.hnd {x:Addr} {H H2:Hp} (k:Kx x H H2) {C dx:Addr} {fs:List (Str×V)} (hx:H x=some (.ins C dx fs)) {i s t o:Addr} {rs:List Rw} {qs:List Qs} {N:Nt} (h:Hnd H i s t o rs qs N):Hnd H2 i s t o rs qs N:=
 ⟨k.lst hx h.i,k.lst hx h.s,fun r m=>⟨k.tup hx (h.sr r m).1,k.lst hx (h.sr r m).2⟩,h.es,k.lst hx h.t,fun q m=>k.tup hx (h.tr q m),h.et,k.lst hx h.o⟩
noncomputable def RwK (H:Hp) (rs:List Rw):Prop:=∀ r∈rs,H r.1=some (.tup [.str r.2.2.1,.ref r.2.1])∧H r.2.1=some (.tup (r.2.2.2.map V.str))
noncomputable def QsK (H:Hp) (qs:List Qs):Prop:=∀ q∈qs,H q.1=some (.tup [.str q.2.1,.str q.2.2])
theorem RwK.same {H H2:Hp} {rs:List Rw} (h:RwK H rs) (s:Same H H2):RwK H2 rs:=fun r m=>⟨s.get (h r m).1,s.get (h r m).2⟩
theorem QsK.same {H H2:Hp} {qs:List Qs} (h:QsK H qs) (s:Same H H2):QsK H2 qs:=fun q m=>s.get (h q m)
theorem Kx.rw {x:Addr} {H H2:Hp} (k:Kx x H H2) {C dx:Addr} {fs:List (Str×V)} (hx:H x=some (.ins C dx fs)) {rs:List Rw} (h:RwK H rs):RwK H2 rs:=fun r m=>⟨k.tup hx (h r m).1,k.tup hx (h r m).2⟩
theorem Kx.qs {x:Addr} {H H2:Hp} (k:Kx x H H2) {C dx:Addr} {fs:List (Str×V)} (hx:H x=some (.ins C dx fs)) {qs:List Qs} (h:QsK H qs):QsK H2 qs:=fun q m=>k.tup hx (h q m)
theorem RwK.updL {H H2:Hp} {rs:List Rw} (h:RwK H rs) {D:Addr} {xs:List V} (hD:H D=some (.lst xs)) (k:∀ b o,b≠D→H b=some o→H2 b=some o):RwK H2 rs:=fun r m=>⟨k _ _ (dB (h r m).1 hD fun z=>by cases z) (h r m).1,k _ _ (dB (h r m).2 hD fun z=>by cases z) (h r m).2⟩
theorem QsK.updL {H H2:Hp} {qs:List Qs} (h:QsK H qs) {D:Addr} {xs:List V} (hD:H D=some (.lst xs)) (k:∀ b o,b≠D→H b=some o→H2 b=some o):QsK H2 qs:=fun q m=>k _ _ (dB (h q m) hD fun z=>by cases z) (h q m)
theorem Kx.kpt {x:Addr} {H H2:Hp} (k:Kx x H H2) {C dx:Addr} {fs:List (Str×V)} (hx:H x=some (.ins C dx fs)) {i s t o:Addr} {rs:List Rw} {qs:List Qs} {N:Nt} (h:Kpt H i s t o rs qs N):Kpt H2 i s t o rs qs N:=
 ⟨k.tup hx h.i,k.tup hx h.s,fun r m=>⟨k.tup hx (h.sr r m).1,k.tup hx (h.sr r m).2⟩,h.es,k.tup hx h.t,fun q m=>k.tup hx (h.tr q m),h.et,k.tup hx h.o⟩
theorem Kx.wia {x:Addr} {H H2:Hp} (k:Kx x H H2) {CI CS CT d:Addr} {N:Nt} {ws:List (Str×Addr)} (h:WiA H CI CS CT d N ws) (hd:d≠x) (hw:∀ q∈ws,q.2≠x) {C dx:Addr} {fs:List (Str×V)} (hx:H x=some (.ins C dx fs)):WiA H2 CI CS CT d N ws:=
 ⟨k _ _ hd h.d,h.nm,fun q m=>by
  cases h.ob q m with
  | i k' dx' hk e=>exact .i k' dx' hk (k _ _ (hw q m) e)
  | s ws' dx' tw hk e et=>exact .s ws' dx' tw hk (k _ _ (hw q m) e) (k.tup hx et)
  | t k' y dx' hk e=>exact .t k' y dx' hk (k _ _ (hw q m) e)⟩
noncomputable def xb (f:Str→Bool) (ws:List Str):Bool:=ws.foldl (fun a w=>a^^f w) false
theorem ki (f:Str→Bool) (ws:List Str) (w:Str):xb f (ws++[w])=(xb f ws^^f w):=by unfold xb;rw [List.foldl_append];rfl
theorem yA {f g:Str→Bool}:∀ {ws:List Str},(∀ w∈ws,f w=g w)→xb f ws=xb g ws:=by
 intro ws
 induction ws using M.rev_ind with
 | h0=>intro _;rfl
 | h1 l x ih=>intro h;rw [ki,ki,ih fun w hw=>h w (List.mem_append_left _ hw),h x (List.mem_append_right _ (List.mem_singleton.mpr rfl))]
theorem ZD (f g:Str→Bool):∀ ws:List Str,xb (fun z=>f z^^g z) ws=(xb f ws^^xb g ws):=by
 intro ws
 induction ws using M.rev_ind with
 | h0=>rfl
 | h1 l x ih=>rw [ki,ki,ki,ih];cases xb f l<;>cases xb g l<;>cases f x<;>cases g x<;>rfl
structure Val (N:Nt) (row st:Nat) (f:Str→Bool):Prop where
 i:∀ (k:Nat) z,N.ins[k]? =some z→f z=row.testBit k
 t:∀ (k:Nat) z y,N.sts[k]? =some (z,y)→f z=st.testBit k
 s:∀ z ws,(z,ws)∈N.sums→f z=xb f ws
theorem Val.xor {N:Nt} {r r' s s':Nat} {f f':Str→Bool} (a:Val N r s f) (b:Val N r' s' f'):Val N (r^^^r') (s^^^s') (fun z=>f z^^f' z):=
 ⟨fun k z h=>by rw [Nat.testBit_xor,a.i k z h,b.i k z h],fun k z y h=>by rw [Nat.testBit_xor,a.t k z y h,b.t k z y h],fun z ws h=>by rw [ZD,a.s z ws h,b.s z ws h]⟩
theorem Val.uniq {N:Nt} (g:Gn N) {od:List Str} (tp:Topo N.sums od) {r s:Nat} {f f':Str→Bool} (a:Val N r s f) (b:Val N r s f'):∀ z∈N.names,f z=f' z:=by
 have hin:∀ z∈N.ins,f z=f' z:=fun z h=>by
  obtain ⟨k,hk⟩:=List.mem_iff_getElem?.mp h
  rw [a.i k z hk,b.i k z hk]
 have hst:∀ z∈N.sts.map (·.1),f z=f' z:=fun z h=>by
  obtain ⟨q,hq,rfl⟩:=List.mem_map.mp h
  obtain ⟨k,hk⟩:=List.mem_iff_getElem?.mp hq
  rw [a.t k q.1 q.2 hk,b.t k q.1 q.2 hk]
 have hsm:∀ n (k:Nat) z,k < n→od[k]? =some z→f z=f' z:=by
  intro n
  induction n with
  | zero=>intro k z h;omega
  | succ n ih=>
    intro k z hk hz
    obtain ⟨row,hrow,e⟩:=List.mem_map.mp (tp.perm.mem_iff.mp (List.mem_of_getElem? hz))
    have e:row.1=z:=e
    subst e
    rw [a.s row.1 row.2 hrow,b.s row.1 row.2 hrow]
    refine yA fun w hw=>?_
    have hwn:=g.ws row hrow w hw
    unfold Nt.names at hwn
    rcases List.mem_append.mp hwn with h | h
    ·rcases List.mem_append.mp h with h | h
     ·exact hin w h
     ·have:=tp.need k row.1 hz row.2 hrow w hw h
      obtain ⟨j,hj⟩:=List.mem_iff_getElem?.mp this
      have hjk:j < k:=by
       have:=(List.getElem?_eq_some_iff.mp hj).1
       rw [List.length_take] at this
       omega
      rw [List.getElem?_take_of_lt hjk] at hj
      exact ih j w (by omega) hj
    ·exact hst w h
 intro z hz
 unfold Nt.names at hz
 rcases List.mem_append.mp hz with h | h
 ·rcases List.mem_append.mp h with h | h
  ·exact hin z h
  ·obtain ⟨k,hk⟩:=List.mem_iff_getElem?.mp (tp.perm.mem_iff.mpr h)
   exact hsm (k + 1) k z (Nat.lt_succ_self k) hk
 ·exact hst z h
noncomputable def mat (f:Str→Bool) (ws:List Str):Nat:=M.pk (fun k=>f (ws.getD k "")) 0 ws.length
theorem re (f:Str→Bool) (ws:List Str) (k:Nat):(mat f ws).testBit k=(decide (k < ws.length)&&f (ws.getD k "")):=by unfold mat;rw [M.pk_bit,Nat.zero_add]
theorem aey (f:Str→Bool) (ws:List Str):mat f ws < 2 ^ ws.length:=M.pk_lt _ _ _
theorem Jp {f g:Str→Bool} {ws:List Str} (h:∀ w∈ws,f w=g w):mat f ws=mat g ws:=by
 apply Nat.eq_of_testBit_eq;intro k
 rw [re,re]
 by_cases hk:k < ws.length
 ·have:ws.getD k ""∈ws:=by rw [List.getD_eq_getElem?_getD,List.getElem?_eq_getElem hk];exact List.getElem_mem hk
  rw [h _ this]
 ·rw [decide_eq_false hk];rfl
theorem U5 (f g:Str→Bool) (ws:List Str):mat (fun z=>f z^^g z) ws=mat f ws^^^mat g ws:=by
 apply Nat.eq_of_testBit_eq;intro k
 rw [Nat.testBit_xor,re,re,re]
 cases decide (k < ws.length)<;>simp
noncomputable def fv (N:Nt) (row st:Nat):Str→Bool:=Classical.epsilon (Val N row st)
noncomputable def nan (N:Nt) (row st:Nat):Nat:=mat (fv N row st) N.outs
noncomputable def nst (N:Nt) (row st:Nat):Nat:=mat (fv N row st) (N.sts.map (·.2))
theorem Y6 {N:Nt} (g:Gn N) {od:List Str} (tp:Topo N.sums od) {r s:Nat} {f:Str→Bool} (a:Val N r s f):∀ z∈N.names,f z=fv N r s z:=a.uniq g tp (Classical.epsilon_spec ⟨f,a⟩)
theorem Jl {N:Nt} (g:Gn N) {od:List Str} (tp:Topo N.sums od) {r s:Nat} {f:Str→Bool} (a:Val N r s f):mat f N.outs=nan N r s:=Jp fun w h=>Y6 g tp a w (g.os w h)
theorem Jj {N:Nt} (g:Gn N) {od:List Str} (tp:Topo N.sums od) {r s:Nat} {f:Str→Bool} (a:Val N r s f):mat f (N.sts.map (·.2))=nst N r s:=Jp fun w h=>Y6 g tp a w (by obtain ⟨q,hq,rfl⟩:=List.mem_map.mp h;exact g.ts q hq)
theorem afY {N:Nt} (g:Gn N) {od:List Str} (tp:Topo N.sums od) {r r' s s':Nat} {f f':Str→Bool} (a:Val N r s f) (b:Val N r' s' f'):nan N (r^^^r') (s^^^s')=nan N r s^^^nan N r' s'∧nst N (r^^^r') (s^^^s')=nst N r s^^^nst N r' s':=by
 rw [← Jl g tp (a.xor b),← Jj g tp (a.xor b),U5,U5,Jl g tp a,Jl g tp b,Jj g tp a,Jj g tp b]
 exact ⟨rfl,rfl⟩
noncomputable def rst (N:Nt):Nat→List Nat→Nat
 | st,[]=>st
 | st,r::rs=>rst N (nst N r st) rs
noncomputable def ran (N:Nt):Nat→List Nat→List Nat
 | _,[]=>[]
 | st,r::rs=>nan N r st::ran N (nst N r st) rs
theorem FH (N:Nt) (r:Nat):∀ (rs:List Nat) (st:Nat),rst N st (rs++[r])=nst N r (rst N st rs)
 | [],_=>rfl
 | q::rs,st=>FH N r rs (nst N q st)
theorem FK (N:Nt) (r:Nat):∀ (rs:List Nat) (st:Nat),ran N st (rs++[r])=ran N st rs++[nan N r (rst N st rs)]
 | [],_=>rfl
 | q::rs,st=>by show nan N q st::ran N (nst N q st) (rs++[r])=_;rw [FK N r rs];rfl
theorem Li (N:Nt):∀ (rs:List Nat) (st:Nat),(ran N st rs).length=rs.length
 | [],_=>rfl
 | q::rs,st=>by show (ran N (nst N q st) rs).length + 1=_;rw [Li N rs];rfl
noncomputable def aff (N:Nt):Prop:=∀ r s,∃ f,Val N r s f
theorem T2 {N:Nt} (g:Gn N) {od:List Str} (tp:Topo N.sums od) (v:aff N):∀ (rs qs:List Nat) (s t:Nat),rs.length=qs.length→ran N (s^^^t) (List.zipWith (·^^^·) rs qs)=List.zipWith (·^^^·) (ran N s rs) (ran N t qs)∧rst N (s^^^t) (List.zipWith (·^^^·) rs qs)=rst N s rs^^^rst N t qs
 | [],[],_,_,_=>⟨rfl,rfl⟩
 | [],_::_,_,_,h=>by simp at h
 | _::_,[],_,_,h=>by simp at h
 | r::rs,q::qs,s,t,h=>by
   obtain ⟨f,hf⟩:=v r s
   obtain ⟨f',hf'⟩:=v q t
   obtain ⟨e1,e2⟩:=afY g tp hf hf'
   have ih:=T2 g tp v rs qs (nst N r s) (nst N q t) (by simpa using h)
   constructor
   ·show nan N (r^^^q) (s^^^t)::ran N (nst N (r^^^q) (s^^^t)) (List.zipWith (·^^^·) rs qs)=(nan N r s^^^nan N q t)::List.zipWith (·^^^·) (ran N (nst N r s) rs) (ran N (nst N q t) qs)
    rw [e1,e2,ih.1]
   ·show rst N (nst N (r^^^q) (s^^^t)) (List.zipWith (·^^^·) rs qs)=_
    rw [e2,ih.2];rfl
noncomputable def need (N:Nt) (od:List Str):List Str:=N.ins++N.sts.map (·.1)++od
structure Pre (N:Nt) (row st:Nat) (pre:List Str) (f:Str→Bool):Prop where
 i:∀ (k:Nat) z,N.ins[k]? =some z→z∈pre→f z=row.testBit k
 t:∀ (k:Nat) z y,N.sts[k]? =some (z,y)→z∈pre→f z=st.testBit k
 s:∀ z ws,(z,ws)∈N.sums→z∈pre→f z=xb f ws∧∀ w∈ws,w∈pre
structure Bt (N:Nt) (row st:Nat) (pre:List Str) (f:Str→Bool) (z:Str) (v:Bool):Prop where
 i:∀ k:Nat,N.ins[k]? =some z→v=row.testBit k
 t:∀ (k:Nat) y,N.sts[k]? =some (z,y)→v=st.testBit k
 s:∀ ws,(z,ws)∈N.sums→v=xb f ws∧∀ w∈ws,w∈pre
theorem Pre.nil (N:Nt) (row st:Nat) (f:Str→Bool):Pre N row st [] f:=⟨fun _ _ _ h=>absurd h (by simp),fun _ _ _ _ h=>absurd h (by simp),fun _ _ _ h=>absurd h (by simp)⟩
theorem Pre.step {N:Nt} {row st:Nat} {pre:List Str} {f:Str→Bool} (p:Pre N row st pre f) {z:Str} {v:Bool} (hz:z∉pre) (b:Bt N row st pre f z v):Pre N row st (pre++[z]) (fun y=>if y=z then v else f y):=by
 have old:∀ y,y∈pre→(if y=z then v else f y)=f y:=fun y hy=>if_neg (fun (e:y=z)=>hz (e ▸ hy))
 have xo:∀ ws:List Str,(∀ w∈ws,w∈pre)→xb (fun y=>if y=z then v else f y) ws=xb f ws:=fun ws h=>yA fun w hw=>old w (h w hw)
 refine ⟨fun k y hk hy=>?_,fun k y x hk hy=>?_,fun y ws hs hy=>?_⟩
 ·rcases List.mem_append.mp hy with h | h
  ·rw [old y h];exact p.i k y hk h
  ·rw [List.mem_singleton] at h;subst h;rw [if_pos rfl];exact b.i k hk
 ·rcases List.mem_append.mp hy with h | h
  ·rw [old y h];exact p.t k y x hk h
  ·rw [List.mem_singleton] at h;subst h;rw [if_pos rfl];exact b.t k x hk
 ·rcases List.mem_append.mp hy with h | h
  ·obtain ⟨e,hw⟩:=p.s y ws hs h
   rw [old y h,xo ws hw]
   exact ⟨e,fun w m=>List.mem_append_left _ (hw w m)⟩
  ·rw [List.mem_singleton] at h;subst h
   obtain ⟨e,hw⟩:=b.s ws hs
   rw [if_pos rfl,xo ws hw]
   exact ⟨e,fun w m=>List.mem_append_left _ (hw w m)⟩
section
variable {N:Nt} (g:Gn N)
include g
theorem mn:N.ins.Nodup∧(N.sums.map (·.1)).Nodup∧(N.sts.map (·.1)).Nodup∧(∀ z∈N.ins,z∉N.sums.map (·.1))∧(∀ z∈N.ins,z∉N.sts.map (·.1))∧∀ z∈N.sums.map (·.1),z∉N.sts.map (·.1):=by
 have h:=g.nd
 unfold Nt.names at h
 rw [List.nodup_append,List.nodup_append] at h
 obtain ⟨⟨a,b,c⟩,d,e⟩:=h
 exact ⟨a,b,d,fun z h1 h2=>c z h1 z h2 rfl,fun z h1 h2=>e z (List.mem_append_left _ h1) z h2 rfl,fun z h1 h2=>e z (List.mem_append_right _ h1) z h2 rfl⟩
theorem ae5 {row st:Nat} {pre:List Str} {f:Str→Bool} {k:Nat} {z:Str} (h:N.ins[k]? =some z):Bt N row st pre f z (row.testBit k):=by
 obtain ⟨a,b,c,d,e,_⟩:=mn g
 have hm:=List.mem_of_getElem? h
 refine ⟨fun j hj=>?_,fun j y hj=>?_,fun ws hs=>?_⟩
 ·have:k=j:=(List.getElem?_inj (List.getElem?_eq_some_iff.mp h).1 a).mp (h.trans hj.symm)
  rw [this]
 ·exact absurd (List.mem_map.mpr ⟨_,List.mem_of_getElem? hj,rfl⟩) (e z hm)
 ·exact absurd (List.mem_map.mpr ⟨_,hs,rfl⟩) (d z hm)
theorem ae4 {row st:Nat} {pre:List Str} {f:Str→Bool} {k:Nat} {z y:Str} (h:N.sts[k]? =some (z,y)):Bt N row st pre f z (st.testBit k):=by
 obtain ⟨a,b,c,d,e,e2⟩:=mn g
 have hm:z∈N.sts.map (·.1):=List.mem_map.mpr ⟨_,List.mem_of_getElem? h,rfl⟩
 refine ⟨fun j hj=>?_,fun j x hj=>?_,fun ws hs=>?_⟩
 ·exact absurd hm (e z (List.mem_of_getElem? hj))
 ·have h1:(N.sts.map (·.1))[k]? =some z:=by rw [List.getElem?_map,h];rfl
  have h2:(N.sts.map (·.1))[j]? =some z:=by rw [List.getElem?_map,hj];rfl
  have:k=j:=(List.getElem?_inj (List.getElem?_eq_some_iff.mp h1).1 c).mp (h1.trans h2.symm)
  rw [this]
 ·exact absurd hm (e2 z (List.mem_map.mpr ⟨_,hs,rfl⟩))
theorem aaC {row st:Nat} {pre:List Str} {f:Str→Bool} {z:Str} {ws:List Str} (h:(z,ws)∈N.sums) (hw:∀ w∈ws,w∈pre):Bt N row st pre f z (xb f ws):=by
 obtain ⟨a,b,c,d,e,e2⟩:=mn g
 have hm:z∈N.sums.map (·.1):=List.mem_map.mpr ⟨_,h,rfl⟩
 refine ⟨fun j hj=>?_,fun j x hj=>?_,fun ws' hs=>?_⟩
 ·exact absurd hm (d z (List.mem_of_getElem? hj))
 ·exact absurd (List.mem_map.mpr ⟨_,List.mem_of_getElem? hj,rfl⟩) (e2 z hm)
 ·have:=Ux b h hs
  subst this
  exact ⟨rfl,hw⟩
variable {od:List Str} (tp:Topo N.sums od)
include tp
theorem jW (z:Str):z∈need N od↔z∈N.names:=by
 unfold need Nt.names
 rw [List.mem_append,List.mem_append,List.mem_append,List.mem_append,tp.perm.mem_iff]
 constructor
 ·rintro ((h | h) | h)
  ·exact .inl (.inl h)
  ·exact .inr h
  ·exact .inl (.inr h)
 ·rintro ((h | h) | h)
  ·exact .inl (.inl h)
  ·exact .inr h
  ·exact .inl (.inr h)
theorem abJ:(need N od).Nodup:=by
 obtain ⟨a,b,c,d,e,e2⟩:=mn g
 unfold need
 rw [List.nodup_append,List.nodup_append]
 refine ⟨⟨a,c,fun x hx y hy z=>e x hx (z ▸ hy)⟩,tp.perm.nodup_iff.mpr b,fun x hx y hy z=>?_⟩
 have hy:=tp.perm.mem_iff.mp hy
 subst z
 rcases List.mem_append.mp hx with h | h
 ·exact d x h hy
 ·exact e2 x hy h
theorem Gr:(need N od).length≤62:=by
 have:=tp.perm.length_eq
 have h1:=g.li
 have h2:=g.ls
 have h3:=g.lt
 unfold need
 rw [List.length_map] at this
 rw [List.length_append,List.length_append,List.length_map]
 omega
theorem Ms {i:Nat} {z:Str} (h:(need N od)[i]? =some z):∀ ws,(z,ws)∈N.sums→∀ w∈ws,w∈(need N od).take i:=by
 intro ws hs w hw
 obtain ⟨a,b,c,d,e,e2⟩:=mn g
 have hm:z∈N.sums.map (·.1):=List.mem_map.mpr ⟨_,hs,rfl⟩
 unfold need at h ⊢
 have hi:(N.ins++N.sts.map (·.1)).length≤i:=by
  refine Nat.le_of_not_lt fun hlt=>?_
  rw [List.getElem?_append_left hlt] at h
  rcases List.mem_append.mp (List.mem_of_getElem? h) with h | h
  ·exact d z h hm
  ·exact e2 z hm h
 rw [List.getElem?_append_right hi] at h
 rw [List.take_append,List.mem_append,List.take_of_length_le hi]
 have hwn:=g.ws _ hs w hw
 unfold Nt.names at hwn
 rcases List.mem_append.mp hwn with h' | h'
 ·rcases List.mem_append.mp h' with h' | h'
  ·exact .inl (List.mem_append_left _ h')
  ·exact .inr (tp.need _ z h ws hs w hw h')
 ·exact .inl (List.mem_append_right _ h')
theorem aco {row st i:Nat} {f:Str→Bool} {z:Str} (h:(need N od)[i]? =some z):∃ v,Bt N row st ((need N od).take i) f z v:=by
 have hm:=(jW g tp z).mp (List.mem_of_getElem? h)
 unfold Nt.names at hm
 rcases List.mem_append.mp hm with h' | h'
 ·rcases List.mem_append.mp h' with h' | h'
  ·obtain ⟨k,hk⟩:=List.mem_iff_getElem?.mp h'
   exact ⟨_,ae5 g hk⟩
  ·obtain ⟨r,hr,rfl⟩:=List.mem_map.mp h'
   exact ⟨_,aaC g (ws:=r.2) hr (Ms g tp h r.2 hr)⟩
 ·obtain ⟨r,hr,rfl⟩:=List.mem_map.mp h'
  obtain ⟨k,hk⟩:=List.mem_iff_getElem?.mp hr
  exact ⟨_,ae4 g (y:=r.2) hk⟩
theorem z7 {i:Nat} {z:Str} (h:(need N od)[i]? =some z):z∉(need N od).take i:=fun m=>by
 have nd:=abJ g tp
 rw [← List.take_append_drop i (need N od),List.nodup_append] at nd
 exact nd.2.2 z m z (List.mem_of_getElem? (i:=0) (by rw [List.getElem?_drop,Nat.add_zero];exact h)) rfl
theorem Uf {row st:Nat} {f:Str→Bool} (p:Pre N row st (need N od) f):Val N row st f:=by
 have hin:∀ z,z∈N.names→z∈need N od:=fun z=>(jW g tp z).mpr
 refine ⟨fun k z h=>p.i k z h (hin z ?_),fun k z y h=>p.t k z y h (hin z ?_),fun z ws h=>(p.s z ws h (hin z ?_)).1⟩
 ·exact List.mem_append_left _ (List.mem_append_left _ (List.mem_of_getElem? h))
 ·exact List.mem_append_right _ (List.mem_map.mpr ⟨_,List.mem_of_getElem? h,rfl⟩)
 ·exact List.mem_append_left _ (List.mem_append_right _ (List.mem_map.mpr ⟨_,h,rfl⟩))
theorem Xt:aff N:=fun row st=>by
 have key:∀ n,n≤(need N od).length→∃ f,Pre N row st ((need N od).take n) f:=by
  intro n
  induction n with
  | zero=>intro _;exact ⟨fun _=>false,Pre.nil ..⟩
  | succ n ih=>
    intro hn
    obtain ⟨f,hf⟩:=ih (by omega)
    obtain ⟨z,hz⟩:∃ z,(need N od)[n]? =some z:=⟨_,List.getElem?_eq_getElem (by omega)⟩
    obtain ⟨v,hv⟩:=aco (row:=row) (st:=st) (f:=f) g tp hz
    have:=hf.step (z7 g tp hz) hv
    rw [← take_succ hz] at this
    exact ⟨_,this⟩
 obtain ⟨f,hf⟩:=key _ (Nat.le_refl _)
 rw [List.take_length] at hf
 exact ⟨f,Uf g tp hf⟩
end
noncomputable abbrev NP:=Hp→Addr→Nt→List Str→Prop
noncomputable def Px (NA:NP):Sp:=fun vs H Q _=>∃ (p:Addr) (N:Nt) (od:List Str),vs=[.ref p]∧NA H p N od∧∀ (D:Addr) (H2:Hp),H D=none→Same H H2→H2 D=some (.lst (N.ins.map V.str))→Q (.ref D) H2
noncomputable def aa0 (NA:NP):Sp:=fun vs H Q _=>∃ (p:Addr) (N:Nt) (od:List Str),vs=[.ref p]∧NA H p N od∧∀ (D:Addr) (H2:Hp),H D=none→Same H H2→H2 D=some (.lst (N.outs.map V.str))→Q (.ref D) H2
noncomputable def Ts (NA:NP):Sp:=fun vs H Q _=>∃ (p:Addr) (N:Nt) (od:List Str),vs=[.ref p]∧NA H p N od∧∀ (D:Addr) (H2:Hp) (qs:List Qs),H D=none→Same H H2→H2 D=some (.lst (qs.map fun q=>V.ref q.1))→QsK H2 qs→qs.map (·.2)=N.sts→Q (.ref D) H2
noncomputable def aa4 (NA:NP):Sp:=fun vs H Q _=>∃ (p:Addr) (N:Nt) (od:List Str),vs=[.ref p]∧NA H p N od∧∀ (D:Addr) (H2:Hp),H D=none→Same H H2→H2 D=some (.lst ((need N od).map V.str))→Q (.ref D) H2
noncomputable def Tp (NA:NP) (CI CS CT:Addr):Sp:=fun vs H Q _=>∃ (p:Addr) (N:Nt) (od:List Str) (z:Str),vs=[.ref p,.str z]∧NA H p N od∧z∈N.names∧∀ (w:Addr) (H2:Hp),Same H H2→Wob H2 CI CS CT N z w→Q (.ref w) H2
noncomputable def bitK (f:Str→Bool) (zs:List Str):List (Key×V):=zs.map fun z=>(Sum.inr z,nat (M.bn (f z)))
noncomputable def XG (NA:NP):Sp:=fun vs H Q _=>∃ (p:Addr) (N:Nt) (od:List Str) (row st:Nat),vs=[.ref p,nat row,nat st]∧NA H p N od∧∀ (d:Addr) (H2:Hp) (f:Str→Bool),H d=none→Same H H2→H2 d=some (.dK (bitK f (need N od)))→Val N row st f→Q (.ref d) H2
noncomputable def TB:Sp:=fun vs H Q _=>∃ (l d:Addr) (ws zs:List Str) (f:Str→Bool),vs=[.ref l,.ref d]∧H l=some (.lst (ws.map V.str))∧H d=some (.dK (bitK f zs))∧ws.length≤100∧(∀ w∈ws,w∈zs)∧∀ H2,Same H H2→Q (nat (mat f ws)) H2
theorem Ft (f:Str→Bool) {z:Str}:∀ {zs:List Str},z∈zs→valV (bitK f zs) (Sum.inr z)=some (nat (M.bn (f z)))
 | [],h=>by cases h
 | y::zs,h=>by
   unfold bitK
   rw [List.map_cons]
   by_cases e:y=z
   ·subst e;exact oY rfl
   ·rw [oZ fun h2=>e (Sum.inr.inj h2)]
    exact Ft f ((List.mem_cons.mp h).resolve_left fun h2=>e h2.symm)
theorem Wo (f:Str→Bool) (zs:List Str):(bitK f zs).map (·.1)=zs.map Sum.inr:=by unfold bitK;rw [List.map_map];rfl
theorem ac0 (a b:Bool):Builtin.bitXor ((M.bn a:Nat):Int) ((M.bn b:Nat):Int)=((M.bn (a^^b):Nat):Int):=by cases a<;>cases b<;>decide
theorem acb (f:Str→Bool):∀ ws:List Str,(ws.map fun w=>((M.bn (f w):Nat):Int)).foldl Builtin.bitXor 0=((M.bn (xb f ws):Nat):Int):=by
 intro ws
 induction ws using M.rev_ind with
 | h0=>rfl
 | h1 l x ih=>rw [List.map_append,List.foldl_append,ih,ki];exact ac0 _ _
theorem aex (f:Str→Bool) (ws:List Str):M.xm ((List.range ws.length).filter fun k=>f (ws.getD k ""))=mat f ws:=by
 have e:(List.range ws.length).filter (fun k=>f (ws.getD k ""))=M.pl ws.length (mat f ws):=by
  unfold M.pl
  refine List.filter_congr fun k hk=>?_
  rw [re,decide_eq_true (List.mem_range.mp hk)];rfl
 rw [e,Xn (aey f ws)]
structure RunA (NA:NP) (H:Hp) (C p l n:Addr) (N:Nt) (od:List Str) (st:Nat) (as:List Nat):Prop where
 ho:∃ (dx d:Addr),H p=some (.ins C dx [("net",.ref n),("held",nat st),("bits",.ref d),("given",.ref l)])
 hl:H l=some (.lst (as.map nat))
 na:NA H n N od
noncomputable def K2 (p l:Addr) (H H2:Hp):Prop:=∀ b ob,b≠p→b≠l→H b=some ob→H2 b=some ob
noncomputable def Pt (NA:NP) (C:Addr):Sp:=fun vs H Q _=>∃ (x dx n:Addr) (N:Nt) (od:List Str),vs=[.ref x,.ref n]∧H x=some (.ins C dx [])∧NA H n N od∧∀ (H2:Hp) (l:Addr),Kx x H H2→H l=none→RunA NA H2 C x l n N od 0 []→Q .non H2
noncomputable def XI (NA:NP) (C:Addr):Sp:=fun vs H Q _=>∃ (p l n:Addr) (N:Nt) (od:List Str) (st row:Nat) (as:List Nat),vs=[.ref p,nat row]∧RunA NA H C p l n N od st as∧row < 2 ^ N.ins.length∧as.length≤900∧∀ (H2:Hp),K2 p l H H2→RunA NA H2 C p l n N od (nst N row st) (as++[nan N row st])→Q (nat (nan N row st)) H2
noncomputable def Tu (NA:NP) (C:Addr):Sp:=fun vs H Q _=>∃ (p l n:Addr) (N:Nt) (od:List Str) (st:Nat) (as:List Nat),vs=[.ref p]∧RunA NA H C p l n N od st as∧Q (nat st) H
noncomputable def XJ (NA:NP) (C:Addr):Sp:=fun vs H Q _=>∃ (p l n:Addr) (N:Nt) (od:List Str) (st:Nat) (as:List Nat),vs=[.ref p]∧RunA NA H C p l n N od st as∧∀ (D:Addr) (H2:Hp),H D=none→Same H H2→H2 D=some (.lst (as.map nat))→Q (.ref D) H2
noncomputable def TL (NA:NP):Sp:=fun vs H Q _=>∃ (n r:Addr) (N:Nt) (od:List Str) (rs:List Nat),vs=[.ref n,.ref r]∧NA H n N od∧H r=some (.lst (rs.map nat))∧rs.length≤900∧(∀ x∈rs,x < 2 ^ N.ins.length)∧∀ (D:Addr) (H2:Hp),H D=none→Same H H2→H2 D=some (.lst ((ran N 0 rs).map nat))→Q (.ref D) H2
theorem NetA.keep {H H2:Hp} {C CI CS CT n:Addr} {N:Nt} {od:List Str} (x:NetA H C CI CS CT n N od) {p Cr dx:Addr} {fs:List (Str×V)} (hp:H p=some (.ins Cr dx fs)) (hf:(∀ (v:V) (r:List (Str×V)),fs≠(("name":Str),v)::r)∧∀ (v:V) (r:List (Str×V)),fs≠(("ins":Str),v)::r) (k:Kx p H H2):NetA H2 C CI CS CT n N od:=by
 obtain ⟨dx',i,s,t,o,d,tq,rs,qs,ws,a,b,c,e⟩:=x.ho
 have hws:∀ q∈ws,q.2≠p:=fun q hq z=>by
  obtain ⟨C',dx2,fs2,e2,_⟩:=(c.ob q hq).name
  rw [z,hp] at e2
  injection e2 with e2
  injection e2 with _ _ e2
  exact hf.1 _ _ e2
 have hn:n≠p:=fun z=>by
  rw [z,hp] at a
  injection a with a
  injection a with _ _ a
  exact hf.2 _ _ a
 exact ⟨⟨dx',i,s,t,o,d,tq,rs,qs,ws,k _ _ hn a,k.kpt hp b,k.wia c (dB c.d hp fun z=>by cases z) hws hp,k.tup hp e⟩,x.g,x.tp⟩
theorem NetA.updL {H H2:Hp} {C CI CS CT n:Addr} {N:Nt} {od:List Str} (x:NetA H C CI CS CT n N od) {l:Addr} {xs:List V} (hl:H l=some (.lst xs)) (k:Kx l H H2):NetA H2 C CI CS CT n N od:=by
 obtain ⟨dx',i,s,t,o,d,tq,rs,qs,ws,a,b,c,e⟩:=x.ho
 have tu:∀ {b:Addr} {ys:List V},H b=some (.tup ys)→H2 b=some (.tup ys):=fun e=>k _ _ (dB e hl fun z=>by cases z) e
 refine ⟨⟨dx',i,s,t,o,d,tq,rs,qs,ws,k _ _ (dB a hl fun z=>by cases z) a,⟨tu b.i,tu b.s,fun r m=>⟨tu (b.sr r m).1,tu (b.sr r m).2⟩,b.es,tu b.t,fun q m=>tu (b.tr q m),b.et,tu b.o⟩,⟨k _ _ (dB c.d hl fun z=>by cases z) c.d,c.nm,fun q m=>(c.ob q m).keep hl k⟩,tu e⟩,x.g,x.tp⟩
noncomputable def mixV (c k:Int):Int:=((c % 2147483647 * 48271 + 7919 * k + 11) % 2147483647 * ((c % 2147483647 * 48271 + 7919 * k + 11) % 2147483647) % 2147483629) * ((c % 2147483647 * 48271 + 7919 * k + 11) % 2147483647 * ((c % 2147483647 * 48271 + 7919 * k + 11) % 2147483647) % 2147483629 + 48271 * k + 7) % 2147483587
noncomputable def Ty:Sp:=fun vs H Q _=>∃ (c k:Int),vs=[.int c,.int k]∧0≤k∧k < 100000∧Q (.int (mixV c k)) H
noncomputable def Th:Str:=("cut x x0 x1 fresh new zero none nil tmp c c0 cut0 cut1 gnd off in out sum store":Str)++(" i0 i1 s0 s1 n0 n1 o0 o1 net wire a b z y0 t0 w w0 k dead open":Str)
noncomputable def W40:List Str:=Txt.split Th " "
theorem HI:W40.length=40:=by decide +kernel
theorem afe:W40.Nodup:=by decide +kernel
theorem afd:∀ z∈W40,nm z.cps.toList=true:=by decide +kernel
noncomputable def dval (l:List Nat):Nat:=l.foldl (fun a c=>10 * a + (c - 48)) 0
noncomputable def tx (n:Nat):Str:=(toString (n:Int):String)
theorem HY:∀ n:Fin 2500,(dval (tx n.1).cps.toList=n.1∧(tx n.1).cps.toList.all fig=true)∧(tx n.1).cps.toList.length≤4:=by decide +kernel
noncomputable def nmf (c k:Int):Str:=if mixV c 402 % 2=0 then W40.getD ((k + mixV c 403) % 40).toNat "" else (⟨#[97 + (mixV c 400 % 26).toNat]⟩:Str)++tx ((mixV c 401 % 1000).toNat + 37 * k.toNat)
theorem oV (x y:Str):(x++y).cps.toList=x.cps.toList++y.cps.toList:=by
 show (x.cps++y.cps).toList=_
 rw [Array.toList_append]
theorem aeq (c:Int) {k:Int} (h0:0≤k) (h1:k < 40):Nm (nmf c k):=by
 unfold nmf
 by_cases h:mixV c 402 % 2=0
 ·rw [if_pos h]
  have hi:((k + mixV c 403) % 40).toNat < W40.length:=by
   rw [HI]
   have:=Int.emod_lt_of_pos (k + mixV c 403) (show (0:Int) < 40 by decide)
   have:=Int.emod_nonneg (k + mixV c 403) (show (40:Int)≠0 by decide)
   omega
  rw [List.getD_eq_getElem?_getD,List.getElem?_eq_getElem hi]
  exact afd _ (List.getElem_mem hi)
 ·rw [if_neg h]
  have hb:(mixV c 401 % 1000).toNat + 37 * k.toNat < 2500:=by
   have:=Int.emod_lt_of_pos (mixV c 401) (show (0:Int) < 1000 by decide)
   have:=Int.emod_nonneg (mixV c 401) (show (1000:Int)≠0 by decide)
   omega
  obtain ⟨⟨_,h2⟩,h3⟩:=HY ⟨_,hb⟩
  have hd:low (97 + (mixV c 400 % 26).toNat)=true:=by
   have:=Int.emod_lt_of_pos (mixV c 400) (show (0:Int) < 26 by decide)
   have:=Int.emod_nonneg (mixV c 400) (show (26:Int)≠0 by decide)
   unfold low
   rw [decide_eq_true (by omega),decide_eq_true (by omega)];rfl
  show nm _=true
  rw [oV]
  show nm ((97 + (mixV c 400 % 26).toNat)::(tx ((mixV c 401 % 1000).toNat + 37 * k.toNat)).cps.toList)=true
  generalize hl:(tx ((mixV c 401 % 1000).toNat + 37 * k.toNat)).cps.toList=l at h2 h3
  generalize 97 + (mixV c 400 % 26).toNat=d at hd
  show (decide ((d::l).length≤6)&&low d&&(d::l).all fun c=>low c||fig c)=true
  rw [hd,List.all_cons,hd]
  have h2':l.all (fun c=>low c||fig c)=true:=by
   rw [List.all_eq_true] at h2 ⊢
   intro x hx
   rw [h2 x hx,Bool.or_true]
  rw [h2',List.length_cons,decide_eq_true (by omega)];rfl
theorem abI (c:Int) {j k:Int} (j0:0≤j) (j1:j < 40) (k0:0≤k) (k1:k < 40) (e:nmf c j=nmf c k):j=k:=by
 unfold nmf at e
 by_cases h:mixV c 402 % 2=0
 ·rw [if_pos h,if_pos h] at e
  have hj:=Int.emod_lt_of_pos (j + mixV c 403) (show (0:Int) < 40 by decide)
  have hj':=Int.emod_nonneg (j + mixV c 403) (show (40:Int)≠0 by decide)
  have hk:=Int.emod_lt_of_pos (k + mixV c 403) (show (0:Int) < 40 by decide)
  have hk':=Int.emod_nonneg (k + mixV c 403) (show (40:Int)≠0 by decide)
  have lj:((j + mixV c 403) % 40).toNat < W40.length:=by rw [HI];omega
  have lk:((k + mixV c 403) % 40).toNat < W40.length:=by rw [HI];omega
  rw [List.getD_eq_getElem?_getD,List.getD_eq_getElem?_getD,List.getElem?_eq_getElem lj,List.getElem?_eq_getElem lk] at e
  have e2:W40[((j + mixV c 403) % 40).toNat]? =W40[((k + mixV c 403) % 40).toNat]? :=by rw [List.getElem?_eq_getElem lj,List.getElem?_eq_getElem lk];exact congrArg some e
  have:=(List.getElem?_inj lj afe).mp e2
  omega
 ·rw [if_neg h,if_neg h] at e
  have hm:=Int.emod_lt_of_pos (mixV c 401) (show (0:Int) < 1000 by decide)
  have hm':=Int.emod_nonneg (mixV c 401) (show (1000:Int)≠0 by decide)
  have hbj:(mixV c 401 % 1000).toNat + 37 * j.toNat < 2500:=by omega
  have hbk:(mixV c 401 % 1000).toNat + 37 * k.toNat < 2500:=by omega
  have e2:=congrArg (fun z:Str=>z.cps.toList) e
  simp only [oV] at e2
  have e3:=List.append_cancel_left e2
  have e4:=congrArg dval e3
  rw [(HY ⟨_,hbj⟩).1.1,(HY ⟨_,hbk⟩).1.1] at e4
  have e4:(mixV c 401 % 1000).toNat + 37 * j.toNat=(mixV c 401 % 1000).toNat + 37 * k.toNat:=e4
  omega
noncomputable def ED:Sp:=fun vs H Q _=>∃ (c k:Int),vs=[.int c,.int k]∧0≤k∧k < 40∧∀ H2,Same H H2→Q (.str (nmf c k)) H2
noncomputable def TC:Sp:=fun vs H Q _=>∃ (c:Int) (st:Int) (l:Addr) (zs:List Str) (dg:Bool),vs=[.int c,.int st,.ref l,.bl dg]∧0≤st∧st≤900∧H l=some (.lst (zs.map V.str))∧zs.length≤50∧∀ (D:Addr) (H2:Hp) (ws:List Str),H D=none→Same H H2→H2 D=some (.lst (ws.map V.str))→ws.length≤4→(∀ w∈ws,w∈zs)→Q (.ref D) H2
theorem QZ (i:Int) (h0:0≤i) (h1:i < 26):atI ("abcdefghijklmnopqrstuvwxyz":Str).cps.toList i=some (97 + i.toNat):=by
 have e:("abcdefghijklmnopqrstuvwxyz":Str).cps.toList=List.range' 97 26:=by decide +kernel
 obtain ⟨j,rfl⟩:=Int.eq_ofNat_of_zero_le h0
 rw [e]
 refine fO ?_
 rw [List.getElem?_range' (by omega)]
 show some (97 + 1 * j)=some (97 + (j:Int).toNat)
 rw [Nat.one_mul,Int.toNat_natCast]
noncomputable def RwL (H:Hp) (rs:List Rw):Prop:=∀ r∈rs,H r.1=some (.tup [.str r.2.2.1,.ref r.2.1])∧H r.2.1=some (.lst (r.2.2.2.map V.str))
theorem RwL.same {H H2:Hp} {rs:List Rw} (h:RwL H rs) (s:Same H H2):RwL H2 rs:=fun r m=>⟨s.get (h r m).1,s.get (h r m).2⟩
noncomputable def nms (c:Int) (a n:Nat):List Str:=(List.range n).map fun k=>nmf c ((a + k:Nat):Int)
theorem d2 (c:Int) (a n:Nat):(nms c a n).length=n:=by unfold nms;rw [List.length_map,List.length_range]
theorem sC (c:Int) (a n:Nat):nms c a (n + 1)=nms c a n++[nmf c ((a + n:Nat):Int)]:=by unfold nms;rw [List.range_succ,List.map_append];rfl
theorem oi {c:Int} {a n:Nat} {z:Str} (h:z∈nms c a n):∃ k,k < n∧z=nmf c ((a + k:Nat):Int):=by
 obtain ⟨k,hk,rfl⟩:=List.mem_map.mp h
 exact ⟨k,List.mem_range.mp hk,rfl⟩
theorem aep {c:Int} {a n k:Nat} (h:k < n):nmf c ((a + k:Nat):Int)∈nms c a n:=List.mem_map.mpr ⟨k,List.mem_range.mpr h,rfl⟩
theorem Gp (c:Int) {j k:Nat} (j1:j < 40) (k1:k < 40) (e:nmf c (j:Int)=nmf c (k:Int)):j=k:=by
 have:=abI c (by omega) (by omega) (by omega) (by omega) e
 omega
structure Mk (c:Int) (ni nt:Nat) (rows:List (Str×List Str)):Prop where
 nm:rows.map (·.1)=nms c 22 rows.length
 ws:∀ (k:Nat) r,rows[k]? =some r→r.2.length≤4∧∀ w∈r.2,w∈nms c 0 ni++nms c 6 nt++nms c 22 k
theorem Mk.nil (c:Int) (ni nt:Nat):Mk c ni nt []:=⟨rfl,fun k r h=>by simp at h⟩
theorem Mk.put {c:Int} {ni nt:Nat} {rows:List (Str×List Str)} (m:Mk c ni nt rows) {ws:List Str} (l:ws.length≤4) (h:∀ w∈ws,w∈nms c 0 ni++nms c 6 nt++nms c 22 rows.length):Mk c ni nt (rows++[(nmf c ((22 + rows.length:Nat):Int),ws)]):=by
 refine ⟨by rw [List.map_append,m.nm,List.length_append,List.length_singleton,sC];rfl,fun k r hk=>?_⟩
 by_cases hlt:k < rows.length
 ·rw [List.getElem?_append_left hlt] at hk
  exact m.ws k r hk
 ·rw [List.getElem?_append_right (by omega)] at hk
  have:k - rows.length=0:=by
   have:=(List.getElem?_eq_some_iff.mp hk).1
   rw [List.length_singleton] at this
   omega
  rw [this] at hk
  cases hk
  rw [show k=rows.length by omega]
  exact ⟨l,h⟩
noncomputable def xf (f:Str→Nat) (ws:List Str):Nat:=ws.foldl (fun a w=>a^^^f w) 0
theorem qx (f:Str→Nat) (ws:List Str) (w:Str):xf f (ws++[w])=xf f ws^^^f w:=by unfold xf;rw [List.foldl_append];rfl
theorem ZB (f:Str→Nat) (j:Nat):∀ ws:List Str,(xf f ws).testBit j=xb (fun w=>(f w).testBit j) ws:=by
 intro ws
 induction ws using M.rev_ind with
 | h0=>show (0:Nat).testBit j=false;exact Nat.zero_testBit j
 | h1 l x ih=>rw [qx,ki,Nat.testBit_xor,ih]
theorem ael (f:Str→Nat) (y:Nat):∀ ws:List Str,M.od (xf f ws&&&y)=xb (fun w=>M.od (f w&&&y)) ws:=by
 intro ws
 induction ws using M.rev_ind with
 | h0=>show M.od (0&&&y)=false;rw [Nat.zero_and];exact M.od_zero
 | h1 l x ih=>rw [qx,ki,Nat.and_comm,M.and_xor,M.od_xor,Nat.and_comm y,Nat.and_comm y,ih]
theorem VJ (f:Str→Nat):∀ ws:List Str,(ws.map fun w=>((f w:Nat):Int)).foldl Builtin.bitXor 0=((xf f ws:Nat):Int):=by
 intro ws
 induction ws using M.rev_ind with
 | h0=>rfl
 | h1 l x ih=>rw [qx,List.map_append,List.foldl_append,ih];exact jf _ _
structure Hng (N:Nt) (p:Str→Nat×Nat):Prop where
 i:∀ (k:Nat) z,N.ins[k]? =some z→p z=(0,2 ^ k)
 t:∀ (k:Nat) z y,N.sts[k]? =some (z,y)→p z=(2 ^ k,0)
 s:∀ z ws,(z,ws)∈N.sums→p z=(xf (fun w=>(p w).1) ws,xf (fun w=>(p w).2) ws)
noncomputable def hvl (p:Str→Nat×Nat) (row st:Nat):Str→Bool:=fun z=>M.od ((p z).1&&&st)^^M.od ((p z).2&&&row)
theorem Hng.val {N:Nt} (g:Gn N) {p:Str→Nat×Nat} (h:Hng N p) (row st:Nat):Val N row st (hvl p row st):=by
 refine ⟨fun k z hk=>?_,fun k z y hk=>?_,fun z ws hz=>?_⟩
 ·have:=(List.getElem?_eq_some_iff.mp hk).1
  have:=g.li
  unfold hvl
  rw [h.i k z hk,Nat.zero_and,M.od_zero,M.od_pow (by omega)]
  exact Bool.false_xor _
 ·have:=(List.getElem?_eq_some_iff.mp hk).1
  have:=g.lt
  unfold hvl
  rw [h.t k z y hk,Nat.zero_and,M.od_zero,M.od_pow (by omega)]
  exact Bool.xor_false _
 ·unfold hvl
  rw [h.s z ws hz,ael,ael]
  exact (ZD _ _ ws).symm
noncomputable def hgp (N:Nt) (z:Str):Nat×Nat:=(M.pk (fun k=>fv N 0 (2 ^ k) z) 0 N.sts.length,M.pk (fun k=>fv N (2 ^ k) 0 z) 0 N.ins.length)
theorem aeL (N:Nt) (z:Str):(hgp N z).1 < 2 ^ N.sts.length:=M.pk_lt _ _ _
theorem aeK (N:Nt) (z:Str):(hgp N z).2 < 2 ^ N.ins.length:=M.pk_lt _ _ _
theorem ZE (b:Bool) (f:Str→Bool):∀ ws:List Str,xb (fun w=>b&&f w) ws=(b&&xb f ws):=by
 intro ws
 induction ws using M.rev_ind with
 | h0=>show false=(b&&false);rw [Bool.and_false]
 | h1 l x ih=>rw [ki,ki,ih];cases b<;>simp
theorem M3 {N:Nt} (g:Gn N) {od:List Str} (tp:Topo N.sums od):Hng N (hgp N):=by
 have v:∀ r s,Val N r s (fv N r s):=fun r s=>Classical.epsilon_spec (Xt g tp r s)
 refine ⟨fun k z hk=>?_,fun k z y hk=>?_,fun z ws hz=>?_⟩
 ·have hl:=(List.getElem?_eq_some_iff.mp hk).1
  refine Prod.ext (Nat.eq_of_testBit_eq fun j=>?_) (Nat.eq_of_testBit_eq fun j=>?_)
  ·show (M.pk _ 0 _).testBit j=(0:Nat).testBit j
   rw [M.pk_bit,Nat.zero_add,(v 0 (2 ^ j)).i k z hk,Nat.zero_testBit,Nat.zero_testBit,Bool.and_false]
  ·show (M.pk _ 0 _).testBit j=(2 ^ k:Nat).testBit j
   rw [M.pk_bit,Nat.zero_add,(v (2 ^ j) 0).i k z hk,Nat.testBit_two_pow,Nat.testBit_two_pow]
   by_cases e:k=j
   ·subst e;rw [decide_eq_true hl,decide_eq_true rfl];rfl
   ·rw [show decide (k=j)=false from decide_eq_false e,show decide (j=k)=false from decide_eq_false (fun h=>e h.symm),Bool.and_false]
 ·have hl:=(List.getElem?_eq_some_iff.mp hk).1
  refine Prod.ext (Nat.eq_of_testBit_eq fun j=>?_) (Nat.eq_of_testBit_eq fun j=>?_)
  ·show (M.pk _ 0 _).testBit j=(2 ^ k:Nat).testBit j
   rw [M.pk_bit,Nat.zero_add,(v 0 (2 ^ j)).t k z y hk,Nat.testBit_two_pow,Nat.testBit_two_pow]
   by_cases e:k=j
   ·subst e;rw [decide_eq_true hl,decide_eq_true rfl];rfl
   ·rw [show decide (k=j)=false from decide_eq_false e,show decide (j=k)=false from decide_eq_false (fun h=>e h.symm),Bool.and_false]
  ·show (M.pk _ 0 _).testBit j=(0:Nat).testBit j
   rw [M.pk_bit,Nat.zero_add,(v (2 ^ j) 0).t k z y hk,Nat.zero_testBit,Nat.zero_testBit,Bool.and_false]
 ·refine Prod.ext (Nat.eq_of_testBit_eq fun j=>?_) (Nat.eq_of_testBit_eq fun j=>?_)
  ·show (M.pk _ 0 _).testBit j=(xf _ ws).testBit j
   rw [M.pk_bit,Nat.zero_add,(v 0 (2 ^ j)).s z ws hz,ZB,← ZE]
   exact yA fun w _=>by show _=(M.pk _ 0 _).testBit j;rw [M.pk_bit,Nat.zero_add]
  ·show (M.pk _ 0 _).testBit j=(xf _ ws).testBit j
   rw [M.pk_bit,Nat.zero_add,(v (2 ^ j) 0).s z ws hz,ZB,← ZE]
   exact yA fun w _=>by show _=(M.pk _ 0 _).testBit j;rw [M.pk_bit,Nat.zero_add]
theorem UG {x j:Nat} (h:j < 1000):M.od (x&&&2 ^ j)=x.testBit j:=by rw [Nat.and_comm];exact M.od_pow h x
theorem aar {N:Nt} (g:Gn N) {od:List Str} (tp:Topo N.sums od) {p:Str→Nat×Nat} (h:Hng N p) {z:Str} (hz:z∈N.names) (b1:(p z).1 < 2 ^ N.sts.length) (b2:(p z).2 < 2 ^ N.ins.length):hgp N z=p z:=by
 have li:=g.li
 have lt:=g.lt
 refine Prod.ext (Nat.eq_of_testBit_eq fun j=>?_) (Nat.eq_of_testBit_eq fun j=>?_)
 ·show (M.pk _ 0 _).testBit j=(p z).1.testBit j
  rw [M.pk_bit,Nat.zero_add]
  by_cases hj:j < N.sts.length
  ·rw [← Y6 g tp (h.val g 0 (2 ^ j)) z hz,decide_eq_true hj]
   unfold hvl
   rw [Nat.and_zero,M.od_zero,UG (by omega)];simp
  ·rw [decide_eq_false hj,Nat.testBit_lt_two_pow (Nat.lt_of_lt_of_le b1 (Nat.pow_le_pow_right (by decide) (by omega)))];rfl
 ·show (M.pk _ 0 _).testBit j=(p z).2.testBit j
  rw [M.pk_bit,Nat.zero_add]
  by_cases hj:j < N.ins.length
  ·rw [← Y6 g tp (h.val g (2 ^ j) 0) z hz,decide_eq_true hj]
   unfold hvl
   rw [Nat.and_zero,M.od_zero,UG (by omega)];simp
  ·rw [decide_eq_false hj,Nat.testBit_lt_two_pow (Nat.lt_of_lt_of_le b2 (Nat.pow_le_pow_right (by decide) (by omega)))];rfl
theorem aam (p:Str→Nat×Nat) (row st:Nat) (ws:List Str):mat (hvl p row st) ws=M.tr2 (ws.map p) st row:=by
 apply Nat.eq_of_testBit_eq;intro k
 rw [re,M.tr2_bit,List.length_map]
 by_cases hk:k < ws.length
 ·have e1:(ws.map p).getD k (0,0)=p (ws.getD k ""):=by rw [List.getD_eq_getElem?_getD,List.getElem?_map,List.getD_eq_getElem?_getD,List.getElem?_eq_getElem hk];rfl
  rw [e1];unfold hvl;exact Eq.refl _
 ·rw [decide_eq_false hk,Bool.false_and,Bool.false_and]
section
variable {N:Nt} (g:Gn N) {od:List Str} (tp:Topo N.sums od) {p:Str→Nat×Nat} (h:Hng N p)
include g tp h
theorem aer (row st:Nat):nan N row st=M.tr2 (N.outs.map p) st row:=by rw [← Jl g tp (h.val g row st),aam]
theorem aaa (row st:Nat):nst N row st=M.tr2 ((N.sts.map (·.2)).map p) st row:=by rw [← Jj g tp (h.val g row st),aam]
theorem ZR:∀ (rs:List Nat) (st:Nat),rst N st rs=M.wst ((N.sts.map (·.2)).map p) st rs
 | [],_=>rfl
 | r::rs,st=>by show rst N (nst N r st) rs=M.wst _ (M.tr2 _ st r) rs;rw [ZR rs,aaa g tp h]
theorem T3:∀ (rs:List Nat) (st:Nat),ran N st rs=M.wan ((N.sts.map (·.2)).map p) (N.outs.map p) st rs
 | [],_=>rfl
 | r::rs,st=>by show nan N r st::ran N (nst N r st) rs=M.tr2 _ st r::M.wan _ _ (M.tr2 _ st r) rs;rw [T3 rs,aaa g tp h,aer g tp h]
end
structure Hgd (H:Hp) (d:Addr) (N:Nt) (zs:List Str) (hs:List (Str×Addr)):Prop where
 d:H d=some (.dK (hs.map fun q=>(Sum.inr q.1,V.ref q.2)))
 nm:hs.map (·.1)=zs
 ob:∀ q∈hs,H q.2=some (.tup [nat (hgp N q.1).1,nat (hgp N q.1).2])
theorem Hgd.same {H H2:Hp} {d:Addr} {N:Nt} {zs:List Str} {hs:List (Str×Addr)} (x:Hgd H d N zs hs) (s:Same H H2):Hgd H2 d N zs hs:=⟨s.get x.d,x.nm,fun q m=>s.get (x.ob q m)⟩
theorem Xu {hs:List (Str×Addr)} {z:Str}:z∈hs.map (·.1)→∃ t,(z,t)∈hs∧valV (hs.map fun q=>((Sum.inr q.1:Key),V.ref q.2)) (Sum.inr z)=some (.ref t):=by
 induction hs with
 | nil=>intro h;cases h
 | cons q hs ih=>
   intro h
   by_cases e:q.1=z
   ·subst e
    exact ⟨q.2,List.mem_cons_self,by show valV ((Sum.inr q.1,V.ref q.2)::_) (Sum.inr q.1)=_;exact oY rfl⟩
   ·have h':z∈hs.map (·.1):=by
     rw [List.map_cons,List.mem_cons] at h
     exact h.resolve_left fun e'=>e e'.symm
    obtain ⟨t,m,v⟩:=ih h'
    refine ⟨t,List.mem_cons_of_mem _ m,?_⟩
    show valV ((Sum.inr q.1,V.ref q.2)::_) (Sum.inr z)=_
    rw [oZ fun e'=>e (Sum.inr.inj e')]
    exact v
theorem Hgd.val {H:Hp} {d:Addr} {N:Nt} {zs:List Str} {hs:List (Str×Addr)} (x:Hgd H d N zs hs) {z:Str} (h:z∈zs):∃ t,valV (hs.map fun q=>((Sum.inr q.1:Key),V.ref q.2)) (Sum.inr z)=some (.ref t)∧H t=some (.tup [nat (hgp N z).1,nat (hgp N z).2]):=by
 obtain ⟨t,m,v⟩:=Xu (hs:=hs) (z:=z) (by rw [x.nm];exact h)
 exact ⟨t,v,x.ob _ m⟩
noncomputable def XT (NA:NP):Sp:=fun vs H Q _=>∃ (p:Addr) (N:Nt) (od:List Str),vs=[.ref p]∧NA H p N od∧∀ (d:Addr) (H2:Hp) (hs:List (Str×Addr)),H d=none→Same H H2→Hgd H2 d N (need N od) hs→Q (.ref d) H2
noncomputable def XH (NA:NP) (C:Addr):Sp:=fun vs H Q _=>∃ (p:Addr) (N:Nt) (od:List Str),vs=[.ref p]∧NA H p N od∧∀ (x:Addr) (H2:Hp) (nx os:List Pr3),H x=none→Same H H2→MaA H2 C x N.ins.length nx os→MaG N.ins.length nx os→prs nx=(N.sts.map (·.2)).map (hgp N)→prs os=N.outs.map (hgp N)→Q (.ref x) H2
noncomputable def nmb (l:Str) (n:Nat):List Str:=(List.range n).map fun k=>l++tx k
theorem bF (l:Str) (n:Nat):(nmb l n).length=n:=by unfold nmb;rw [List.length_map,List.length_range]
theorem Ym (l:Str) (n:Nat):nmb l (n + 1)=nmb l n++[l++tx n]:=by unfold nmb;rw [List.range_succ,List.map_append];rfl
theorem Gq {l:Str} {n k:Nat} (h:k < n):(nmb l n)[k]? =some (l++tx k):=by unfold nmb;rw [List.getElem?_map,List.getElem?_range h];rfl
theorem aab {l:Str} {n k:Nat} (h:k < n):l++tx k∈nmb l n:=List.mem_of_getElem? (Gq h)
theorem Jk {l:Str} {n k:Nat} {z:Str} (h:(nmb l n)[k]? =some z):k < n∧z=l++tx k:=by
 have hk:=(List.getElem?_eq_some_iff.mp h).1
 rw [bF] at hk
 rw [Gq hk] at h
 exact ⟨hk,(Option.some.inj h).symm⟩
theorem uL {l:Str} {n:Nat} {z:Str} (h:z∈nmb l n):∃ k,k < n∧z=l++tx k:=by
 obtain ⟨k,hk⟩:=List.mem_iff_getElem?.mp h
 exact ⟨k,Jk hk⟩
theorem J8:("s":Str).cps.toList=[115]:=by decide +kernel
theorem Kb:("i":Str).cps.toList=[105]:=by decide +kernel
theorem Ka:("n":Str).cps.toList=[110]:=by decide +kernel
theorem J9:("o":Str).cps.toList=[111]:=by decide +kernel
theorem tX {k:Nat} (h:k < 2500):dval (tx k).cps.toList=k:=(HY ⟨k,h⟩).1.1
theorem Uy {l l':Str} {c d j k:Nat} (h1:l.cps.toList=[c]) (h2:l'.cps.toList=[d]) (hj:j < 2500) (hk:k < 2500) (e:l++tx j=l'++tx k):c=d∧j=k:=by
 have e2:=congrArg (fun z:Str=>z.cps.toList) e
 simp only [oV] at e2
 rw [h1,h2,List.singleton_append,List.singleton_append] at e2
 injection e2 with a b
 have:=congrArg dval b
 rw [tX hj,tX hk] at this
 exact ⟨a,this⟩
theorem OE {l:Str} {c k:Nat} (h1:l.cps.toList=[c]) (hc:low c=true) (hk:k < 2500):Nm (l++tx k):=by
 obtain ⟨⟨_,h2⟩,h3⟩:=HY ⟨k,hk⟩
 show nm _=true
 rw [oV,h1,List.singleton_append]
 generalize hl:(tx k).cps.toList=l at h2 h3
 show (decide ((c::l).length≤6)&&low c&&(c::l).all fun c=>low c||fig c)=true
 rw [hc,List.all_cons,hc]
 have h2':l.all (fun c=>low c||fig c)=true:=by
  rw [List.all_eq_true] at h2 ⊢
  intro x hx
  rw [h2 x hx,Bool.or_true]
 rw [h2',List.length_cons,decide_eq_true (by omega)];rfl
theorem OH {l:Str} {c n:Nat} (h1:l.cps.toList=[c]) (hn:n≤2500):(nmb l n).Nodup:=by
 unfold nmb
 rw [List.nodup_iff_pairwise_ne,List.pairwise_map]
 refine List.Pairwise.imp_of_mem (fun {a b} ha hb hab e=>?_) (List.pairwise_lt_range (n:=n))
 have:=(Uy h1 h1 (by have:=List.mem_range.mp ha;omega) (by have:=List.mem_range.mp hb;omega) e).2
 omega
theorem kA {l l':Str} {c d n n':Nat} (h1:l.cps.toList=[c]) (h2:l'.cps.toList=[d]) (hcd:c≠d) (hn:n≤2500) (hn':n'≤2500) {z:Str} (hz:z∈nmb l n):z∉nmb l' n':=fun hz'=>by
 obtain ⟨j,hj,rfl⟩:=uL hz
 obtain ⟨k,hk,e⟩:=uL hz'
 exact hcd (Uy h1 h2 (by omega) (by omega) e).1
noncomputable def wr2 (q:Nat×Nat):List Str:=(M.pl 1000 q.1).map (fun k=>("s":Str)++tx k)++(M.pl 1000 q.2).map (fun k=>("i":Str)++tx k)
noncomputable def iE (m:Nat) (ps os:List (Nat×Nat)):Nt:=⟨nmb "i" m,List.zip (nmb "n" ps.length++nmb "o" os.length) ((ps++os).map wr2),List.zip (nmb "s" ps.length) (nmb "n" ps.length),nmb "o" os.length⟩
structure Sml (m:Nat) (ps os:List (Nat×Nat)):Prop where
 m6:m≤6
 lp:ps.length≤16
 lo:os.length≤6
 bn:∀ q∈ps++os,q.1 < 2 ^ ps.length∧q.2 < 2 ^ m
section
variable {m:Nat} {ps os:List (Nat×Nat)} (b:Sml m ps os)
include b
theorem Tg {q:Nat×Nat} (hq:q∈ps++os) {z:Str} (h:z∈wr2 q):z∈nmb "s" ps.length∨z∈nmb "i" m:=by
 have hb:=b.bn q hq
 rcases List.mem_append.mp h with h | h
 ·obtain ⟨k,hk,rfl⟩:=List.mem_map.mp h
  exact .inl (aab (M.pl_lt hb.1 k hk))
 ·obtain ⟨k,hk,rfl⟩:=List.mem_map.mp h
  exact .inr (aab (M.pl_lt hb.2 k hk))
theorem OK:(iE m ps os).sums.map (·.1)=nmb "n" ps.length++nmb "o" os.length:=by
 show (List.zip _ _).map Prod.fst=_
 rw [List.map_fst_zip]
 rw [List.length_append,bF,bF,List.length_map,List.length_append];exact Nat.le_refl _
theorem OJ:(iE m ps os).sts.map (·.1)=nmb "s" ps.length:=by
 show (List.zip _ _).map Prod.fst=_
 rw [List.map_fst_zip]
 rw [bF,bF];exact Nat.le_refl _
theorem OI:(iE m ps os).sts.map (·.2)=nmb "n" ps.length:=by
 show (List.zip _ _).map Prod.snd=_
 rw [List.map_snd_zip]
 rw [bF,bF];exact Nat.le_refl _
theorem jx:(iE m ps os).names=nmb "i" m++(nmb "n" ps.length++nmb "o" os.length)++nmb "s" ps.length:=by
 unfold Nt.names
 rw [OK b,OJ b];rfl
theorem z8 {z:Str} {ws:List Str} (h:(z,ws)∈(iE m ps os).sums):∃ q∈ps++os,ws=wr2 q:=by
 have:=(List.of_mem_zip (show (z,ws)∈List.zip _ _ from h)).2
 obtain ⟨q,hq,e⟩:=List.mem_map.mp this
 exact ⟨q,hq,e.symm⟩
theorem uN:Gn (iE m ps os) where
 li:=by show (nmb "i" m).length≤6;rw [bF];exact b.m6
 ls:=by
  show (List.zip _ _).length≤40
  have:=b.lp;have:=b.lo
  rw [List.length_zip,List.length_append,bF,bF,List.length_map,List.length_append];omega
 lt:=by
  show (List.zip _ _).length≤16
  have:=b.lp
  rw [List.length_zip,bF,bF];omega
 lo:=by show (nmb "o" os.length).length≤6;rw [bF];exact b.lo
 lw:=fun r hr=>by
  obtain ⟨q,hq,e⟩:=z8 b (z:=r.1) (ws:=r.2) hr
  rw [e]
  unfold wr2
  have hb:=b.bn q hq
  have e1:M.pl 1000 q.1=M.pl ps.length q.1:=M.pl_up hb.1 (by have:=b.lp;omega)
  have e2:M.pl 1000 q.2=M.pl m q.2:=M.pl_up hb.2 (by have:=b.m6;omega)
  rw [List.length_append,List.length_map,List.length_map,e1,e2]
  have:=M.pl_le ps.length q.1
  have:=M.pl_le m q.2
  have:=b.lp;have:=b.m6
  omega
 nm:=fun z hz=>by
  have:=b.lp;have:=b.lo;have:=b.m6
  rw [jx b] at hz
  rcases List.mem_append.mp hz with h | h
  ·rcases List.mem_append.mp h with h | h
   ·obtain ⟨k,hk,rfl⟩:=uL h;exact OE Kb (by decide) (by omega)
   ·rcases List.mem_append.mp h with h | h
    ·obtain ⟨k,hk,rfl⟩:=uL h;exact OE Ka (by decide) (by omega)
    ·obtain ⟨k,hk,rfl⟩:=uL h;exact OE J9 (by decide) (by omega)
  ·obtain ⟨k,hk,rfl⟩:=uL h;exact OE J8 (by decide) (by omega)
 nd:=by
  have:=b.lp;have:=b.lo;have:=b.m6
  rw [jx b,List.nodup_append,List.nodup_append,List.nodup_append]
  refine ⟨⟨OH Kb (by omega),⟨OH Ka (by omega),OH J9 (by omega),fun x hx y hy e=>kA Ka J9 (by decide) (by omega) (by omega) hx (e ▸ hy)⟩,fun x hx y hy e=>?_⟩,OH J8 (by omega),fun x hx y hy e=>?_⟩
  ·subst e
   rcases List.mem_append.mp hy with h | h
   ·exact kA Kb Ka (by decide) (by omega) (by omega) hx h
   ·exact kA Kb J9 (by decide) (by omega) (by omega) hx h
  ·subst e
   rcases List.mem_append.mp hx with h | h
   ·exact kA Kb J8 (by decide) (by omega) (by omega) h hy
   ·rcases List.mem_append.mp h with h | h
    ·exact kA Ka J8 (by decide) (by omega) (by omega) h hy
    ·exact kA J9 J8 (by decide) (by omega) (by omega) h hy
 ws:=fun r hr z hz=>by
  obtain ⟨q,hq,e⟩:=z8 b (z:=r.1) (ws:=r.2) hr
  rw [e] at hz
  rw [jx b]
  rcases Tg b hq hz with h | h
  ·exact List.mem_append_right _ h
  ·exact List.mem_append_left _ (List.mem_append_left _ h)
 ts:=fun r hr=>by
  have:r.2∈(iE m ps os).sts.map (·.2):=List.mem_map.mpr ⟨r,hr,rfl⟩
  rw [OI b] at this
  rw [jx b]
  exact List.mem_append_left _ (List.mem_append_right _ (List.mem_append_left _ this))
 os:=fun z hz=>by
  rw [jx b]
  exact List.mem_append_left _ (List.mem_append_right _ (List.mem_append_right _ hz))
 rk:=⟨fun _=>0,fun r hr z hz hs=>by
  have:=b.lp;have:=b.lo;have:=b.m6
  obtain ⟨q,hq,e⟩:=z8 b (z:=r.1) (ws:=r.2) hr
  rw [e] at hz
  rw [OK b] at hs
  rcases Tg b hq hz with h | h
  ·rcases List.mem_append.mp hs with h' | h'
   ·exact absurd h' (kA J8 Ka (by decide) (by omega) (by omega) h)
   ·exact absurd h' (kA J8 J9 (by decide) (by omega) (by omega) h)
  ·rcases List.mem_append.mp hs with h' | h'
   ·exact absurd h' (kA Kb Ka (by decide) (by omega) (by omega) h)
   ·exact absurd h' (kA Kb J9 (by decide) (by omega) (by omega) h)⟩
end
noncomputable def dec (ps os:List (Nat×Nat)) (z:Str):Nat×Nat:=match z.cps.toList with
 | []=>(0,0)
 | c::r=>if c=105 then (0,2 ^ dval r) else if c=115 then (2 ^ dval r,0) else if c=110 then ps.getD (dval r) (0,0) else os.getD (dval r) (0,0)
theorem ach (ps os:List (Nat×Nat)) {k:Nat} (h:k < 2500):dec ps os (("i":Str)++tx k)=(0,2 ^ k):=by
 unfold dec;rw [oV,Kb,List.singleton_append];dsimp only;rw [if_pos rfl,tX h]
theorem acg (ps os:List (Nat×Nat)) {k:Nat} (h:k < 2500):dec ps os (("s":Str)++tx k)=(2 ^ k,0):=by
 unfold dec;rw [oV,J8,List.singleton_append];dsimp only;rw [if_neg (by decide),if_pos rfl,tX h]
theorem ae0 (ps os:List (Nat×Nat)) {k:Nat} (h:k < 2500):dec ps os (("n":Str)++tx k)=ps.getD k (0,0):=by
 unfold dec;rw [oV,Ka,List.singleton_append];dsimp only;rw [if_neg (by decide),if_neg (by decide),if_pos rfl,tX h]
theorem aeZ (ps os:List (Nat×Nat)) {k:Nat} (h:k < 2500):dec ps os (("o":Str)++tx k)=os.getD k (0,0):=by
 unfold dec;rw [oV,J9,List.singleton_append];dsimp only;rw [if_neg (by decide),if_neg (by decide),if_neg (by decide),tX h]
theorem ZC (f:Str→Nat) (a c:List Str):xf f (a++c)=xf f a^^^xf f c:=by
 induction c using M.rev_ind with
 | h0=>rw [List.append_nil];exact (Nat.xor_zero _).symm
 | h1 l x ih=>rw [← List.append_assoc,qx,qx,ih,Nat.xor_assoc]
theorem ZA (f:Str→Nat):∀ (ws:List Str),(∀ w∈ws,f w=0)→xf f ws=0:=by
 intro ws
 induction ws using M.rev_ind with
 | h0=>intro _;rfl
 | h1 l x ih=>intro h;rw [qx,ih fun w hw=>h w (List.mem_append_left _ hw),h x (List.mem_append_right _ (List.mem_singleton.mpr rfl))];rfl
theorem Zz (f:Str→Nat) (nm:Nat→Str):∀ (l:List Nat),(∀ k∈l,f (nm k)=2 ^ k)→xf f (l.map nm)=M.xm l:=by
 intro l
 induction l using M.rev_ind with
 | h0=>intro _;rfl
 | h1 l x ih=>intro h;rw [List.map_append,List.map_singleton,qx,M.xm_snoc,ih fun w hw=>h w (List.mem_append_left _ hw),h x (List.mem_append_right _ (List.mem_singleton.mpr rfl))]
theorem acf (ps os:List (Nat×Nat)) {q:Nat×Nat} (h1:q.1 < 2 ^ 1000) (h2:q.2 < 2 ^ 1000):(xf (fun w=>(dec ps os w).1) (wr2 q),xf (fun w=>(dec ps os w).2) (wr2 q))=q:=by
 have hl:∀ {x k:Nat},k∈M.pl 1000 x→k < 2500:=fun {x k} h=>by
  have:=List.mem_range.mp (List.mem_filter.mp h).1;omega
 unfold wr2
 rw [ZC,ZC]
 refine Prod.ext ?_ ?_
 ·show _^^^_=q.1
  rw [Zz _ _ _ (fun k hk=>by rw [acg _ _ (hl hk)]),ZA _ _ (fun w hw=>by obtain ⟨k,hk,rfl⟩:=List.mem_map.mp hw;rw [ach _ _ (hl hk)]),Xn h1,Nat.xor_zero]
 ·show _^^^_=q.2
  rw [ZA _ (List.map _ (M.pl 1000 q.1)) (fun w hw=>by obtain ⟨k,hk,rfl⟩:=List.mem_map.mp hw;rw [acg _ _ (hl hk)]),Zz _ _ _ (fun k hk=>by rw [ach _ _ (hl hk)]),Xn h2,Nat.zero_xor]
section
variable {m:Nat} {ps os:List (Nat×Nat)} (b:Sml m ps os)
include b
theorem UT:Hng (iE m ps os) (dec ps os) where
 i:=fun k z h=>by
  have:=b.m6
  obtain ⟨hk,rfl⟩:=Jk (show (nmb "i" m)[k]? =some z from h)
  exact ach _ _ (by omega)
 t:=fun k z y h=>by
  have:=b.lp
  have h':=(List.getElem?_zip_eq_some (l₁:=nmb "s" ps.length) (l₂:=nmb "n" ps.length)).mp h
  obtain ⟨hk,e⟩:=Jk h'.1
  have e:z=_:=e
  rw [e]
  exact acg _ _ (by omega)
 s:=fun z ws h=>by
  have:=b.lp;have:=b.lo;have:=b.m6
  obtain ⟨k,hk⟩:=List.mem_iff_getElem?.mp h
  have h':=(List.getElem?_zip_eq_some (l₁:=nmb "n" ps.length++nmb "o" os.length) (l₂:=(ps++os).map wr2)).mp hk
  obtain ⟨h1,h2⟩:=h'
  have h1:(nmb "n" ps.length++nmb "o" os.length)[k]? =some z:=h1
  have h2:((ps++os).map wr2)[k]? =some ws:=h2
  rw [List.getElem?_map] at h2
  obtain ⟨q,hq,rfl⟩:=Option.map_eq_some_iff.mp h2
  have hb:=b.bn q (List.mem_of_getElem? hq)
  rw [acf ps os (Nat.lt_of_lt_of_le hb.1 (Nat.pow_le_pow_right (by decide) (by omega))) (Nat.lt_of_lt_of_le hb.2 (Nat.pow_le_pow_right (by decide) (by omega)))]
  by_cases hlt:k < ps.length
  ·rw [List.getElem?_append_left (by rw [bF];exact hlt)] at h1
   obtain ⟨_,rfl⟩:=Jk h1
   rw [ae0 _ _ (by omega),List.getD_eq_getElem?_getD]
   rw [List.getElem?_append_left hlt] at hq
   rw [hq];rfl
  ·rw [List.getElem?_append_right (by rw [bF];omega),bF] at h1
   obtain ⟨_,rfl⟩:=Jk h1
   rw [aeZ _ _ (by omega),List.getD_eq_getElem?_getD]
   rw [List.getElem?_append_right (by omega)] at hq
   rw [hq];rfl
theorem Yo:(iE m ps os).sts.length=ps.length:=by
 have:=congrArg List.length (OJ b)
 rw [List.length_map,bF] at this;exact this
theorem aay:((iE m ps os).sts.map (·.2)).map (dec ps os)=ps:=by
 rw [OI b]
 have:=b.lp
 apply List.ext_getElem?
 intro k
 rw [List.getElem?_map]
 by_cases hk:k < ps.length
 ·rw [Gq hk,Option.map_some,ae0 _ _ (by omega),List.getD_eq_getElem?_getD,List.getElem?_eq_getElem hk];rfl
 ·rw [List.getElem?_eq_none (by rw [bF];omega),List.getElem?_eq_none (by omega)];rfl
theorem aax:(iE m ps os).outs.map (dec ps os)=os:=by
 show (nmb "o" os.length).map _=os
 have:=b.lo
 apply List.ext_getElem?
 intro k
 rw [List.getElem?_map]
 by_cases hk:k < os.length
 ·rw [Gq hk,Option.map_some,aeZ _ _ (by omega),List.getD_eq_getElem?_getD,List.getElem?_eq_getElem hk];rfl
 ·rw [List.getElem?_eq_none (by rw [bF];omega),List.getElem?_eq_none (by omega)];rfl
theorem US {od:List Str} (tp:Topo (iE m ps os).sums od):((iE m ps os).sts.map (·.2)).map (hgp (iE m ps os))=ps∧(iE m ps os).outs.map (hgp (iE m ps os))=os:=by
 have g:=uN b
 have hn:=UT b
 have bd:∀ q∈ps++os,q.1 < 2 ^ (iE m ps os).sts.length∧q.2 < 2 ^ (iE m ps os).ins.length:=fun q hq=>by
  rw [Yo b,show (iE m ps os).ins.length=m from bF _ _]
  exact b.bn q hq
 constructor
 ·refine Eq.trans (List.map_congr_left fun z hz=>?_) (aay b)
  have hm:dec ps os z∈ps:=by have:=List.mem_map.mpr ⟨z,hz,(rfl:dec ps os z=_)⟩;rw [aay b] at this;exact this
  have hb:=bd _ (List.mem_append_left _ hm)
  obtain ⟨q,hq,rfl⟩:=List.mem_map.mp hz
  exact aar g tp hn (g.ts q hq) hb.1 hb.2
 ·refine Eq.trans (List.map_congr_left fun z hz=>?_) (aax b)
  have hm:dec ps os z∈os:=by have:=List.mem_map.mpr ⟨z,hz,(rfl:dec ps os z=_)⟩;rw [aax b] at this;exact this
  have hb:=bd _ (List.mem_append_right _ hm)
  exact aar g tp hn (g.os z hz) hb.1 hb.2
end
theorem Zl {k:Nat} (hk:k≤1000):((k:Int)).natAbs.log2 < 1920:=by
 rw [Int.natAbs_natCast]
 rcases Nat.eq_zero_or_pos k with z | z
 ·rw [z];decide
 ·exact (Nat.log2_lt (by omega)).mpr (Nat.lt_of_lt_of_le (show k < 2 ^ 14 by omega) (Nat.pow_le_pow_right (by decide) (by decide)))
theorem Wb {l:Str} {k:Nat} (hl:l.length≤10) (hk:k≤1000):l.length + (tx k).length≤sizeLine:=by
 have hlen:=PyProof.Rows.int_text_len_1921 (Zl hk)
 rw [sizeLine_eq]
 show l.length + (toString (k:Int):Str).length≤_
 omega
noncomputable def aa2:Sp:=fun vs H Q _=>∃ (l:Str) (n:Nat),vs=[.str l,nat n]∧l.length≤10∧n≤1000∧∀ (D:Addr) (H2:Hp),H D=none→Same H H2→H2 D=some (.lst ((nmb l n).map V.str))→Q (.ref D) H2
noncomputable def aa3:Sp:=fun vs H Q _=>∃ (z:Str) (t:Addr) (x y:Nat),vs=[.str z,.ref t]∧H t=some (.tup [nat x,nat y])∧x < 2 ^ 1000∧y < 2 ^ 1000∧∀ (tt D:Addr) (H2:Hp),H D=none→Same H H2→H2 tt=some (.tup [.str z,.ref D])→H2 D=some (.lst ((wr2 (x,y)).map V.str))→Q (.ref tt) H2
noncomputable def XM (NA:NP) (C:Addr):Sp:=fun vs H Q _=>∃ (p:Addr) (m:Nat) (nx os:List Pr3),vs=[.ref p]∧MaA H C p m nx os∧Sml m (prs nx) (prs os)∧∀ (n:Addr) (H2:Hp) (od:List Str),H n=none→Same H H2→NA H2 n (iE m (prs nx) (prs os)) od→Q (.ref n) H2
noncomputable def Tq (K:PySem.W.Frag) (C B:Addr):Sp:=fun vs H Q E=>∃ (p rr:Addr) (m:Nat) (nx os:List Pr3) (xs:List V),vs=[.ref p,.ref rr]∧MaA H C p m nx os∧MaG m nx os∧SqL K H rr xs∧Ob K H xs∧xs.length≤900∧
 (∀ rs:List Nat,xs=rs.map nat→(∀ r∈rs,r < 2 ^ m)→∀ (D:Addr) (H2:Hp),H D=none→Same H H2→H2 D=some (.lst ((M.wan (prs nx) (prs os) 0 rs).map nat))→Q (.ref D) H2)∧
 ((∃ y∈xs,mq y m=false)→∀ H2,Same H H2→E (.ref B) none H2)
structure Sgl (H:Hp) (D:Addr) (ds:List Addr) (ps os:List (Nat×Nat)) (n m:Nat):Prop where
 d:H D=some (.lst (ds.map V.ref))
 len:ds.length=m
 at':∀ (w:Nat) (d:Addr),ds[w]? =some d→H d=some (.lst ((M.wan ps os 0 (M.pulse w n)).map nat))
theorem UU {m:Nat}:∀ {xs:List V},(∀ y∈xs,mq y m=true)→∃ rs:List Nat,xs=rs.map nat∧∀ r∈rs,r < 2 ^ m
 | [],_=>⟨[],rfl,fun _ h=>by cases h⟩
 | x::xs,h=>by
   obtain ⟨rs,rfl,hr⟩:=UU (xs:=xs) fun y hy=>h y (List.mem_cons_of_mem _ hy)
   obtain ⟨a,rfl,ha⟩:=yF (h x List.mem_cons_self)
   exact ⟨a::rs,rfl,fun r hr'=>(List.mem_cons.mp hr').elim (fun e=>e ▸ ha) (hr r)⟩
noncomputable def strD (z:Str):Dt:= .str z
structure TldA (H:Hp) (t D1 D2 D3 D4:Addr) (rs:List Rw) (qs:List Qs) (N:Nt):Prop where
 t:H t=some (.tup [.ref D1,.ref D2,.ref D3,.ref D4])
 i:H D1=some (.lst (N.ins.map V.str))
 s:H D2=some (.lst (rs.map fun r=>V.ref r.1))
 sr:RwK H rs
 es:rs.map (·.2.2)=N.sums
 st:H D3=some (.lst (qs.map fun r=>V.ref r.1))
 tr:QsK H qs
 et:qs.map (·.2)=N.sts
 o:H D4=some (.lst (N.outs.map V.str))
noncomputable def aaX (NA:NP):Sp:=fun vs H Q _=>∃ (p:Addr) (N:Nt) (od:List Str),vs=[.ref p]∧NA H p N od∧∀ (D:Addr) (H2:Hp) (rs:List Rw),H D=none→Same H H2→H2 D=some (.lst (rs.map fun r=>V.ref r.1))→RwK H2 rs→rs.map (·.2.2)=N.sums→Q (.ref D) H2
structure Sumd (rows:List Nat) (x q:Nat):Prop where
 lt:q < 2 ^ rows.length
 sm:M.sm rows q=x
 fr:M.Frs rows q
structure Bard (rows:List Nat) (x m:Nat):Prop where
 ns:¬ M.Span rows x
 bar:∃ y,M.Span rows y∧x^^^y≠0∧af6 rows (x^^^y).log2∧M.Bar rows (x^^^y).log2 m
 ev:∀ y,M.Span rows y→M.od (m&&&y)=false
 odd:M.od (m&&&x)=true
 lt:∀ W,(∀ r∈rows,r < 2 ^ W)→x < 2 ^ W→m < 2 ^ W
end Sx
namespace L2
open PySem
theorem Us {X:Cx} {K:PySem.W.Frag} (h:X.K=K):OpR X (compareOp .NotIn) (rIn K true):=by subst h;exact IK
end L2
namespace Sx
open PySem L2
noncomputable def J (c:Nat):List (List Nat)→List Nat
 | []=>[]
 | [x]=>x
 | x::y::r=>x++c::J c (y::r)
theorem aaA {c:Nat}:∀ {x y a b:List Nat},c∉x→c∉y→x++c::a=y++c::b→x=y∧a=b
 | [],[],a,b,_,_,h=>⟨rfl,(List.cons.inj h).2⟩
 | [],d::y,a,b,_,hy,h=>absurd (by rw [(List.cons.inj h).1];exact List.mem_cons_self) hy
 | d::x,[],a,b,hx,_,h=>absurd (by rw [← (List.cons.inj h).1];exact List.mem_cons_self) hx
 | d::x,e::y,a,b,hx,hy,h=>by
   obtain ⟨h1,h2⟩:=List.cons.inj h
   obtain ⟨h3,h4⟩:=aaA (fun z=>hx (List.mem_cons_of_mem _ z)) (fun z=>hy (List.mem_cons_of_mem _ z)) h2
   exact ⟨by rw [h1,h3],h4⟩
theorem afj {c:Nat}:∀ (ws vs:List (List Nat)),ws≠[]→vs≠[]→(∀ w∈ws,c∉w)→(∀ w∈vs,c∉w)→J c ws=J c vs→ws=vs
 | [],_,h,_,_,_,_=>absurd rfl h
 | _,[],_,h,_,_,_=>absurd rfl h
 | [x],[y],_,_,_,_,h=>by rw [show x=y from h]
 | [x],y::z::r,_,_,hx,_,h=>absurd (by rw [show x=y++c::J c (z::r) from h];simp) (hx x List.mem_cons_self)
 | x::y::r,[z],_,_,_,hz,h=>absurd (by rw [show z=x++c::J c (y::r) from h.symm];simp) (hz z List.mem_cons_self)
 | x::y::r,x'::y'::r',_,_,hx,hz,h=>by
   obtain ⟨h1,h2⟩:=aaA (hx x List.mem_cons_self) (hz x' List.mem_cons_self) (show x++c::J c (y::r)=x'++c::J c (y'::r') from h)
   rw [h1,afj (y::r) (y'::r') (by simp) (by simp) (fun w hw=>hx w (List.mem_cons_of_mem _ hw)) (fun w hw=>hz w (List.mem_cons_of_mem _ hw)) h2]
theorem wy (c:Nat):∀ ws:List Str,(Str.join ⟨#[c]⟩ ws).cps.toList=J c (ws.map (·.cps.toList))
 | []=>rfl
 | [x]=>rfl
 | x::y::r=>by
   have ih:=wy c (y::r)
   show (x.cps++#[c]++(Str.join ⟨#[c]⟩ (y::r)).cps).toList=x.cps.toList++c::J c ((y::r).map (·.cps.toList))
   rw [← ih]
   simp
theorem EC {c:Nat} {ws:List Str} (h:ws≠[]) (hf:∀ w∈ws,c∉w.cps.toList):Txt.split (Str.join ⟨#[c]⟩ ws) ⟨#[c]⟩=ws:=by
 have e1:=StrLaws.join_split (Str.join ⟨#[c]⟩ ws) ⟨#[c]⟩
 have e2:=StrLaws.split_free (Str.join ⟨#[c]⟩ ws) c
 have hp:=PyProof.Rows.split_pos (Str.join ⟨#[c]⟩ ws) ⟨#[c]⟩
 generalize Txt.split (Str.join ⟨#[c]⟩ ws) ⟨#[c]⟩=vs at e1 e2 hp ⊢
 have e3:=wy c vs
 rw [e1,wy c ws] at e3
 have e4:=afj (c:=c) _ _ (by simpa using h) (by intro z;rw [List.map_eq_nil_iff] at z;subst z;simp at hp) (fun w hw=>by obtain ⟨v,hv,rfl⟩:=List.mem_map.mp hw;exact hf v hv) (fun w hw=>by obtain ⟨v,hv,rfl⟩:=List.mem_map.mp hw;exact e2 v hv) e3
 have inj:∀ x y:Str,x.cps.toList=y.cps.toList→x=y:=fun ⟨⟨a⟩⟩ ⟨⟨b⟩⟩ h=>by cases (show a=b from h);rfl
 exact (List.map_inj_right inj).mp e4.symm
theorem Oj (y:Str) (l:List Str):Txt.join y l=Str.join y l:=StrLaws.glued_eq_join _ _
theorem Fu:(Str.ofString " ")=⟨#[32]⟩:=by decide +kernel
theorem KY:(Str.ofString "\n")=⟨#[10]⟩:=by decide +kernel
theorem aeh {X:Cx} {K:PySem.W.Frag} (h:X.K=K):OpR X (compareOp .In) (rIn K false):=by subst h;exact Uv
noncomputable def Wd (z:Str):Prop:=(32:Nat)∉z.cps.toList∧(10:Nat)∉z.cps.toList
theorem Nm.wd {z:Str} (h:Nm z):Wd z:=by
 have h:nm z.cps.toList=true:=h
 have key:∀ c:Nat,(low c||fig c)=false→c∉z.cps.toList:=fun c hc m=>by
  cases e:z.cps.toList with
  | nil=>rw [e] at m;cases m
  | cons d r=>
    rw [e] at h m
    unfold nm at h
    rw [Bool.and_eq_true,List.all_eq_true] at h
    have:=h.2 c m
    rw [hc] at this;cases this
 exact ⟨key 32 (by decide),key 10 (by decide)⟩
theorem afw:Wd "in":=by unfold Wd;decide +kernel
theorem ac3:Wd "out":=by unfold Wd;decide +kernel
theorem ac2:Wd "sum":=by unfold Wd;decide +kernel
theorem Xs:Wd "store":=by unfold Wd;decide +kernel
theorem ac4:Wd "=":=by unfold Wd;decide +kernel
inductive Fm:List Str→Prop where
 | i (z:Str) (h:Nm z):Fm ["in",z]
 | o (z:Str) (h:Nm z):Fm ["out",z]
 | s (z:Str) (ws:List Str) (h:Nm z) (hw:∀ w∈ws,Nm w) (l:ws.length≤24):Fm ("sum"::z::"="::ws)
 | t (z y:Str) (h:Nm z) (hy:Nm y):Fm ["store",z,"=",y]
theorem Fm.wd {r:List Str} (f:Fm r):∀ w∈r,Wd w:=by
 cases f with
 | i z h=>intro w hw;simp at hw;rcases hw with rfl | rfl<;>first | exact afw | exact h.wd
 | o z h=>intro w hw;simp at hw;rcases hw with rfl | rfl<;>first | exact ac3 | exact h.wd
 | s z ws h hw' l=>
   intro w hw
   simp at hw
   rcases hw with rfl | rfl | rfl | hw<;>first | exact ac2 | exact h.wd | exact ac4 | exact (hw' w hw).wd
 | t z y h hy=>intro w hw;simp at hw;rcases hw with rfl | rfl | rfl | rfl<;>first | exact Xs | exact h.wd | exact ac4 | exact hy.wd
theorem Fm.ne {r:List Str} (f:Fm r):r≠[]:=by cases f<;>simp
theorem lenS:("in":Str).length=2∧("out":Str).length=3∧("sum":Str).length=3∧("store":Str).length=5∧("=":Str).length=1∧("":Str).length=0:=by decide +kernel
theorem Fm.len {r:List Str} (f:Fm r):r.length≤27∧∀ w∈r,w.length≤6:=by
 obtain ⟨l1,l2,l3,l4,l5,_⟩:=lenS
 cases f with
 | i z h=>exact ⟨by simp,fun w hw=>by simp at hw;rcases hw with rfl | rfl<;>first | exact h.len | omega⟩
 | o z h=>exact ⟨by simp,fun w hw=>by simp at hw;rcases hw with rfl | rfl<;>first | exact h.len | omega⟩
 | s z ws h hw' l=>
   refine ⟨by simp only [List.length_cons];omega,fun w hw=>?_⟩
   simp at hw
   rcases hw with rfl | rfl | rfl | hw<;>first | exact h.len | exact (hw' w hw).len | omega
 | t z y h hy=>exact ⟨by simp,fun w hw=>by simp at hw;rcases hw with rfl | rfl | rfl | rfl<;>first | exact h.len | exact hy.len | omega⟩
noncomputable def rowT (r:List Str):Str:=Str.join ⟨#[32]⟩ r
noncomputable def txtR (rows:List (List Str)):Str:=Str.join ⟨#[10]⟩ (rows.map rowT)
theorem afi {c d:Nat} (hcd:c≠d):∀ {ws:List (List Nat)},(∀ w∈ws,d∉w)→d∉J c ws
 | [],_=>by simp [J]
 | [x],h=>h x List.mem_cons_self
 | x::y::r,h=>by
   show d∉x++c::J c (y::r)
   intro m
   rcases List.mem_append.mp m with m | m
   ·exact h x List.mem_cons_self m
   ·rcases List.mem_cons.mp m with m | m
    ·exact hcd m.symm
    ·exact afi hcd (ws:=y::r) (fun w hw=>h w (List.mem_cons_of_mem _ hw)) m
theorem TZ {r:List Str} (h:∀ w∈r,Wd w):(10:Nat)∉(rowT r).cps.toList:=by
 unfold rowT
 rw [wy]
 exact afi (by decide) fun w hw=>by obtain ⟨v,hv,rfl⟩:=List.mem_map.mp hw;exact (h v hv).2
theorem PV {r:List Str} (h:∀ w∈r,Wd w) (ne:r≠[]):Txt.split (rowT r) ⟨#[32]⟩=r:=EC ne fun w hw=>(h w hw).1
theorem Pk {rows:List (List Str)} (h:∀ r∈rows,∀ w∈r,Wd w) (ne:rows≠[]):Txt.split (txtR rows) ⟨#[10]⟩=rows.map rowT:=EC (by simpa using ne) fun w hw=>by obtain ⟨r,hr,rfl⟩:=List.mem_map.mp hw;exact TZ (h r hr)
theorem acz (c:Nat) {n:Nat}:∀ {ws:List (List Nat)},(∀ w∈ws,w.length≤n)→(J c ws).length≤ws.length * (n + 1)
 | [],_=>Nat.zero_le _
 | [x],h=>by have:=h x List.mem_cons_self;show x.length≤1 * (n + 1);omega
 | x::y::r,h=>by
   have h1:=h x List.mem_cons_self
   have h2:=acz c (n:=n) (ws:=y::r) fun w hw=>h w (List.mem_cons_of_mem _ hw)
   show (x++c::J c (y::r)).length≤_
   rw [List.length_append,List.length_cons,List.length_cons,Nat.succ_mul]
   omega
theorem FJ {r:List Str} (h:∀ w∈r,w.length≤6):(rowT r).length≤r.length * 7:=by
 rw [← pd]
 unfold rowT
 rw [wy]
 have:=acz 32 (n:=6) (ws:=r.map (·.cps.toList)) fun w hw=>by obtain ⟨v,hv,rfl⟩:=List.mem_map.mp hw;rw [pd];exact h v hv
 rw [List.length_map] at this
 exact this
theorem Xw {rows:List (List Str)} (h:∀ r∈rows,Fm r):(txtR rows).length≤rows.length * 190:=by
 rw [← pd]
 unfold txtR
 rw [wy]
 have:=acz 10 (n:=189) (ws:=(rows.map rowT).map (·.cps.toList)) fun w hw=>by
  obtain ⟨v,hv,rfl⟩:=List.mem_map.mp hw
  obtain ⟨r,hr,rfl⟩:=List.mem_map.mp hv
  rw [pd]
  have a:=(h r hr).len
  have b:=FJ a.2
  have:r.length * 7≤27 * 7:=Nat.mul_le_mul_right 7 a.1
  omega
 rw [List.length_map,List.length_map] at this
 exact this
theorem XC {z:Str} (h:z=""):z.cps.toList=[]:=KU.mp h
theorem J_ne (c:Nat):∀ {ws:List (List Nat)},(∃ w∈ws,w≠[])→J c ws≠[]
 | [],⟨w,h,_⟩=>by cases h
 | [x],⟨w,h,n⟩=>by rw [List.mem_singleton.mp h] at n;exact n
 | x::y::r,_=>by show x++c::J c (y::r)≠[];simp
theorem abu {r:List Str} (f:Fm r):(rowT r).cps.toList≠[]:=by
 unfold rowT
 rw [wy]
 refine J_ne 32 ?_
 cases f with
 | i z h=>exact ⟨("in":Str).cps.toList,by simp,by decide +kernel⟩
 | o z h=>exact ⟨("out":Str).cps.toList,by simp,by decide +kernel⟩
 | s z ws h hw' l=>exact ⟨("sum":Str).cps.toList,by simp,by decide +kernel⟩
 | t z y h hy=>exact ⟨("store":Str).cps.toList,by simp,by decide +kernel⟩
theorem aaS {rows:List (List Str)} (h:∀ r∈rows,Fm r) (ne:rows≠[]):txtR rows≠"":=fun e=>by
 have:=XC e
 unfold txtR at this
 rw [wy] at this
 refine J_ne 10 ?_ this
 cases rows with
 | nil=>exact absurd rfl ne
 | cons r l=>exact ⟨(rowT r).cps.toList,by simp,abu (h r List.mem_cons_self)⟩
noncomputable def kd (k:Str) (r:List Str):Bool:=decide (r.getD 0 ""=k)
noncomputable def insR (rows:List (List Str)):List Str:=(rows.filter (kd "in")).map fun r=>r.getD 1 ""
noncomputable def sumR (rows:List (List Str)):List (Str×List Str):=(rows.filter (kd "sum")).map fun r=>(r.getD 1 "",r.drop 3)
noncomputable def stoR (rows:List (List Str)):List (Str×Str):=(rows.filter (kd "store")).map fun r=>(r.getD 1 "",r.getD 3 "")
noncomputable def outR (rows:List (List Str)):List Str:=(rows.filter (kd "out")).map fun r=>r.getD 1 ""
noncomputable def netR (rows:List (List Str)):Nt:=⟨insR rows,sumR rows,stoR rows,outR rows⟩
noncomputable def rY (N:Nt):List (List Str):=N.ins.map (fun z=>[("in":Str),z])++N.sums.map (fun r=>("sum":Str)::r.1::("=":Str)::r.2)++N.sts.map (fun r=>[("store":Str),r.1,("=":Str),r.2])++N.outs.map (fun z=>[("out":Str),z])
noncomputable def txtN (N:Nt):Str:=txtR (rY N)
theorem w_ne:("in":Str)≠"sum"∧("in":Str)≠"store"∧("in":Str)≠"out"∧("sum":Str)≠"in"∧("sum":Str)≠"store"∧("sum":Str)≠"out"∧("store":Str)≠"in"∧("store":Str)≠"sum"∧("store":Str)≠"out"∧("out":Str)≠"in"∧("out":Str)≠"sum"∧("out":Str)≠"store":=by decide +kernel
theorem yG {α:Type} (f:α→List Str) {k:Str} (h:∀ x,kd k (f x)=true) (l:List α):(l.map f).filter (kd k)=l.map f:=by
 rw [List.filter_eq_self];intro r hr;obtain ⟨x,_,rfl⟩:=List.mem_map.mp hr;exact h x
theorem dC {α:Type} (f:α→List Str) {k:Str} (h:∀ x,kd k (f x)=false) (l:List α):(l.map f).filter (kd k)=[]:=by
 rw [List.filter_eq_nil_iff];intro r hr;obtain ⟨x,_,rfl⟩:=List.mem_map.mp hr;rw [h x];exact Bool.false_ne_true
theorem kd_t {k:Str} {r:List Str}:kd k (k::r)=true:=decide_eq_true rfl
theorem kd_f {k j:Str} {r:List Str} (h:j≠k):kd k (j::r)=false:=decide_eq_false h
theorem E4 (N:Nt):netR (rY N)=N:=by
 obtain ⟨n1,n2,n3,n4,n5,n6,n7,n8,n9,n10,n11,n12⟩:=w_ne
 cases N with
 | mk a b c d=>
 unfold netR insR sumR stoR outR rY
 simp only [List.filter_append]
 rw [yG _ (fun _=>kd_t),dC _ (fun _=>kd_f n4),dC _ (fun _=>kd_f n7),dC _ (fun _=>kd_f n10)]
 rw [dC (fun z=>[("in":Str),z]) (fun _=>kd_f n1),yG _ (fun _=>kd_t),dC _ (fun _=>kd_f n8),dC _ (fun _=>kd_f n11)]
 rw [dC (fun z=>[("in":Str),z]) (fun _=>kd_f n2),dC _ (fun _=>kd_f n5),yG _ (fun _=>kd_t),dC _ (fun _=>kd_f n12)]
 rw [dC (fun z=>[("in":Str),z]) (fun _=>kd_f n3),dC _ (fun _=>kd_f n6),dC _ (fun _=>kd_f n9),yG _ (fun _=>kd_t)]
 simp
 exact ⟨List.map_id a,List.map_id b,List.map_id c,List.map_id d⟩
theorem FI {N:Nt} (g:Gn N):∀ r∈rY N,Fm r:=by
 intro r hr
 have nmi:∀ z∈N.ins,z∈N.names:=fun z h=>by unfold Nt.names;exact List.mem_append_left _ (List.mem_append_left _ h)
 have nms':∀ q∈N.sums,q.1∈N.names:=fun q h=>by unfold Nt.names;exact List.mem_append_left _ (List.mem_append_right _ (List.mem_map.mpr ⟨q,h,rfl⟩))
 have nmt:∀ q∈N.sts,q.1∈N.names:=fun q h=>by unfold Nt.names;exact List.mem_append_right _ (List.mem_map.mpr ⟨q,h,rfl⟩)
 unfold rY at hr
 rcases List.mem_append.mp hr with h | h
 ·rcases List.mem_append.mp h with h | h
  ·rcases List.mem_append.mp h with h | h
   ·obtain ⟨z,hz,rfl⟩:=List.mem_map.mp h;exact .i z (g.nm z (nmi z hz))
   ·obtain ⟨q,hq,rfl⟩:=List.mem_map.mp h;exact .s q.1 q.2 (g.nm _ (nms' q hq)) (fun w hw=>g.nm w (g.ws q hq w hw)) (g.lw q hq)
  ·obtain ⟨q,hq,rfl⟩:=List.mem_map.mp h;exact .t q.1 q.2 (g.nm _ (nmt q hq)) (g.nm _ (g.ts q hq))
 ·obtain ⟨z,hz,rfl⟩:=List.mem_map.mp h;exact .o z (g.nm z (g.os z hz))
theorem za {N:Nt} (g:Gn N):(rY N).length≤68:=by
 have:=g.li;have:=g.ls;have:=g.lt;have:=g.lo
 unfold rY
 simp only [List.length_append,List.length_map];omega
noncomputable def Lrw (H0 H:Hp) (D:Addr) (ys:List V) (rows:List (List Str)):Prop:=∃ ds:List Addr,ys=ds.map V.ref∧ds.length=rows.length∧(∀ d∈ds,d≠D)∧(∀ d∈ds,H0 d=none)∧∀ (j:Nat) (d:Addr) (r:List Str),ds[j]? =some d→rows[j]? =some r→H d=some (.lst (r.map V.str))
theorem Lrw.nil {H0 H:Hp} {D:Addr}:Lrw H0 H D [] []:=⟨[],rfl,rfl,fun _ h=>(by cases h),fun _ h=>(by cases h),fun j d r h=>(by simp at h)⟩
theorem Lrw.len {H0 H:Hp} {D:Addr} {ys:List V} {rows:List (List Str)} (x:Lrw H0 H D ys rows):ys.length=rows.length:=by obtain ⟨ds,rfl,l,_⟩:=x;rw [List.length_map,l]
theorem Lrw.base {H00 H0 H:Hp} {D:Addr} {ys:List V} {rows:List (List Str)} (x:Lrw H0 H D ys rows) (s:Same H00 H0):Lrw H00 H D ys rows:=by obtain ⟨ds,e,l,n,f,h⟩:=x;exact ⟨ds,e,l,n,fun d hd=>s.free (f d hd),h⟩
theorem Lrw.put {H0 H H4:Hp} {D D3:Addr} {ys:List V} {rows:List (List Str)} {r:List Str} (x:Lrw H0 H D ys rows) (f0:H0 D3=none) (e:H D=some (.lst ys)) (f:H D3=none) (s:Same H H4) (e3:H4 D3=some (.lst (r.map V.str))):Lrw H0 (upd H4 D (.lst (ys++[.ref D3]))) D (ys++[.ref D3]) (rows++[r]):=by
 obtain ⟨ds,rfl,ld,nd,fd,hd⟩:=x
 have hDD:D3≠D:=fun z=>by rw [z,e] at f;cases f
 have k3:∀ b ob,b≠D→H4 b=some ob→upd H4 D (.lst (ds.map V.ref++[.ref D3])) b=some ob:=fun b ob n e=>by rw [aB n];exact e
 refine ⟨ds++[D3],by rw [List.map_append];rfl,by rw [List.length_append,List.length_append,ld];rfl,fun d hd'=>?_,fun d hd'=>?_,fun j d r' hj hj'=>?_⟩
 ·rcases List.mem_append.mp hd' with h | h
  ·exact nd d h
  ·rw [List.mem_singleton.mp h];exact hDD
 ·rcases List.mem_append.mp hd' with h | h
  ·exact fd d h
  ·rw [List.mem_singleton.mp h];exact f0
 ·by_cases hjl:j < ds.length
  ·rw [List.getElem?_append_left hjl] at hj
   rw [List.getElem?_append_left (by omega)] at hj'
   exact k3 _ _ (nd d (List.mem_of_getElem? hj)) (s.get (hd j d r' hj hj'))
  ·have hl:=(List.getElem?_eq_some_iff.mp hj).1
   rw [List.length_append,List.length_singleton] at hl
   rw [List.getElem?_append_right (by omega),show j - ds.length=0 by omega] at hj
   rw [List.getElem?_append_right (by omega),show j - rows.length=0 by omega] at hj'
   cases hj;cases hj'
   exact k3 _ _ hDD e3
theorem Lrw.join {H0 H H2 H3:Hp} {D D2:Addr} {ys ys2:List V} {rows rows2:List (List Str)} (x:Lrw H0 H D ys rows) (e:H D=some (.lst ys)) (s0:Same H0 H) (s:Same H H2) (x2:Lrw H H2 D2 ys2 rows2) (u:Upd H2 H3 D (.lst (ys++ys2))):Lrw H0 H3 D (ys++ys2) (rows++rows2):=by
 obtain ⟨ds,rfl,ld,nd,fd,hd⟩:=x
 obtain ⟨ds2,rfl,ld2,nd2,fd2,hd2⟩:=x2
 have n2:∀ d∈ds2,d≠D:=fun d hd' z=>by have:=fd2 d hd';rw [z,e] at this;cases this
 refine ⟨ds++ds2,by rw [List.map_append],by rw [List.length_append,List.length_append,ld,ld2],fun d hd'=>(List.mem_append.mp hd').elim (nd d) (n2 d),fun d hd'=>(List.mem_append.mp hd').elim (fd d) (fun h=>s0.free (fd2 d h)),fun j d r hj hj'=>?_⟩
 by_cases hjl:j < ds.length
 ·rw [List.getElem?_append_left hjl] at hj
  rw [List.getElem?_append_left (by omega)] at hj'
  exact u.oth _ _ (nd d (List.mem_of_getElem? hj)) (s.get (hd j d r hj hj'))
 ·rw [List.getElem?_append_right (by omega)] at hj
  rw [List.getElem?_append_right (by omega),← ld] at hj'
  exact u.oth _ _ (n2 d (List.mem_of_getElem? hj)) (hd2 _ d r hj hj')
noncomputable def aaY (NA:NP):Sp:=fun vs H Q _=>∃ (p:Addr) (N:Nt) (od:List Str),vs=[.ref p]∧NA H p N od∧∀ H2,Same H H2→Q (.str (txtN N)) H2
noncomputable def aa7:Sp:=fun vs H Q _=>∃ (l:Addr) (r:List Str),vs=[.ref l]∧H l=some (.lst (r.map V.str))∧Fm r∧∀ H2,Same H H2→Q (.bl true) H2
noncomputable def Pr:Sp:=fun vs H Q _=>∃ (z:Str),vs=[.str z]∧z.length≤100000∧∀ (D:Addr) (H2:Hp),H D=none→Same H H2→H2 D=some (.lst ((Txt.split z ⟨#[32]⟩).map V.str))→Q (.ref D) H2
noncomputable def Tv:Sp:=fun vs H Q _=>∃ (z:Str),vs=[.str z]∧z.length≤100000∧∀ (D:Addr) (H2:Hp),H D=none→Same H H2→H2 D=some (.lst ((if z="" then [] else Txt.split z ⟨#[10]⟩).map V.str))→Q (.ref D) H2
noncomputable def aaZ (NA:NP):Sp:=fun vs H Q _=>∃ (rows:List (List Str)),vs=[.str (txtR rows)]∧(∀ r∈rows,Fm r)∧rows.length≤100∧Gn (netR rows)∧∀ (n:Addr) (H2:Hp) (od:List Str),H n=none→Same H H2→NA H2 n (netR rows) od→Q (.ref n) H2
noncomputable def TD (K:PySem.W.Frag):Sp:=fun vs H Q _=>∃ (p:Addr) (ns:List Int) (st mo:Nat),vs=[.ref p,nat st,nat mo]∧SqL K H p (ns.map V.int)∧st≤900∧mo≤12∧∀ (t i s u o:Addr) (H2:Hp) (rs:List Rw) (qs:List Qs) (N:Nt),Same H H2→H2 t=some (.tup [.ref i,.ref s,.ref u,.ref o])→Hnd H2 i s u o rs qs N→Gn N→N.ins.length≤3→N.sums.length≤mo→Q (.ref t) H2
theorem U4 {c:Int} {ni nt:Nat} {rows sums:List (Str×List Str)} {sts:List (Str×Str)} {outs:List Str} (m:Mk c ni nt rows) (h1:ni≤3) (h2:nt≤12) (h3:rows.length≤12) (hp:sums.Perm rows) (hs:sts.map (·.1)=nms c 6 nt) (h4:outs.length≤6)
  (ht:∀ q∈sts,q.2∈nms c 0 ni++nms c 6 nt++nms c 22 rows.length) (ho:∀ z∈outs,z∈nms c 0 ni++nms c 6 nt++nms c 22 rows.length):Gn ⟨nms c 0 ni,sums,sts,outs⟩:=by
 have pn:(sums.map (·.1)).Perm (nms c 22 rows.length):=by rw [← m.nm];exact hp.map _
 have inn:∀ z,z∈nms c 0 ni++nms c 6 nt++nms c 22 rows.length→z∈Nt.names ⟨nms c 0 ni,sums,sts,outs⟩:=fun z hz=>by
  unfold Nt.names
  show z∈nms c 0 ni++sums.map (·.1)++sts.map (·.1)
  rw [hs]
  rcases List.mem_append.mp hz with h | h
  ·rcases List.mem_append.mp h with h | h
   ·exact List.mem_append_left _ (List.mem_append_left _ h)
   ·exact List.mem_append_right _ h
  ·exact List.mem_append_left _ (List.mem_append_right _ (pn.mem_iff.mpr h))
 have lt3:sts.length=nt:=by have:=congrArg List.length hs;rw [List.length_map,d2] at this;exact this
 have row_at:∀ r∈sums,∃ k,rows[k]? =some r:=fun r hr=>List.mem_iff_getElem?.mp (hp.mem_iff.mp hr)
 have num:∀ z∈Nt.names ⟨nms c 0 ni,sums,sts,outs⟩,∃ k:Nat,k < 40∧z=nmf c (k:Int):=fun z hz=>by
  unfold Nt.names at hz
  have hz:z∈nms c 0 ni++sums.map (·.1)++sts.map (·.1):=hz
  rw [hs] at hz
  rcases List.mem_append.mp hz with h | h
  ·rcases List.mem_append.mp h with h | h
   ·obtain ⟨k,hk,e⟩:=oi h;exact ⟨_,by omega,e⟩
   ·obtain ⟨k,hk,e⟩:=oi (pn.mem_iff.mp h);exact ⟨_,by omega,e⟩
  ·obtain ⟨k,hk,e⟩:=oi h;exact ⟨_,by omega,e⟩
 have ndn:∀ (a n:Nat),a + n≤40→(nms c a n).Nodup:=fun a n h=>by
  unfold nms
  refine List.pairwise_map.mpr (List.Pairwise.imp_of_mem (fun {i j} hi hj hij=>?_) List.pairwise_lt_range)
  intro e
  have:=Gp c (show a + i < 40 by have:=List.mem_range.mp hi;omega) (show a + j < 40 by have:=List.mem_range.mp hj;omega) e
  omega
 have dis:∀ {a n b k:Nat},a + n≤40→b + k≤40→a + n≤b→∀ x∈nms c a n,∀ y∈nms c b k,x≠y:=fun h1 h2 h3 x hx y hy e=>by
  obtain ⟨i,hi,rfl⟩:=oi hx
  obtain ⟨j,hj,rfl⟩:=oi hy
  have:=Gp c (by omega) (by omega) e
  omega
 refine ⟨by show (nms c 0 ni).length≤6;rw [d2];omega,by show sums.length≤40;rw [hp.length_eq];omega,by show sts.length≤16;omega,h4,fun r hr=>?_,fun z hz=>?_,?_,fun r hr z hz=>?_,fun r hr=>inn _ (ht r hr),fun z hz=>inn _ (ho z hz),?_⟩
 ·obtain ⟨k,hk⟩:=row_at r hr
  have:=(m.ws k r hk).1
  omega
 ·obtain ⟨k,hk,rfl⟩:=num z hz
  exact aeq c (by omega) (by omega)
 ·unfold Nt.names
  show (nms c 0 ni++sums.map (·.1)++sts.map (·.1)).Nodup
  rw [hs,List.nodup_append,List.nodup_append]
  refine ⟨⟨ndn _ _ (by omega),pn.nodup_iff.mpr (ndn _ _ (by omega)),fun x hx y hy=>dis (by omega) (by omega) (by omega) x hx y (pn.mem_iff.mp hy)⟩,ndn _ _ (by omega),fun x hx y hy=>?_⟩
  rcases List.mem_append.mp hx with h | h
  ·exact dis (by omega) (by omega) (by omega) x h y hy
  ·exact fun e=>dis (a:=6) (n:=nt) (b:=22) (k:=rows.length) (by omega) (by omega) (by omega) y hy x (pn.mem_iff.mp h) e.symm
 ·obtain ⟨k,hk⟩:=row_at r hr
  have hlt:=(List.getElem?_eq_some_iff.mp hk).1
  refine inn z ?_
  rcases List.mem_append.mp ((m.ws k r hk).2 z hz) with h | h
  ·exact List.mem_append_left _ h
  ·obtain ⟨j,hj,rfl⟩:=oi h
   exact List.mem_append_right _ (aep (by omega))
 ·refine ⟨fun z=>(nms c 22 rows.length).idxOf z,fun r hr z hz hzs=>?_⟩
  obtain ⟨k,hk⟩:=row_at r hr
  have hlt:=(List.getElem?_eq_some_iff.mp hk).1
  have er:(nms c 22 rows.length)[k]? =some r.1:=by rw [← m.nm,List.getElem?_map,hk];rfl
  have nd:=ndn 22 rows.length (by omega)
  have ik:∀ (j:Nat) y,(nms c 22 rows.length)[j]? =some y→(nms c 22 rows.length).idxOf y=j:=fun j y hj=>by
   obtain ⟨hj1,hj2⟩:=List.getElem?_eq_some_iff.mp hj
   rw [← hj2]
   exact nd.idxOf_getElem j hj1
  obtain ⟨j,hj,ej⟩:=oi (pn.mem_iff.mp hzs)
  have hjk:j < k:=by
   rcases List.mem_append.mp ((m.ws k r hk).2 z hz) with h | h
   ·exfalso
    rcases List.mem_append.mp h with h | h
    ·exact dis (a:=0) (n:=ni) (b:=22) (k:=rows.length) (by omega) (by omega) (by omega) z h z (pn.mem_iff.mp hzs) rfl
    ·exact dis (a:=6) (n:=nt) (b:=22) (k:=rows.length) (by omega) (by omega) (by omega) z h z (pn.mem_iff.mp hzs) rfl
   ·obtain ⟨j',hj',e'⟩:=oi h
    have:=Gp c (show 22 + j < 40 by omega) (show 22 + j' < 40 by omega) (ej.symm.trans e')
    omega
  have ez:(nms c 22 rows.length)[j]? =some z:=by unfold nms;rw [List.getElem?_map,List.getElem?_range hj,ej];rfl
  show (nms c 22 rows.length).idxOf z < (nms c 22 rows.length).idxOf r.1
  rw [ik j z ez,ik k r.1 er]
  exact hjk
end Sx
namespace My
open PySem L2 Sx
local macro_rules | `(tactic| walk_at "o") =>`(tactic| first | exact Or.inl rfl | exact Or.inr rfl)
local macro_rules | `(tactic| walk_at "s") =>`(tactic| exact ⟨rfl,rfl,rfl,by decide +kernel,rfl,by decide +kernel,by decide +kernel⟩)
local macro_rules | `(tactic| walk_at "l2side") =>`(tactic| first | assumption | rfl | omega | decide | ((try dsimp only [CDiv,af8,CPow,CMul]);first | omega | decide | (refine ⟨?_,?_⟩<;>first | omega | decide) | (refine ⟨?_,?_,?_⟩<;>first | omega | decide) | (left;refine ⟨?_,?_⟩<;>first | omega | decide) | (right;refine ⟨?_,?_⟩<;>first | omega | decide)))
local macro_rules | `(tactic| walk_at "l2len") =>`(tactic| ((with_reducible show _ + _≤sizeLine);first | assumption | (rw [sizeLine_eq];omega) | omega))
local macro_rules | `(tactic| walk_at "l2at") =>`(tactic| first | assumption | exact av | (refine' Same.get (by assumption) ?h;(case h=>walk_at "l2at")))
local macro_rules | `(tactic| walk_at "l2hp") =>`(tactic| first | assumption | (refine' SqL.of ?h;(case h=>walk_at "l2at")) | (refine' SqT.of ?h;(case h=>walk_at "l2at")) | (refine' Same.seq (by assumption) ?h;(case h=>walk_at "l2hp")) | (refine' Same.tup (by assumption) ?h;(case h=>walk_at "l2hp")) | (refine' Rep.same (by assumption) ?h;(case h=>walk_at "l2hp")) | walk_at "l2at")
local macro_rules | `(tactic| walk_at "l2kind") =>`(tactic| first | assumption | exact rfl | (refine' Or.inl ⟨rfl,_,?e⟩;(case e=>walk_at "l2hp")) | (refine' Or.inr (Or.inl ⟨rfl,_,?e⟩);(case e=>walk_at "l2hp")) | (refine' Or.inr (Or.inr ⟨rfl,_,Or.inl ?e⟩);(case e=>walk_at "l2hp")))
local macro_rules | `(tactic| walk_at "l2step") =>`(tactic| first
 | (with_reducible refine afC ?_) | (with_reducible refine afS ?_) | (with_reducible refine s_if ?_) | (with_reducible refine afD ?_) | (with_reducible refine s_retN ?_) | (with_reducible refine adI ?_) | (with_reducible refine adu ?_)
 | ((with_reducible refine' afz ?e ?_);(case e=>repeat constructor)) | (with_reducible refine s_c ?_) | (with_reducible refine s_op ?_) | (with_reducible refine s_un ?_)
 | (with_reducible refine adO ?_) | (with_reducible refine afI ?_) | (with_reducible refine abt ?_) | (with_reducible refine s_cb ?_)
 | (with_reducible refine afF ?_) | ((with_reducible refine' s_rI ?e ?_);(case e=>walk_at "l2side")) | (with_reducible refine s_rU ?_)
 | ((with_reducible refine' afG ?e ?_);(case e=>rfl)) | ((with_reducible refine' afE ?e ?_);(case e=>rfl)) | (with_reducible refine s_leS ?_)
 | (with_reducible refine adn ?_) | (with_reducible refine s_tB ?_) | (with_reducible refine L2.s_chain ?_) | (with_reducible refine afT ?_) | (with_reducible refine s_or ?_) | (with_reducible refine afH ?_)
 | (with_reducible refine adR ?_) | (with_reducible refine s_orV ?_) | (with_reducible refine adt ?_) | (with_reducible refine afN ?_)
 | ((with_reducible refine' abm ?e ?_);(case e=>repeat constructor)) | (with_reducible refine abn ?_) | (with_reducible refine adH ?_) | ((with_reducible refine' adF ?e ?l ?_);(case e=>walk_at "l2hp");(case l=>rfl))
 | (with_reducible refine afA ?_) | (with_reducible refine afJ ?_) | ((with_reducible refine' adw ?l ?_);(case l=>exact U7 (Nat.le_of_ble_eq_true rfl))) | ((with_reducible refine' adv ?l ?_);(case l=>exact U7 (Nat.le_of_ble_eq_true rfl)))
 | (with_reducible refine s_sl ?_) | (with_reducible refine X5 ?_) | (with_reducible refine ads ?_)
 | ((with_reducible refine' afB ?e ?_);(case e=>walk_at "l2hp")) | ((with_reducible refine' s_slS ?e ?_);(case e=>walk_at "l2side"))
 | ((with_reducible refine' afL ?e ?a ?_);(case e=>walk_at "l2hp");(case a=>first | assumption | rfl)) | ((with_reducible refine' afK ?e ?a ?_);(case e=>walk_at "l2hp");(case a=>first | assumption | rfl))
 | ((with_reducible refine' s_ty ?e ?_);(case e=>first | exact rfl | (refine' Or.inl ⟨rfl,_,?f⟩;(case f=>walk_at "l2hp")) | (refine' Or.inr (Or.inr (Or.inl ⟨rfl,Or.inl ⟨_,?f⟩⟩));(case f=>walk_at "l2hp"))))
 | (with_reducible refine afR ?_) | (with_reducible refine s_bm ?_) | (with_reducible refine adQ ?_)
 | ((with_reducible refine' adB ?e ?_);(case e=>walk_at "l2hp")) | ((with_reducible refine' adz ?e ?_);(case e=>walk_at "l2hp")) | ((with_reducible refine' adA ?e ?_);(case e=>walk_at "l2side"))
 | ((with_reducible refine' afM ?e ?m ?_);(case e=>walk_at "l2kind");(case m=>decide))
 | (with_reducible refine adL ?_) | (with_reducible refine afO ?_) | (with_reducible refine abk ?_) | (with_reducible refine adD ?_) | (with_reducible refine adE ?_) | (with_reducible refine adq ?_) | (with_reducible refine adp ?_)
 | (with_reducible refine afy ?_) | (with_reducible refine adm ?_) | (with_reducible refine abo ?_) | (with_reducible refine s_intB ?_) | (with_reducible refine s_inS ?_) | ((with_reducible refine' s_addS ?e ?_);(case e=>walk_at "l2side"))
 | (with_reducible refine adP ?_) | ((with_reducible refine' rW ?e ?_);(case e=>first | rfl | decide | assumption)) | ((with_reducible refine' iS ?e ?_);(case e=>first | rfl | decide | assumption)) | ((with_reducible refine' X7 ?a ?b ?_);(case a=>omega);(case b=>omega))
 | (with_reducible refine ⟨_,_,rfl,rfl,?_⟩;(with_reducible refine ⟨?l,?_⟩);(case l=>walk_at "l2len")) | (with_reducible refine ⟨_,_,rfl,rfl,?_⟩) | (with_reducible refine Or.inl ⟨_,rfl,?_⟩) | (with_reducible refine Or.inr ⟨_,rfl,?_⟩)
 | (with_reducible refine ⟨_,rfl,?_⟩) | (with_reducible refine ⟨rfl,?_⟩) | ((with_reducible refine' ⟨⟨_,?e⟩,?_⟩);(case e=>walk_at "l2hp")))
local macro_rules | `(tactic| walk_at "l2") =>`(tactic| repeat walk_at "l2step")
local macro_rules | `(tactic| walk_at "l2step") =>`(tactic| first
 | (with_reducible refine X4 ?_) | (with_reducible refine afP ?_) | (with_reducible refine ady ?_) | (with_reducible refine X6 ?_) | (with_reducible refine adx ?_) | (with_reducible refine adJ ?_) | (with_reducible refine adM ?_) | (with_reducible refine abl ?_)
 | ((with_reducible refine' abj ?e ?_);(case e=>walk_at "l2hp")) | ((with_reducible refine' abi ?e ?_);(case e=>walk_at "l2hp")) | ((with_reducible refine' adl ?e ?_);(case e=>walk_at "l2hp")) | ((with_reducible refine' adk ?e ?_);(case e=>walk_at "l2hp")))
local macro_rules | `(tactic| walk_at "l2step") =>`(tactic| first
 | (with_reducible refine afQ ?_) | (with_reducible refine adK ?_) | (with_reducible refine s_disp1I ?_) | ((with_reducible refine' s_listD ?e ?_);(case e=>walk_at "l2at")))
local macro_rules | `(tactic| walk_at "l2step") =>`(tactic| first | (with_reducible refine abh ?_) | (with_reducible refine s_try0 ?_) | (with_reducible refine abr ?_))
noncomputable def top (i:Nat):Stmt:=PySem.Challenge.pw_sumwires_k91_whole_text_run_tables_signs.main.body.getD i (.Pass ⟨0,0,0,0⟩)
noncomputable abbrev jc:Stmt:=top 17
theorem Le:ay ["thing"] ["thing"] (ad jc):=by walk_at "s"
noncomputable abbrev kZ:Stmt:=top 18
theorem PR:ay ["thing","width"] ["thing","width"] (ad kZ):=by walk_at "s"
noncomputable abbrev jj:Stmt:=top 19
theorem PQ:ay ["thing"] ["thing"] (ad jj):=by walk_at "s"
noncomputable abbrev EE:Stmt:=top 20
theorem yX:ay ["number","width","half"] ["number"] (ad EE):=by walk_at "s"
noncomputable abbrev jk:Stmt:=top 21
theorem PU:ay ["mask"] ["mask"] (ad jk):=by walk_at "s"
noncomputable abbrev kW:Stmt:=top 22
theorem o4:ay ["places","mask","place"] ["places"] (ad kW):=by walk_at "s"
noncomputable abbrev jb:Stmt:=top 23
theorem Lc:ay ["row"] ["row"] (ad jb):=by walk_at "s"
noncomputable abbrev kX:Stmt:=top 28
theorem PP:ay ["thing","stores","inputs"] ["thing","stores","inputs"] (ad kX):=by walk_at "s"
noncomputable abbrev di:Stmt:=top 29
theorem B4:ay ["inputs","nexts","outs"] ["inputs","nexts","outs"] (ad di):=by walk_at "s"
noncomputable abbrev o5:Stmt:=top 30
theorem TV:ay ["pair","state","row"] ["pair","state","row"] (ad o5):=by walk_at "s"
noncomputable abbrev dW:Stmt:=top 31
theorem FC:ay ["pairs","state","row"] ["pairs","state","row"] (ad dW):=by walk_at "s"
noncomputable abbrev cb:Stmt:=bG (top 32) 0
theorem qF:ay ["self","inputs","nexts","outs"] ["self","inputs","nexts","outs"] (ad cb):=by walk_at "s"
noncomputable abbrev cG:Stmt:=bG (top 32) 1
theorem ua:ay ["self"] ["self"] (ad cG):=by walk_at "s"
noncomputable abbrev cu:Stmt:=bG (top 32) 2
theorem rU:ay ["self"] ["self"] (ad cu):=by walk_at "s"
noncomputable abbrev dL:Stmt:=bG (top 32) 3
theorem y8:ay ["self"] ["self"] (ad dL):=by walk_at "s"
noncomputable abbrev bS:Stmt:=bG (top 32) 4
theorem nB:ay ["self","state"] ["self","state"] (ad bS):=by walk_at "s"
noncomputable abbrev dM:Stmt:=bG (top 32) 5
theorem y9:ay ["self","state","row"] ["self","state","row"] (ad dM):=by walk_at "s"
noncomputable abbrev cF:Stmt:=bG (top 32) 6
theorem cQ:ay ["self","rows","state","answers","row","done"] ["self","rows","state"] (ad cF):=by walk_at "s"
noncomputable abbrev eF:Stmt:=bG (top 32) 7
theorem B7:ay ["self","rows","state"] ["self","rows","state"] (ad eF):=by walk_at "s"
noncomputable abbrev cX:Stmt:=bG (top 32) 8
theorem wZ:ay ["self","rows","state"] ["self","rows","state"] (ad cX):=by walk_at "s"
noncomputable abbrev cH:Stmt:=bG (top 32) 9
theorem kT:ay ["self","which","turns","rows"] ["self","which","turns"] (ad cH):=by walk_at "s"
noncomputable abbrev cU:Stmt:=bG (top 34) 0
theorem wV:ay ["self","name"] ["self","name"] (ad cU):=by walk_at "s"
noncomputable abbrev cv:Stmt:=bG (top 35) 0
theorem rV:ay ["self","name","number"] ["self","name","number"] (ad cv):=by walk_at "s"
noncomputable abbrev fU:Stmt:=bG (top 35) 2
theorem FF:ay ["self","known","row","state"] ["self","known","row","state"] (ad fU):=by walk_at "s"
noncomputable abbrev eG:Stmt:=bG (top 35) 3
theorem B8:ay ["self","known"] ["self","known"] (ad eG):=by walk_at "s"
noncomputable abbrev ca:Stmt:=bG (top 36) 0
theorem qD:ay ["self","name","wires"] ["self","name","wires"] (ad ca):=by walk_at "s"
noncomputable abbrev eC:Stmt:=bG (top 36) 3
theorem hG:ay ["self","known","row","state","total","wire"] ["self","known","row","state"] (ad eC):=by walk_at "s"
noncomputable abbrev dF:Stmt:=bG (top 36) 4
theorem cz:ay ["self","known","store_mask","input_mask","wire","pair"] ["self","known"] (ad dF):=by walk_at "s"
noncomputable abbrev b4:Stmt:=bG (top 37) 0
theorem nS:ay ["self","name","wire","number"] ["self","name","wire","number"] (ad b4):=by walk_at "s"
noncomputable abbrev cV:Stmt:=bG (top 37) 2
theorem wW:ay ["self","known","row","state"] ["self","known","row","state"] (ad cV):=by walk_at "s"
noncomputable abbrev cD:Stmt:=bG (top 37) 3
theorem t7:ay ["self","known"] ["self","known"] (ad cD):=by walk_at "s"
noncomputable abbrev dj:Stmt:=top 44
theorem B5:ay ["ins","sums","stores","outs"] ["ins","sums","stores","outs"] (ad dj):=by walk_at "s"
noncomputable abbrev eA:Stmt:=top 45
theorem kl:ay ["names","known","name"] ["names"] (ad eA):=by walk_at "s"
noncomputable abbrev fS:Stmt:=top 46
theorem FE:ay ["wire","known"] ["wire","known"] (ad fS):=by walk_at "s"
noncomputable abbrev eh:Stmt:=top 47
theorem fi:ay ["sums","stores","outs","known","row","wire"] ["sums","stores","outs","known"] (ad eh):=by walk_at "s"
noncomputable abbrev bE:Stmt:=top 48
theorem mX:ay ["ins","sums","stores","wires"] ["ins","sums","stores"] (ad bE):=by walk_at "s"
noncomputable abbrev qG:Stmt:=top 49
theorem X3:ay ["row","waiting"] ["row","waiting"] (ad qG):=by walk_at "s"
noncomputable abbrev il:Stmt:=top 51
theorem ja:ay ["sums","names","left","waiting","ready"] ["sums"] (ad il):=by walk_at "s"
noncomputable abbrev bV:Stmt:=bG (top 52) 0
theorem y6:ay ["self","ins","sums","stores","outs"] ["self","ins","sums","stores","outs"] (ad bV):=by walk_at "s"
noncomputable abbrev dJ:Stmt:=bG (top 52) 1
theorem y4:ay ["self"] ["self"] (ad dJ):=by walk_at "s"
noncomputable abbrev dI:Stmt:=bG (top 52) 2
theorem y3:ay ["self"] ["self"] (ad dI):=by walk_at "s"
noncomputable abbrev cE:Stmt:=bG (top 52) 3
theorem t8:ay ["self"] ["self"] (ad cE):=by walk_at "s"
noncomputable abbrev cW:Stmt:=bG (top 52) 4
theorem wX:ay ["self"] ["self"] (ad cW):=by walk_at "s"
noncomputable abbrev k4:Stmt:=bG (top 52) 5
noncomputable abbrev eE:Stmt:=bG (top 52) 7
theorem B6:ay ["self","name"] ["self","name"] (ad eE):=by walk_at "s"
noncomputable abbrev bQ:Stmt:=bG (top 52) 9
theorem pL:ay ["self"] ["self"] (ad bQ):=by walk_at "s"
noncomputable abbrev ub:Stmt:=top 54
theorem FD:ay ["net","pairs","name"] ["net"] (ad ub):=by walk_at "s"
noncomputable abbrev fR:Stmt:=top 55
theorem l0:ay ["net","pairs","nexts","outs"] ["net"] (ad fR):=by walk_at "s"
noncomputable abbrev gO:Stmt:=top 56
theorem Ld:ay ["letter","count"] ["letter","count"] (ad gO):=by walk_at "s"
noncomputable abbrev dX:Stmt:=top 57
theorem wc:ay ["name","pair","stores"] ["name","pair"] (ad dX):=by walk_at "s"
noncomputable abbrev l9:Stmt:=top 58
theorem kS:ay ["machine","next_names","out_names","pairs","sums","stores"] ["machine"] (ad l9):=by walk_at "s"
noncomputable abbrev jR:Stmt:=top 59
theorem jh:ay ["machine","rows","singles","answers","turn","row","which","later"] ["machine","rows"] (ad jR):=by walk_at "s"
noncomputable abbrev gP:Stmt:=top 61
theorem Lf:ay ["words"] ["words"] (ad gP):=by walk_at "s"
noncomputable abbrev kU:Stmt:=top 62
theorem PM:ay ["text"] ["text"] (ad kU):=by walk_at "s"
noncomputable abbrev cT:Stmt:=top 63
theorem dU:ay ["text","rows","number","words","ins","sums","stores","outs"] ["text"] (ad cT):=by walk_at "s"
noncomputable abbrev cR:Stmt:=top 64
theorem yW:ay ["net","rows"] ["net"] (ad cR):=by walk_at "s"
noncomputable abbrev gN:Stmt:=top 66
theorem nR:ay ["net","row","state","bits","name"] ["net","row","state"] (ad gN):=by walk_at "s"
noncomputable abbrev ji:Stmt:=top 67
theorem PN:ay ["wires","bits"] ["wires","bits"] (ad ji):=by walk_at "s"
noncomputable abbrev dH:Stmt:=bG (top 68) 0
theorem y0:ay ["self","net"] ["self","net"] (ad dH):=by walk_at "s"
noncomputable abbrev gS:Stmt:=bG (top 68) 1
theorem yY:ay ["self","row","answer"] ["self","row"] (ad gS):=by walk_at "s"
noncomputable abbrev gT:Stmt:=bG (top 68) 2
theorem Ij:ay ["self"] ["self"] (ad gT):=by walk_at "s"
noncomputable abbrev dG:Stmt:=bG (top 68) 4
theorem yZ:ay ["self"] ["self"] (ad dG):=by walk_at "s"
noncomputable abbrev fT:Stmt:=top 69
theorem l6:ay ["net","rows","going","row"] ["net","rows"] (ad fT):=by walk_at "s"
noncomputable abbrev gR:Stmt:=top 71
theorem Ii:ay ["_law_script","_law_k"] ["_law_script","_law_k"] (ad gR):=by walk_at "s"
noncomputable abbrev je:Stmt:=top 72
theorem qC:ay ["_law_cell_here","_law_k","_law_number"] ["_law_cell_here","_law_k"] (ad je):=by walk_at "s"
noncomputable abbrev gQ:Stmt:=top 73
theorem jQ:ay ["_law_cell_here","_law_k","_law_letters","_law_some"] ["_law_cell_here","_law_k"] (ad gQ):=by walk_at "s"
noncomputable abbrev dY:Stmt:=top 74
theorem eg:ay ["_law_cell_here","_law_start","_law_names","_law_digits","_law_left","_law_found","_law_k","_law_many"] ["_law_cell_here","_law_start","_law_names","_law_digits"] (ad dY):=by walk_at "s"
noncomputable abbrev eB:Stmt:=top 75
theorem bw:ay ["_law_script","_law_start","_law_most","_law_cell_here","_law_sizes","_law_ins","_law_stores","_law_known","_law_sums","_law_k","_law_wires_here","_law_at","_law_ends","_law_name_here","_law_outs"] ["_law_script","_law_start","_law_most"] (ad eB):=by walk_at "s"
noncomputable abbrev jd:Stmt:=top 76
theorem qB:ay ["_law_net_one","_law_rows","_law_run_here","_law_row"] ["_law_net_one","_law_rows"] (ad jd):=by walk_at "s"
noncomputable abbrev FG:Stmt:=top 77
theorem mY:ay ["_law_script","_law_net_here","_law_text","_law_net_one","_law_machine","_law_rows","_law_answers","_law_state","_law_other","_law_turned","_law_both","_law_due"] ["_law_script"] (ad FG):=by walk_at "s"
set_option genInjectivity false in
set_option genSizeOf false in
structure Ad where
 c9:Addr
 lJ:FuncData
 fo:Addr
 sT:FuncData
 gu:Addr
 A8:FuncData
 sQ:Addr
 V5:FuncData
 gv:Addr
 A9:FuncData
 gp:Addr
 A5:FuncData
 eJ:Addr
 vw:FuncData
 gt:Addr
 A7:FuncData
 cn:Addr
 mC:FuncData
 iW:Addr
 G9:FuncData
 cI:Addr
 oz:FuncData
 aU:Addr
 gy:FuncData
 bo:Addr
 iJ:FuncData
 a9:Addr
 gY:FuncData
 bO:Addr
 kK:FuncData
 aE:Addr
 d3:FuncData
 bP:Addr
 kL:FuncData
 bj:Addr
 iI:FuncData
 bZ:Addr
 iX:FuncData
 mz:Value
 bB:Addr
 gx:FuncData
 jC:Value
 bp:Addr
 iK:FuncData
 bH:Addr
 cC:FuncData
 ba:Addr
 gZ:FuncData
 b9:Addr
 oE:FuncData
 b0:Addr
 mH:FuncData
 aT:Addr
 gw:FuncData
 bX:Addr
 mF:FuncData
 bI:Addr
 kE:FuncData
 aJ:Addr
 fg:FuncData
 bz:Addr
 jE:FuncData
 bh:Addr
 iG:FuncData
 cq:Addr
 mD:FuncData
 cr:Addr
 mE:FuncData
 cJ:Addr
 oA:FuncData
 ck:Addr
 mB:FuncData
 bW:Addr
 jD:FuncData
 mx:Addr
 Np:FuncData
 gn:Addr
 A4:FuncData
 bN:Addr
 kJ:FuncData
 bM:Addr
 kI:FuncData
 bL:Addr
 kH:FuncData
 bi:Addr
 iH:FuncData
 bA:Addr
 jF:FuncData
 dN:Addr
 Fc:FuncData
 bY:Addr
 mG:FuncData
 aO:Addr
 fM:FuncData
 my:Addr
 Nq:FuncData
 eK:Addr
 vx:FuncData
 eP:Addr
 vA:FuncData
 dm:Addr
 rB:FuncData
 iV:Addr
 G8:FuncData
 iU:Addr
 G7:FuncData
 eQ:Addr
 vB:FuncData
 gl:Addr
 A3:FuncData
 eM:Addr
 vz:FuncData
 eL:Addr
 vy:FuncData
 dl:Addr
 rA:FuncData
 gq:Addr
 A6:FuncData
 bK:Addr
 kG:FuncData
 da:Addr
 vF:FuncData
 cB:Addr
 rE:FuncData
 bJ:Addr
 kF:FuncData
 cK:Addr
 oB:FuncData
 dq:Addr
 rD:FuncData
 eU:Addr
 vE:FuncData
 dn:Addr
 rC:FuncData
 cL:Addr
 oC:FuncData
 eS:Addr
 vD:FuncData
 eR:Addr
 vC:FuncData
 JT:Addr
 ack:FuncData
 ag:Addr
 be:Addr
 aq:Addr
 am:Addr
 ah:Addr
 br:Addr
 bD:Addr
 dc:Addr
 bT:Addr
 cy:Addr
 yN:Tok
 kj:Tok
 lZ:Tok
 tY:Tok
 eX:Tok
 ir:Tok
 dO:Tok
 fZ:Tok
 qy:Tok
 nP:Tok
 nO:Tok
open PySem.W in
structure Tx (K:Frag) (mg:Str→Option Value) (a:Ad):Prop where
 pE:Fun K "is_whole" "is_whole" jc a.c9 a.lJ
 vi:keepIn K (.ref a.c9)=true
 lV:aZ K a.lJ ["thing"] []
 vm:mg "is_whole"=some (.ref a.c9)
 tU:Fun K "is_mask" "is_mask" kZ a.fo a.sT
 lG:keepIn K (.ref a.fo)=true
 ip:aZ K a.sT ["thing","width"] []
 lI:mg "is_mask"=some (.ref a.fo)
 tT:Fun K "is_name" "is_name" jj a.gu a.A8
 oq:keepIn K (.ref a.gu)=true
 jK:aZ K a.A8 ["thing"] []
 ou:mg "is_name"=some (.ref a.gu)
 O4:Fun K "even" "even" EE a.sQ a.V5
 aan:keepIn K (.ref a.sQ)=true
 O2:aZ K a.V5 ["number"] []
 aas:mg "even"=some (.ref a.sQ)
 tV:Fun K "bits_of" "bits_of" jk a.gv a.A9
 AH:keepIn K (.ref a.gv)=true
 oQ:aZ K a.A9 ["mask"] []
 AL:mg "bits_of"=some (.ref a.gv)
 tQ:Fun K "mask_of" "mask_of" kW a.gp a.A5
 JG:keepIn K (.ref a.gp)=true
 tE:aZ K a.A5 ["places"] []
 JL:mg "mask_of"=some (.ref a.gp)
 py:Fun K "words_of" "words_of" jb a.eJ a.vw
 Rn:keepIn K (.ref a.eJ)=true
 vP:aZ K a.vw ["row"] []
 Rv:mg "words_of"=some (.ref a.eJ)
 tS:Fun K "is_pair" "is_pair" kX a.gt a.A7
 Vo:keepIn K (.ref a.gt)=true
 BD:aZ K a.A7 ["thing","stores","inputs"] []
 VC:mg "is_pair"=some (.ref a.gt)
 i0:Fun K "check_table" "check_table" di a.cn a.mC
 GO:keepIn K (.ref a.cn)=true
 mJ:aZ K a.mC ["inputs","nexts","outs"] []
 GS:mg "check_table"=some (.ref a.cn)
 yK:Fun K "is_odd" "is_odd" o5 a.iW a.G9
 YQ:keepIn K (.ref a.iW)=true
 Hx:aZ K a.G9 ["pair","state","row"] []
 Y4:mg "is_odd"=some (.ref a.iW)
 ka:Fun K "odd_places" "odd_places" dW a.cI a.oz
 ww:keepIn K (.ref a.cI)=true
 j8:aZ K a.oz ["pairs","state","row"] []
 wz:mg "odd_places"=some (.ref a.cI)
 dS:Fun K "__init__" "Machine.__init__" cb a.aU a.gy
 OS:keepIn K (.ref a.aU)=true
 gB:aZ K a.gy ["self","inputs","nexts","outs"] []
 fH:Fun K "stores" "Machine.stores" cG a.bo a.iJ
 S8:keepIn K (.ref a.bo)=true
 fC:aZ K a.iJ ["self"] []
 eV:Fun K "outputs" "Machine.outputs" cu a.a9 a.gY
 Rr:keepIn K (.ref a.a9)=true
 g7:aZ K a.gY ["self"] []
 ig:Fun K "told" "Machine.told" dL a.bO a.kK
 Xl:keepIn K (.ref a.bO)=true
 hZ:aZ K a.kK ["self"] []
 cO:Fun K "check_state" "Machine.check_state" bS a.aE a.d3
 JJ:keepIn K (.ref a.aE)=true
 cN:aZ K a.d3 ["self","state"] []
 ii:Fun K "step" "Machine.step" dM a.bP a.kL
 Xm:keepIn K (.ref a.bP)=true
 kO:aZ K a.kL ["self","state","row"] []
 fG:Fun K "walked" "Machine.walked" cF a.bj a.iI
 S7:keepIn K (.ref a.bj)=true
 fB:aZ K a.iI ["self","rows","state"] []
 gG:FunD K "run" "Machine.run" eF a.bZ a.iX a.mz
 gH:aZ K a.iX ["self","rows","state"] [a.mz]
 lY:RelV (.int 0) a.mz
 YT:keepIn K (.ref a.bZ)=true
 tG:aZ K a.iX ["self","rows","state"] []
 d9:FunD K "after" "Machine.after" cX a.bB a.gx a.jC
 jP:aZ K a.gx ["self","rows","state"] [a.jC]
 yM:RelV (.int 0) a.jC
 Vs:keepIn K (.ref a.bB)=true
 oS:aZ K a.gx ["self","rows","state"] []
 fI:Fun K "single" "Machine.single" cH a.bp a.iK
 S9:keepIn K (.ref a.bp)=true
 iM:aZ K a.iK ["self","which","turns"] []
 gD:Fun K "__init__" "Wire.__init__" cU a.bH a.cC
 Vp:keepIn K (.ref a.bH)=true
 d4:aZ K a.cC ["self","name"] []
 eW:Fun K "__init__" "InWire.__init__" cv a.ba a.gZ
 Rs:keepIn K (.ref a.ba)=true
 g8:aZ K a.gZ ["self","name","number"] []
 kg:Fun K "bit" "InWire.bit" fU a.b9 a.oE
 aao:keepIn K (.ref a.b9)=true
 oU:aZ K a.oE ["self","known","row","state"] []
 i9:Fun K "hang" "InWire.hang" eG a.b0 a.mH
 YU:keepIn K (.ref a.b0)=true
 mO:aZ K a.mH ["self","known"] []
 dR:Fun K "__init__" "SumWire.__init__" ca a.aT a.gw
 OR:keepIn K (.ref a.aT)=true
 gA:aZ K a.gw ["self","name","wires"] []
 i7:Fun K "bit" "SumWire.bit" eC a.bX a.mF
 YR:keepIn K (.ref a.bX)=true
 mM:aZ K a.mF ["self","known","row","state"] []
 h7:Fun K "hang" "SumWire.hang" dF a.bI a.kE
 Xf:keepIn K (.ref a.bI)=true
 kM:aZ K a.kE ["self","known"] []
 cP:Fun K "__init__" "StoreWire.__init__" b4 a.aJ a.fg
 KK:keepIn K (.ref a.aJ)=true
 fh:aZ K a.fg ["self","name","wire","number"] []
 gE:Fun K "bit" "StoreWire.bit" cV a.bz a.jE
 Vq:keepIn K (.ref a.bz)=true
 jM:aZ K a.jE ["self","known","row","state"] []
 fE:Fun K "hang" "StoreWire.hang" cD a.bh a.iG
 S5:keepIn K (.ref a.bh)=true
 iL:aZ K a.iG ["self","known"] []
 i5:Fun K "check_sizes" "check_sizes" dj a.cq a.mD
 GP:keepIn K (.ref a.cq)=true
 mK:aZ K a.mD ["ins","sums","stores","outs"] []
 GT:mg "check_sizes"=some (.ref a.cq)
 i6:Fun K "check_names" "check_names" eA a.cr a.mE
 GQ:keepIn K (.ref a.cr)=true
 mL:aZ K a.mE ["names"] []
 GU:mg "check_names"=some (.ref a.cr)
 kb:Fun K "check_wire" "check_wire" fS a.cJ a.oA
 jX:keepIn K (.ref a.cJ)=true
 fY:aZ K a.oA ["wire","known"] []
 jY:mg "check_wire"=some (.ref a.cJ)
 iZ:Fun K "check_wires" "check_wires" eh a.ck a.mB
 GN:keepIn K (.ref a.ck)=true
 mI:aZ K a.mB ["sums","stores","outs","known"] []
 GR:mg "check_wires"=some (.ref a.ck)
 gC:Fun K "wires_by_name" "wires_by_name" bE a.bW a.jD
 AG:keepIn K (.ref a.bW)=true
 jJ:aZ K a.jD ["ins","sums","stores"] []
 AK:mg "wires_by_name"=some (.ref a.bW)
 HQ:Fun K "waits" "waits" qG a.mx a.Np
 Vl:keepIn K (.ref a.mx)=true
 Hu:aZ K a.Np ["row","waiting"] []
 Vz:mg "waits"=some (.ref a.mx)
 tP:Fun K "ordered" "ordered" il a.gn a.A4
 Vn:keepIn K (.ref a.gn)=true
 BC:aZ K a.A4 ["sums"] []
 VB:mg "ordered"=some (.ref a.gn)
 ie:Fun K "__init__" "Net.__init__" bV a.bN a.kJ
 Xk:keepIn K (.ref a.bN)=true
 fu:aZ K a.kJ ["self","ins","sums","stores","outs"] []
 ib:Fun K "in_names" "Net.in_names" dJ a.bM a.kI
 Xj:keepIn K (.ref a.bM)=true
 fq:aZ K a.kI ["self"] []
 ia:Fun K "sum_rows" "Net.sum_rows" dI a.bL a.kH
 Xi:keepIn K (.ref a.bL)=true
 kN:aZ K a.kH ["self"] []
 fF:Fun K "store_rows" "Net.store_rows" cE a.bi a.iH
 S6:keepIn K (.ref a.bi)=true
 dD:aZ K a.iH ["self"] []
 gF:Fun K "out_wires" "Net.out_wires" cW a.bA a.jF
 Vr:keepIn K (.ref a.bA)=true
 d5:aZ K a.jF ["self"] []
 wa:Fun K "told" "Net.told" k4 a.dN a.Fc
 acV:keepIn K (.ref a.dN)=true
 Fp:aZ K a.Fc ["self"] []
 i8:Fun K "wire_of" "Net.wire_of" eE a.bY a.mG
 YS:keepIn K (.ref a.bY)=true
 cM:aZ K a.mG ["self","name"] []
 dA:Fun K "names_by_need" "Net.names_by_need" bQ a.aO a.fM
 MZ:keepIn K (.ref a.aO)=true
 dy:aZ K a.fM ["self"] []
 HR:Fun K "hangs" "hangs" ub a.my a.Nq
 ab2:keepIn K (.ref a.my)=true
 NO:aZ K a.Nq ["net"] []
 ab8:mg "hangs"=some (.ref a.my)
 pA:Fun K "table_of" "table_of" fR a.eK a.vx
 E8:keepIn K (.ref a.eK)=true
 pi:aZ K a.vx ["net"] []
 Fa:mg "table_of"=some (.ref a.eK)
 pD:Fun K "numbered" "numbered" gO a.eP a.vA
 pe:keepIn K (.ref a.eP)=true
 jg:aZ K a.vA ["letter","count"] []
 pf:mg "numbered"=some (.ref a.eP)
 mS:Fun K "named_sum" "named_sum" dX a.dm a.rB
 MY:keepIn K (.ref a.dm)=true
 rL:aZ K a.rB ["name","pair"] []
 M5:mg "named_sum"=some (.ref a.dm)
 yJ:Fun K "net_of" "net_of" l9 a.iV a.G8
 YO:keepIn K (.ref a.iV)=true
 Hw:aZ K a.G8 ["machine"] []
 Y3:mg "net_of"=some (.ref a.iV)
 yI:Fun K "summed" "summed" jR a.iU a.G7
 YN:keepIn K (.ref a.iU)=true
 Hv:aZ K a.G7 ["machine","rows"] []
 Y2:mg "summed"=some (.ref a.iU)
 pF:Fun K "has_form" "has_form" gP a.eQ a.vB
 Ro:keepIn K (.ref a.eQ)=true
 vQ:aZ K a.vB ["words"] []
 Rx:mg "has_form"=some (.ref a.eQ)
 tO:Fun K "rows_of" "rows_of" kU a.gl a.A3
 Vm:keepIn K (.ref a.gl)=true
 BB:aZ K a.A3 ["text"] []
 VA:mg "rows_of"=some (.ref a.gl)
 pC:Fun K "read_net" "read_net" cT a.eM a.vz
 E9:keepIn K (.ref a.eM)=true
 pj:aZ K a.vz ["text"] []
 Fb:mg "read_net"=some (.ref a.eM)
 pB:Fun K "show_net" "show_net" cR a.eL a.vy
 vh:keepIn K (.ref a.eL)=true
 lU:aZ K a.vy ["net"] []
 vk:mg "show_net"=some (.ref a.eL)
 mR:Fun K "turn_bits" "turn_bits" gN a.dl a.rA
 MX:keepIn K (.ref a.dl)=true
 rK:aZ K a.rA ["net","row","state"] []
 M4:mg "turn_bits"=some (.ref a.dl)
 tR:Fun K "mask_at" "mask_at" ji a.gq a.A6
 JH:keepIn K (.ref a.gq)=true
 tF:aZ K a.A6 ["wires","bits"] []
 JM:mg "mask_at"=some (.ref a.gq)
 h9:Fun K "__init__" "Run.__init__" dH a.bK a.kG
 Xh:keepIn K (.ref a.bK)=true
 hX:aZ K a.kG ["self","net"] []
 pJ:Fun K "step" "Run.step" gS a.da a.vF
 acU:keepIn K (.ref a.da)=true
 pp:aZ K a.vF ["self","row"] []
 mV:Fun K "state" "Run.state" gT a.cB a.rE
 ab3:keepIn K (.ref a.cB)=true
 rM:aZ K a.rE ["self"] []
 h8:Fun K "answered" "Run.answered" dG a.bJ a.kF
 Xg:keepIn K (.ref a.bJ)=true
 hV:aZ K a.kF ["self"] []
 kc:Fun K "answers_of" "answers_of" fT a.cK a.oB
 wx:keepIn K (.ref a.cK)=true
 j9:aZ K a.oB ["net","rows"] []
 wA:mg "answers_of"=some (.ref a.cK)
 mU:Fun K "_law_cell" "_law_cell" gR a.dq a.rD
 rm:keepIn K (.ref a.dq)=true
 jL:aZ K a.rD ["_law_script","_law_k"] []
 rp:mg "_law_cell"=some (.ref a.dq)
 pI:Fun K "_law_mix" "_law_mix" je a.eU a.vE
 cw:keepIn K (.ref a.eU)=true
 b6:aZ K a.vE ["_law_cell_here","_law_k"] []
 cx:mg "_law_mix"=some (.ref a.eU)
 mT:Fun K "_law_name" "_law_name" gQ a.dn a.rC
 mt:keepIn K (.ref a.dn)=true
 g6:aZ K a.rC ["_law_cell_here","_law_k"] []
 mw:mg "_law_name"=some (.ref a.dn)
 ke:Fun K "_law_wires" "_law_wires" dY a.cL a.oC
 JI:keepIn K (.ref a.cL)=true
 oR:aZ K a.oC ["_law_cell_here","_law_start","_law_names","_law_digits"] []
 JN:mg "_law_wires"=some (.ref a.cL)
 pH:Fun K "_law_net" "_law_net" eB a.eS a.vD
 Rq:keepIn K (.ref a.eS)=true
 vS:aZ K a.vD ["_law_script","_law_start","_law_most"] []
 Rz:mg "_law_net"=some (.ref a.eS)
 pG:Fun K "_law_run" "_law_run" jd a.eR a.vC
 Rp:keepIn K (.ref a.eR)=true
 vR:aZ K a.vC ["_law_net_one","_law_rows"] []
 Ry:mg "_law_run"=some (.ref a.eR)
 Zx:Fun K "law" "law" FG a.JT a.ack
 agc:keepIn K (.ref a.JT)=true
 ae6:aZ K a.ack ["_law_script"] []
 agd:mg "law"=some (.ref a.JT)
 VF:mg "Machine"=some (.ref a.ag)
 aL:Cls K a.ag
 afm:Oc K a.ag
 WH:Mk K a.ag a.aU
 m9:Meth K a.ag "stores" a.bo
 uP:Meth K a.ag "outputs" a.a9
 qi:Meth K a.ag "told" a.bO
 im:Meth K a.ag "check_state" a.aE
 C8:Meth K a.ag "step" a.bP
 m8:Meth K a.ag "walked" a.bj
 mr:Meth K a.ag "run" a.bZ
 Ab:Meth K a.ag "after" a.bB
 xN:Meth K a.ag "single" a.bp
 Xb:ao K a.ag "bits"
 QV:ao K a.ag "by_name"
 U2:ao K a.ag "given"
 Xa:ao K a.ag "held"
 cj:ao K a.ag "inputs"
 Yx:ao K a.ag "ins"
 Jo:ao K a.ag "kept_stores"
 W9:ao K a.ag "line"
 W8:ao K a.ag "name"
 Yw:ao K a.ag "net"
 c8:ao K a.ag "nexts"
 S3:ao K a.ag "number"
 fk:ao K a.ag "outs"
 W7:ao K a.ag "ring"
 Mw:ao K a.ag "sum_order"
 W6:ao K a.ag "sums"
 W5:ao K a.ag "wire"
 U1:ao K a.ag "wires"
 VD:mg "Wire"=some (.ref a.be)
 agb:Cls K a.be
 aga:Oc K a.be
 abR:ao K a.be "bits"
 WW:ao K a.be "by_name"
 aaf:ao K a.be "given"
 abQ:ao K a.be "held"
 Ys:ao K a.be "inputs"
 acG:ao K a.be "ins"
 OL:ao K a.be "kept_stores"
 abP:ao K a.be "line"
 abO:ao K a.be "name"
 acF:ao K a.be "net"
 aae:ao K a.be "nexts"
 Yr:ao K a.be "number"
 abN:ao K a.be "outs"
 abM:ao K a.be "ring"
 SU:ao K a.be "sum_order"
 abL:ao K a.be "sums"
 abK:ao K a.be "wire"
 aad:ao K a.be "wires"
 Y5:mg "InWire"=some (.ref a.aq)
 mW:Cls K a.aq
 afp:Oc K a.aq
 Zt:Mk K a.aq a.ba
 Jq:Meth K a.aq "bit" a.b9
 Gx:Meth K a.aq "hang" a.b0
 YE:ao K a.aq "bits"
 S4:ao K a.aq "by_name"
 Xe:ao K a.aq "given"
 YD:ao K a.aq "held"
 U3:ao K a.aq "inputs"
 aal:ao K a.aq "ins"
 KJ:ao K a.aq "kept_stores"
 YC:ao K a.aq "line"
 sE:ao K a.aq "name"
 aak:ao K a.aq "net"
 Xd:ao K a.aq "nexts"
 jz:ao K a.aq "number"
 YB:ao K a.aq "outs"
 YA:ao K a.aq "ring"
 OO:ao K a.aq "sum_order"
 Yz:ao K a.aq "sums"
 Yy:ao K a.aq "wire"
 Xc:ao K a.aq "wires"
 VE:mg "SumWire"=some (.ref a.am)
 jO:Cls K a.am
 afl:Oc K a.am
 WG:Mk K a.am a.aT
 Gw:Meth K a.am "bit" a.bX
 C6:Meth K a.am "hang" a.bI
 W4:ao K a.am "bits"
 QQ:ao K a.am "by_name"
 UX:ao K a.am "given"
 W3:ao K a.am "held"
 SW:ao K a.am "inputs"
 Yu:ao K a.am "ins"
 Jm:ao K a.am "kept_stores"
 W2:ao K a.am "line"
 qg:ao K a.am "name"
 Yt:ao K a.am "net"
 UW:ao K a.am "nexts"
 SV:ao K a.am "number"
 W1:ao K a.am "outs"
 WZ:ao K a.am "ring"
 Mt:ao K a.am "sum_order"
 WY:ao K a.am "sums"
 WX:ao K a.am "wire"
 jy:ao K a.am "wires"
 M6:mg "StoreWire"=some (.ref a.ah)
 ee:Cls K a.ah
 acA:Oc K a.ah
 Oa:Mk K a.ah a.aJ
 Aa:Meth K a.ah "bit" a.bz
 xM:Meth K a.ah "hang" a.bh
 S2:ao K a.ah "bits"
 Mu:ao K a.ah "by_name"
 QT:ao K a.ah "given"
 S1:ao K a.ah "held"
 OM:ao K a.ah "inputs"
 UZ:ao K a.ah "ins"
 Gs:ao K a.ah "kept_stores"
 S0:ao K a.ah "line"
 mZ:ao K a.ah "name"
 UY:ao K a.ah "net"
 QS:ao K a.ah "nexts"
 gi:ao K a.ah "number"
 SZ:ao K a.ah "outs"
 SY:ao K a.ah "ring"
 Jn:ao K a.ah "sum_order"
 SX:ao K a.ah "sums"
 xL:ao K a.ah "wire"
 QR:ao K a.ah "wires"
 ab9:mg "Net"=some (.ref a.br)
 de:Cls K a.br
 agg:Oc K a.br
 acy:Mk K a.br a.bN
 kD:Meth K a.br "in_names" a.bM
 C7:Meth K a.br "sum_rows" a.bL
 iF:Meth K a.br "store_rows" a.bi
 jA:Meth K a.br "out_wires" a.bA
 acT:Meth K a.br "told" a.dN
 eI:Meth K a.br "wire_of" a.bY
 jB:Meth K a.br "names_by_need" a.aO
 acS:ao K a.br "bits"
 iT:ao K a.br "by_name"
 abW:ao K a.br "given"
 acR:ao K a.br "held"
 aaj:ao K a.br "inputs"
 sD:ao K a.br "ins"
 c7:ao K a.br "kept_stores"
 acQ:ao K a.br "line"
 acP:ao K a.br "name"
 aew:ao K a.br "net"
 abV:ao K a.br "nexts"
 aai:ao K a.br "number"
 uO:ao K a.br "outs"
 acO:ao K a.br "ring"
 om:ao K a.br "sum_order"
 lD:ao K a.br "sums"
 acN:ao K a.br "wire"
 abU:ao K a.br "wires"
 aeN:mg "Run"=some (.ref a.bD)
 kR:Cls K a.bD
 agf:Oc K a.bD
 afh:Mk K a.bD a.bK
 E6:Meth K a.bD "step" a.da
 MB:Meth K a.bD "state" a.cB
 qh:Meth K a.bD "answered" a.bJ
 o9:ao K a.bD "bits"
 Yv:ao K a.bD "by_name"
 rc:ao K a.bD "given"
 o8:ao K a.bD "held"
 aah:ao K a.bD "inputs"
 aev:ao K a.bD "ins"
 QU:ao K a.bD "kept_stores"
 acM:ao K a.bD "line"
 acL:ao K a.bD "name"
 oj:ao K a.bD "net"
 abT:ao K a.bD "nexts"
 aag:ao K a.bD "number"
 acK:ao K a.bD "outs"
 acJ:ao K a.bD "ring"
 U0:ao K a.bD "sum_order"
 acI:ao K a.bD "sums"
 acH:ao K a.bD "wire"
 abS:ao K a.bD "wires"
 cC:aaK K a.be "__init__" a.bH
 aeM:mg "TooMany"=some (.ref a.dc)
 rQ:excIn K a.dc [.type "ValueError",.type "Exception",.type "BaseException",.type "object"] "ValueError.__new__"=true
 afk:XIsi K a.dc
 sP:mg "BadMask"=some (.ref a.bT)
 ij:excIn K a.bT [.type "ValueError",.type "Exception",.type "BaseException",.type "object"] "ValueError.__new__"=true
 afn:XIsi K a.bT
 ph:mg "BadTable"=some (.ref a.cy)
 fQ:excIn K a.cy [.type "ValueError",.type "Exception",.type "BaseException",.type "object"] "ValueError.__new__"=true
 acW:XIsi K a.cy
 VG:mg "LETTERS"=some (.str "abcdefghijklmnopqrstuvwxyz" a.yN)
 DP:mg "LONGEST_NAME"=some (.int 6 a.kj)
 GV:mg "MOST_INPUTS"=some (.int 6 a.lZ)
 RA:mg "MOST_INS"=some (.int 6 a.tY)
 pX:mg "MOST_OUTS_machines"=some (.int 6 a.eX)
 ya:mg "MOST_OUTS_nets"=some (.int 6 a.ir)
 nJ:mg "MOST_STORES_machines"=some (.int 120 a.dO)
 sO:mg "MOST_STORES_nets"=some (.int 16 a.fZ)
 M7:mg "MOST_SUMS"=some (.int 40 a.qy)
 JP:mg "MOST_WIRES"=some (.int 24 a.nP)
 JO:mg "NAME_SIGNS"=some (.str "abcdefghijklmnopqrstuvwxyz0123456789" a.nO)
 Yq:mg "all"=none
 aeu:mg "any"=none
 aet:mg "bool"=none
 aac:mg "dict"=none
 fL:mg "enumerate"=none
 aes:mg "int"=none
 fX:mg "isinstance"=none
 fc:mg "len"=none
 gh:mg "list"=none
 kC:mg "range"=none
 E5:mg "reversed"=none
 UV:mg "str"=none
 kB:mg "tuple"=none
 Yp:mg "zip"=none
section
variable {P:Program} {w:World} {K:PySem.W.Frag} {mg:Str→Option Value} {base:Heap} {a:Ad}
theorem qO (T:Tx K mg a):FnOk P w K mg base CX0 1 a.c9 a.lJ ["thing"] (yC K):=by
 refine T.pE.ok Le (fun vs H Q E h=>?_) (fun cdv A outer s H vs Q E hr h=>?_)
 ·obtain ⟨x,k,rfl,_⟩:=h;rfl
 ·obtain ⟨x,k,rfl,hk,q⟩:=h
  refine ⟨_,((aj (aM (wm (aD (lP (K:=K) rfl) (by rfl) T.fX PyProof.Rows.boot_isinstance (aa (pv 0) (aa (uk (v:= .ty "int") (by rfl) T.aes PyProof.Rows.boot_int rfl) ae))) (zk (aea (aD (lP (K:=K) rfl) (by rfl) T.fX PyProof.Rows.boot_isinstance (aa (pv 0) (aa (uk (v:= .ty "bool") (by rfl) T.aet PyProof.Rows.boot_bool rfl) ae))))))))),az (σ':=[some _]) rfl ?_⟩
  walk_at "l2"
  unfold Ti at q
  cases hc:subB k "int"
  ·rw [hc] at q
   walk_at "l2"
   exact q
  ·rw [hc] at q
   walk_at "l2"
   exact q
local macro_rules | `(tactic| walk_at "l2step") =>`(tactic| ((with_reducible refine' fN ?e ?_);(case e=>walk_at "l2kind")))
theorem lu (T:Tx K mg a):FnOk P w K mg base CX0 2 a.fo a.sT ["thing","width"] (KW K):=by
 have lW:FnOk P w K mg base CX0 1 a.c9 a.lJ ["thing"] (yC K):=qO T
 refine T.tU.ok PR (fun vs H Q E h=>?_) (fun cdv A outer s H vs Q E hr h=>?_)
 ·obtain ⟨x,k,w,rfl,_⟩:=h;rfl
 ·obtain ⟨x,k,wd,rfl,hk,q⟩:=h
  refine ⟨_,((aj (aM (wm (ar lW (hr.mono (by decide)) (by rfl) T.vm T.vi T.lV .nil aA (aa (pv 0) ae)) (wm (iu aei (pv 0) al (bu _)) (zk (iu afV (Lz (K:=K) rfl PySem.F.plainAttrs_int PySem.F.slot_int_bit_length PySem.F.type_int_bit_length Mx (pv 0)) (pv 1) (bu _)))))))),az (σ':=[some _,some _]) rfl ?_⟩
  walk_at "l2"
  cases x with
  | int i=>
    have hk:k="int":=hk
    subst hk
    walk_at "l2"
    have q:Q (.bl (decide (0≤i)&&decide (((Builtin.Int.intBits i:Nat):Int)≤wd))) H:=q
    cases hc:decide (0≤i)
    ·rw [hc] at q;walk_at "l2";exact q
    ·rw [hc] at q;walk_at "l2";exact q
  | bl b=>have hk:k="bool":=hk;subst hk;walk_at "l2";exact q
  | non=>have hk:k="NoneType":=hk;subst hk;walk_at "l2";exact q
  | str z=>have hk:k="str":=hk;subst hk;walk_at "l2";exact q
  | ref p=>
    rcases hk with ⟨rfl,_⟩ | ⟨rfl,_⟩ | ⟨rfl,_⟩<;>walk_at "l2"<;>exact q
  | _=>exact False.elim hk
local macro_rules | `(tactic| walk_at "l2step") =>`(tactic| ((with_reducible refine' jI ?e ?_);(case e=>walk_at "l2kind")))
theorem abE (T:Tx K mg a):FnOk P w K mg base CX0 1 a.sQ a.V5 ["number"] aa8:=by
 refine T.O4.ok yX (fun vs H Q E h=>?_) (fun cdv A outer s H vs Q E hr h=>?_)
 ·obtain ⟨m,rfl,_⟩:=h;rfl
 ·obtain ⟨m,rfl,hm,q⟩:=h
  refine ⟨_,((af (aW (i:=1) yX.nd rfl (by walk_at "o") (Lz (K:=K) rfl PySem.F.plainAttrs_int PySem.F.slot_int_bit_length PySem.F.type_int_bit_length Mx (pv 0)))
   (af (Ov PassesOwn.never (bc xc (pv 1) al (bu _)) (af (aW (i:=2) yX.nd rfl (by walk_at "o") (aG Uw (aG dP (pv 1) al) al))
   (af (aW (i:=0) yX.nd rfl (by walk_at "o") (aG wu (aG OD (pv 0) (pv 2)) (aG E1 (pv 0) (aG Ur (aG EZ al (pv 2)) al))))
   (aj (aW (i:=1) yX.nd rfl (by walk_at "o") (pv 2))))))
   (aj (aM (iu pN (pv 0) al (bu _))))))),az (σ':=[some _,none,none]) rfl ?_⟩
  walk_at "l2"
  refine ⟨fun μ σ' H'=>∃ n hf,σ'=[some (nat n),some (nat μ),hf]∧H'=H∧n < 2 ^ μ∧μ≤1000∧M.od n=M.od m,⟨Builtin.Int.intBits (m:Int),m,none,rfl,rfl,NM m,NN hm,rfl⟩,?_⟩
  rintro μ σ' H' ⟨n,hf,rfl,rfl,hn,hw,hp⟩
  walk_at "l2"
  refine iteB (fun hc=>?_) (fun hc=>?_)
  ·have hc:=of_decide_eq_true hc
   have hlt:(μ + 1) / 2 < μ:=by omega
   refine ⟨fun σ2 H2=>∃ n2 hf,σ2=[some (nat n2),some (nat ((μ + 1) / 2)),hf]∧H2=H'∧n2 < 2 ^ ((μ + 1) / 2)∧M.od n2=M.od m,fun σ2 H2 ⟨n2,hf2,e1,e2,e3,e4⟩=>⟨(μ + 1) / 2,hlt,n2,hf2,e1,e2,e3,by omega,e4⟩,?_⟩
   walk_at "l2"
   refine ⟨(n>>>((μ + 1) / 2))^^^(n&&&(2 ^ ((μ + 1) / 2) - 1)),some (nat ((μ + 1) / 2)),?_,rfl,M.fold_lt μ _ n hn (by omega),?_⟩
   ·rw [Vy,VM]
   ·rw [← hp]
    have f:=M.pb_fold μ ((μ + 1) / 2) n (by omega) hn (by omega)
    show M.pb 1000 _=M.pb 1000 _
    rw [M.pb_up (M.fold_lt μ _ n hn (by omega)) (by omega),f,← M.pb_up hn hw]
  ·have hc:=of_decide_eq_false hc
   have hn2:n < 2:=Nat.lt_of_lt_of_le hn (Nat.pow_le_pow_right (by decide) (show μ≤1 by omega))
   walk_at "l2"
   rw [show decide (V.int (n:Int)=V.int 0)= !M.od n from Yi hn2,hp]
   exact q
theorem E3 (T:Tx K mg a):FnOk P w K mg base CX0 1 a.gv a.A9 ["mask"] aba:=by
 refine T.tV.ok PU (fun vs H Q E h=>?_) (fun cdv A outer s H vs Q E hr h=>?_)
 ·obtain ⟨m,rfl,_⟩:=h;rfl
 ·obtain ⟨m,rfl,hm,q⟩:=h
  have hb:=NN hm
  refine ⟨_,((aj (aM (ci (osc:=ad jk) (ON:=["mask"]) (N:=["place","mask"]) (n:=1) (fx:=[0]) rfl rfl rfl (by decide +kernel) (ge (by rfl) T.kC (aa (Lz (K:=K) rfl PySem.F.plainAttrs_int PySem.F.slot_int_bit_length PySem.F.type_int_bit_length Mx (pv 0)) ae)) (aF (by decide)) (fun _ _ _ _ _=>⟨(ax (i:=0) (show List.Nodup (["place","mask"]:List Str) from by decide +kernel) rfl (by walk_at "o")),(km (bc pN (aG E1 (aG OD (pv 1) (pv 0)) al) al (bu _))),(pv 0)⟩))))),az (σ':=[some _]) rfl ?_⟩
  walk_at "l2"
  intro D hD
  refine g5 (fun i ys H'=>Cs (fun i ys=>ys=(M.pl i m).map nat) H D i ys H') (Cs.zero hD rfl) (fun i ys H' hi c=>?_) (fun ys H' c=>?_)
  ·walk_at "l2"
   rw [O1]
   by_cases ht:m.testBit i=true
   ·rw [if_pos ht]
    walk_at "l2"
    refine Cs.put hD c.same c.at' c.len (by omega) ?_
    rw [c.pv,M.pl_next,if_pos ht,List.map_append,Int.zero_add]
    rfl
   ·rw [if_neg ht]
    walk_at "l2"
    refine Cs.skip c.same c.at' c.len ?_
    rw [c.pv,M.pl_next,if_neg ht,List.append_nil]
  ·have e:=c.pv
   rw [Int.toNat_natCast] at e
   refine q D H' hD c.same ?_
   rw [c.at',e,M.pl_up (NM m) hb]
theorem E2 (T:Tx K mg a):FnOk P w K mg base CX0 1 a.gp a.A5 ["places"] Tz:=by
 refine T.tQ.ok o4 (fun vs H Q E h=>?_) (fun cdv A outer s H vs Q E hr h=>?_)
 ·obtain ⟨r,ps,rfl,_⟩:=h;rfl
 ·obtain ⟨r,ps,rfl,hp,hl,q⟩:=h
  refine ⟨_,((af (aW (i:=1) o4.nd rfl (by walk_at "o") al)
   (af (fV PassesOwn.never rfl (aR (K:=K) rfl (pv 0)) (ax (i:=2) o4.nd rfl (by walk_at "o")) (aj (aW (i:=1) o4.nd rfl (by walk_at "o") (aG wu (pv 1) (aG EZ al (pv 2))))))
   (aj (aM (pv 1)))))),az (σ':=[some _,none,none]) rfl ?_⟩
  walk_at "l2"
  refine jZ (xs:=ps.map nat) (fun i σ H'=>∃ v,σ=[some (.ref r),some (nat (M.xm (ps.take i))),v]∧H'=H) ⟨none,rfl,rfl⟩ (fun i σ H' _ ⟨_,_,e⟩=>by rw [e];exact SqL.of hp) ?_ ?_
  ·rintro i y σ H' hy ⟨v,rfl,rfl⟩
   obtain ⟨k,hk,rfl⟩:=aC hy
   have:=hl k (List.mem_of_getElem? hk)
   walk_at "l2"
   refine ⟨some (nat k),?_,rfl⟩
   rw [shl1,jf,Tb hk]
  ·rintro σ H' ⟨v,rfl,rfl⟩
   rw [List.length_map,List.take_length]
   walk_at "l2"
   exact q
end
section
variable {P:Program} {w:World} {K:PySem.W.Frag} {mg:Str→Option Value} {base:Heap} {a:Ad}
theorem uo (T:Tx K mg a):FnOk P w K mg base CX0 1 a.gu a.A8 ["thing"] (Tw K):=by
 refine T.tT.ok PQ (fun vs H Q E h=>?_) (fun cdv A outer s H vs Q E hr h=>?_)
 ·obtain ⟨x,k,rfl,_⟩:=h;rfl
 ·obtain ⟨x,k,rfl,hk,hz,q⟩:=h
  have q0:=q H (Same.refl H)
  refine ⟨_,((af (fJ (PW.pt (qI (jm (gc (aD (lP (K:=K) rfl) (by rfl) T.fX PyProof.Rows.boot_isinstance (aa (pv 0) (aa (uk (v:= .ty "str") (by rfl) T.UV PyProof.Rows.boot_str rfl) ae))))) (qI (bc pN (pv 0) bU (bu _)) (p9 (bc xc (aD (aK (K:=K) rfl) (by rfl) T.fc PySem.boot_len (aa (pv 0) ae)) (jp (v:= .int 6) (by rfl) T.DP ⟨_,rfl⟩) (bu _)))))) (aj (aM LA)) bR)
   (aj (aM (wm (iu IL (bC aap (pv 0) al (fun _ _=>rfl)) (jp (v:= .str "abcdefghijklmnopqrstuvwxyz") (by rfl) T.VG ⟨_,rfl⟩) (by rfl)) (zk (aD (tm (K:=K) rfl rfl) (by rfl) T.Yq PyProof.Rows.boot_all (aa (ci (osc:=ad jj) (ON:=["thing"]) (N:=["sign"]) (n:=1) (fx:=[]) rfl rfl rfl (by decide +kernel) (ad7 (pv 0)) (aF (by decide)) (fun _ _ _ _ _=>⟨(ax (i:=0) (show List.Nodup (["sign"]:List Str) from by decide +kernel) rfl (by walk_at "o")),bx,(iu IL (pv 0) (jp (v:= .str "abcdefghijklmnopqrstuvwxyz0123456789") (by rfl) T.JO ⟨_,rfl⟩) (by rfl))⟩)) ae)))))))),az (σ':=[some _]) rfl ?_⟩
  walk_at "l2"
  cases x with
  | int i=>have hk:k="int":=hk;subst hk;walk_at "l2";exact q0
  | bl b=>have hk:k="bool":=hk;subst hk;walk_at "l2";exact q0
  | non=>have hk:k="NoneType":=hk;subst hk;walk_at "l2";exact q0
  | ref p=>rcases hk with ⟨rfl,_⟩ | ⟨rfl,_⟩ | ⟨rfl,_⟩<;>walk_at "l2"<;>exact q0
  | str z=>
    have hk:k="str":=hk
    subst hk
    have hz:=hz z rfl
    have hs:z.length≤sizeLine:=Nat.le_of_lt (aP hz)
    have q:∀ H',Same H H'→Q (.bl (nm z.cps.toList)) H':=q
    have q0:=q H (Same.refl H)
    walk_at "l2"
    by_cases h1:z=""
    ·rw [KU.mp h1] at q0
     refine rW (by rw [decide_eq_true];rw [h1]) ?_
     walk_at "l2"
     exact q0
    ·refine iS (by rw [decide_eq_false];exact fun z=>h1 (V.str.inj z)) ?_
     walk_at "l2"
     obtain ⟨c,r,hcr⟩:∃ c r,z.cps.toList=c::r:=by
      cases hl:z.cps.toList with
      | nil=>exact absurd (KU.mpr hl) h1
      | cons c r=>exact ⟨c,r,rfl⟩
     have hlen:=pd z
     rw [hcr] at q0 hlen
     have q:∀ H',Same H H'→Q (.bl (decide ((c::r).length≤6)&&low c&&(c::r).all fun c=>low c||fig c)) H':=fun H' s=>by have:=q H' s;rw [hcr] at this;exact this
     by_cases h2:(6:Int) < z.length
     ·refine rW (decide_eq_true h2) ?_
      walk_at "l2"
      have:=q H (Same.refl H)
      rw [decide_eq_false (show ¬ (c::r).length≤6 by omega)] at this
      exact this
     ·refine iS (decide_eq_false h2) ?_
      rw [decide_eq_true (show (c::r).length≤6 by omega)] at q
      walk_at "l2"
      refine adC hs (c:=c) (by rw [hcr];exact fO (j:=0) rfl) ?_
      walk_at "l2"
      rw [StrLaws.found_one,memL]
      cases hlo:low c
      ·rw [hlo] at q
       walk_at "l2"
       exact q H (Same.refl H)
      ·rw [hlo] at q
       walk_at "l2"
       intro D f
       refine Zf (Cs (fun i ys=>ys=(((c::r).take i).map fun c=>low c||fig c).map V.bl) H D) (Cs.zero f rfl) (fun i d ys H' hd ⟨e,s,at',len⟩=>?_) (fun ys H' ⟨e,s,at',len⟩=>?_)
       ·have hi:i < z.cps.size:=(Array.getElem?_eq_some_iff.mp hd).1
        have hd':(c::r)[i]? =some d:=by rw [← hcr];simpa using hd
        walk_at "l2"
        rw [StrLaws.found_one,memN]
        refine Cs.put f s at' len (by have:z.cps.size=z.length:=rfl;omega) ?_
        rw [e,List.take_succ,hd',List.map_append,List.map_append];rfl
       ·have hsz:z.cps.size=(c::r).length:=hlen.symm
        rw [hsz,List.take_length] at e
        refine Ik (SqL.of (by rw [at',e])) ?_
        have:=q H' s
        rw [List.all_map]
        exact this
  | _=>exact False.elim hk
theorem iC (T:Tx K mg a):FnOk P w K mg base CX0 1 a.bH a.cC ["self","name"] (XS K):=by
 refine T.gD.ok wV (fun vs H Q E h=>?_) (fun cdv A outer s H vs Q E hr h=>?_)
 ·obtain ⟨x,C,dx,nm,rfl,_⟩:=h;rfl
 ·obtain ⟨x,C,dx,nm,rfl,hc,hn,hx,q⟩:=h
  refine ⟨_,((aj (cZ (K:=K) rfl (pv 0) (pv 1) rfl))),az (σ':=[some _,some _]) rfl ?_⟩
  walk_at "l2"
  exact cS hx hc hn (by decide) rfl q
theorem sk (T:Tx K mg a):FnOk P w K mg base CX0 2 a.ba a.gZ ["self","name","number"] (XR a.aq):=by
 have d6:=@iC P w K mg base a T
 refine T.eW.ok rV (fun vs H Q E h=>?_) (fun cdv A outer s H vs Q E hr h=>?_)
 ·obtain ⟨x,dx,nm,k,rfl,_⟩:=h;rfl
 ·obtain ⟨x,dx,nm,k,rfl,hx,q⟩:=h
  refine ⟨_,((af (b8 (zl (by rfl) T.VD T.cC d6 (hr.mono (by decide)) T.d4 .nil aA (aa (pv 0) (aa (pv 1) ae))))
   (aj (cZ (K:=K) rfl (pv 0) (pv 2) rfl)))),az (σ':=[some _,some _,some _]) rfl ?_⟩
  walk_at "l2"
  refine ⟨x,_,dx,nm,rfl,T.mW,T.sE,hx,fun H2 u=>?_⟩
  walk_at "l2"
  exact cS u.at' T.mW T.jz (by show 1 < 1000;decide) rfl fun H3 u3=>q H3 (u.trans u3)
theorem nW (T:Tx K mg a):FnOk P w K mg base CX0 2 a.aJ a.fg ["self","name","wire","number"] (XQ a.ah):=by
 have d6:=@iC P w K mg base a T
 refine T.cP.ok nS (fun vs H Q E h=>?_) (fun cdv A outer s H vs Q E hr h=>?_)
 ·obtain ⟨x,dx,nm,w,k,rfl,_⟩:=h;rfl
 ·obtain ⟨x,dx,nm,wr,k,rfl,hx,q⟩:=h
  refine ⟨_,((af (b8 (zl (by rfl) T.VD T.cC d6 (hr.mono (by decide)) T.d4 .nil aA (aa (pv 0) (aa (pv 1) ae))))
   (af (cZ (K:=K) rfl (pv 0) (pv 2) rfl)
   (aj (cZ (K:=K) rfl (pv 0) (pv 3) rfl))))),az (σ':=[some _,some _,some _,some _]) rfl ?_⟩
  walk_at "l2"
  refine ⟨x,_,dx,nm,rfl,T.ee,T.mZ,hx,fun H2 u=>?_⟩
  walk_at "l2"
  refine cS u.at' T.ee T.xL (by show 1 < 1000;decide) rfl fun H3 u3=>?_
  walk_at "l2"
  exact cS u3.at' T.ee T.gi (by show 2 < 1000;decide) rfl fun H4 u4=>q H4 ((u.trans u3).trans u4)
theorem qR (T:Tx K mg a):FnOk P w K mg base CX0 2 a.aT a.gw ["self","name","wires"] (TF K a.am):=by
 have d6:=@iC P w K mg base a T
 refine T.dR.ok qD (fun vs H Q E h=>?_) (fun cdv A outer s H vs Q E hr h=>?_)
 ·obtain ⟨x,dx,nm,tw,ws,rfl,_⟩:=h;rfl
 ·obtain ⟨x,dx,nm,tw,ws,rfl,hw,hx,q⟩:=h
  have hne:tw≠x:=dB hw hx fun z=>by cases z
  refine ⟨_,((af (b8 (zl (by rfl) T.VD T.cC d6 (hr.mono (by decide)) T.d4 .nil aA (aa (pv 0) (aa (pv 1) ae))))
   (aj (cZ (K:=K) rfl (pv 0) (aQ (du (K:=K) rfl) (by rfl) T.kB PyProof.Rows.boot_tuple (aa (pv 2) ae)) rfl)))),az (σ':=[some _,some _,some _]) rfl ?_⟩
  walk_at "l2"
  refine ⟨x,_,dx,nm,rfl,T.jO,T.qg,hx,fun H2 u=>?_⟩
  have hw2:=u.oth _ _ hne hw
  walk_at "l2"
  exact cS u.at' T.jO T.jy (by show 1 < 1000;decide) rfl fun H4 u4=>q H4 (u.trans u4)
theorem FU (T:Tx K mg a):FnOk P w K mg base CX0 1 a.b9 a.oE ["self","known","row","state"] (abd a.aq):=by
 refine T.kg.ok FF (fun vs H Q E h=>?_) (fun cdv A outer s H vs Q E hr h=>?_)
 ·obtain ⟨p,dx,nm,k,kn,row,st,rfl,_⟩:=h;rfl
 ·obtain ⟨p,dx,nm,k,kn,row,st,rfl,hp,h0,q⟩:=h
  refine ⟨_,((aj (aM (aG E1 (aG OD (pv 2) (aN (K:=K) rfl (pv 0) rfl)) al)))),az (σ':=[some _,some _,some _,some _]) rfl ?_⟩
  walk_at "l2"
  refine aH hp T.mW T.jz rfl ?_
  walk_at "l2"
  exact q
theorem xh (T:Tx K mg a):FnOk P w K mg base CX0 1 a.bz a.jE ["self","known","row","state"] (abb a.ah):=by
 refine T.gE.ok wW (fun vs H Q E h=>?_) (fun cdv A outer s H vs Q E hr h=>?_)
 ·obtain ⟨p,dx,nm,wr,k,kn,row,st,rfl,_⟩:=h;rfl
 ·obtain ⟨p,dx,nm,wr,k,kn,row,st,rfl,hp,h0,q⟩:=h
  refine ⟨_,((aj (aM (aG E1 (aG OD (pv 3) (aN (K:=K) rfl (pv 0) rfl)) al)))),az (σ':=[some _,some _,some _,some _]) rfl ?_⟩
  walk_at "l2"
  refine aH hp T.ee T.gi rfl ?_
  walk_at "l2"
  exact q
theorem Cl (T:Tx K mg a):FnOk P w K mg base CX0 1 a.bX a.mF ["self","known","row","state"] (abc K a.am):=by
 refine T.i7.ok hG (fun vs H Q E h=>?_) (fun cdv A outer s H vs Q E hr h=>?_)
 ·obtain ⟨p,dx,nm,tw,d,ws,kvs,f,row,st,rfl,_⟩:=h;rfl
 ·obtain ⟨p,dx,nm,tw,d,ws,kvs,f,row,st,rfl,hp,ht,hd,hf,q⟩:=h
  have hu:=DO hr
  refine ⟨_,((af (aW (i:=4) hG.nd rfl (by walk_at "o") al)
   (af (fV PassesOwn.never rfl (md (K:=K) rfl (aN (K:=K) rfl (pv 0) rfl)) (ax (i:=5) hG.nd rfl (by walk_at "o")) (aj (aW (i:=4) hG.nd rfl (by walk_at "o") (aG wu (pv 4) (uj hu (pv 1) (pv 5) (fun _ _=>rfl))))))
   (aj (aM (pv 4)))))),az (σ':=[some _,some _,some _,some _,none,none]) rfl ?_⟩
  walk_at "l2"
  refine aH hp T.jO T.jy rfl ?_
  walk_at "l2"
  refine vn (fun i σ H2=>∃ v,σ=[some (.ref p),some (.ref d),some (.int row),some (.int st),some (.int (((ws.take i).map f).foldl Builtin.bitXor 0)),v]∧H2=H) ⟨none,rfl,rfl⟩ (fun i σ H2 _ ⟨v,_,e⟩=>by rw [e];exact ht) ?_ ?_
  ·rintro i x σ H2 hx ⟨v,rfl,rfl⟩
   obtain ⟨z,hz,rfl⟩:=aC hx
   walk_at "l2"
   refine uc hd (hf z (List.mem_of_getElem? hz)) ?_
   walk_at "l2"
   exact ⟨_,by rw [AN hz],rfl⟩
  ·rintro σ H2 ⟨v,rfl,rfl⟩
   walk_at "l2"
   rw [List.length_map,List.take_length]
   exact q
theorem Cm (T:Tx K mg a):FnOk P w K mg base CX0 1 a.b0 a.mH ["self","known"] (XX a.aq):=by
 refine T.i9.ok B8 (fun vs H Q E h=>?_) (fun cdv A outer s H vs Q E hr h=>?_)
 ·obtain ⟨p,dx,nm,k,kn,rfl,_⟩:=h;rfl
 ·obtain ⟨p,dx,nm,k,kn,rfl,hp,h0,h1,q⟩:=h
  refine ⟨_,((aj (aM (gJ (aa al (aa (aG EZ al (aN (K:=K) rfl (pv 0) rfl)) ae)))))),az (σ':=[some _,some _]) rfl ?_⟩
  walk_at "l2"
  refine aH hp T.mW T.jz rfl ?_
  walk_at "l2"
  exact fun t H2 _ s e=>q t H2 s e
theorem uq (T:Tx K mg a):FnOk P w K mg base CX0 1 a.bh a.iG ["self","known"] (XU a.ah):=by
 refine T.fE.ok t7 (fun vs H Q E h=>?_) (fun cdv A outer s H vs Q E hr h=>?_)
 ·obtain ⟨p,dx,nm,wr,k,kn,rfl,_⟩:=h;rfl
 ·obtain ⟨p,dx,nm,wr,k,kn,rfl,hp,h0,h1,q⟩:=h
  refine ⟨_,((aj (aM (gJ (aa (aG EZ al (aN (K:=K) rfl (pv 0) rfl)) (aa al ae)))))),az (σ':=[some _,some _]) rfl ?_⟩
  walk_at "l2"
  refine aH hp T.ee T.gi rfl ?_
  walk_at "l2"
  exact fun t H2 _ s e=>q t H2 s e
theorem zu (T:Tx K mg a):FnOk P w K mg base CX0 1 a.bI a.kE ["self","known"] (XV K a.am):=by
 refine T.h7.ok cz (fun vs H Q E h=>?_) (fun cdv A outer s H vs Q E hr h=>?_)
 ·obtain ⟨p,dx,nm,tw,d,ws,kvs,f,g,rfl,_⟩:=h;rfl
 ·obtain ⟨p,dx,nm,tw,d,ws,kvs,f,g,rfl,hp,ht,hd,hf,q⟩:=h
  have hu:=DO hr
  refine ⟨_,((af (aW (i:=2) cz.nd rfl (by walk_at "o") al)
   (af (aW (i:=3) cz.nd rfl (by walk_at "o") al)
   (af (fV PassesOwn.never rfl (md (K:=K) rfl (aN (K:=K) rfl (pv 0) rfl)) (ax (i:=4) cz.nd rfl (by walk_at "o")) (af (aW (i:=5) cz.nd rfl (by walk_at "o") (uj hu (pv 1) (pv 4) (fun _ _=>rfl)))
   (af (aW (i:=2) cz.nd rfl (by walk_at "o") (aG wu (pv 2) (bC (bg (K:=K) rfl) (pv 5) al (fun _ _=>rfl))))
   (aj (aW (i:=3) cz.nd rfl (by walk_at "o") (aG wu (pv 3) (bC (bg (K:=K) rfl) (pv 5) al (fun _ _=>rfl))))))))
   (aj (aM (gJ (aa (pv 2) (aa (pv 3) ae))))))))),az (σ':=[some _,some _,none,none,none,none]) rfl ?_⟩
  walk_at "l2"
  refine aH hp T.jO T.jy rfl ?_
  walk_at "l2"
  refine vn (fun i σ H2=>∃ v v',σ=[some (.ref p),some (.ref d),some (.int (((ws.take i).map f).foldl Builtin.bitXor 0)),some (.int (((ws.take i).map g).foldl Builtin.bitXor 0)),v,v']∧H2=H) ⟨none,none,rfl,rfl⟩ (fun i σ H2 _ ⟨v,v',_,e⟩=>by rw [e];exact ht) ?_ ?_
  ·rintro i x σ H2 hx ⟨v,v',rfl,rfl⟩
   obtain ⟨z,hz,rfl⟩:=aC hx
   obtain ⟨t,ht1,ht2⟩:=hf z (List.mem_of_getElem? hz)
   walk_at "l2"
   refine uc hd ht1 ?_
   walk_at "l2"
   exact ⟨_,_,by rw [AN hz,AN hz],rfl⟩
  ·rintro σ H2 ⟨v,v',rfl,rfl⟩
   walk_at "l2"
   rw [List.length_map,List.take_length]
   exact fun t H3 _ s e=>q t H3 s e
end
section
variable {P:Program} {w:World} {K:PySem.W.Frag} {mg:Str→Option Value} {base:Heap} {a:Ad}
local macro_rules | `(tactic| walk_at "l2step") =>`(tactic| first | ((with_reducible refine' fN ?e ?_);(case e=>walk_at "l2kind")) | ((with_reducible refine' jI ?e ?_);(case e=>walk_at "l2kind")) | (with_reducible refine dh ?_) | (with_reducible refine gb ?_))
theorem Cj (T:Tx K mg a):FnOk P w K mg base CX0 1 a.cq a.mD ["ins","sums","stores","outs"] TJ:=by
 refine T.i5.ok B5 (fun vs H Q E h=>?_) (fun cdv A outer s H vs Q E hr h=>?_)
 ·obtain ⟨i,s,t,o,rs,qs,N,rfl,_⟩:=h;rfl
 ·obtain ⟨i,s,t,o,rs,qs,N,rfl,hn,g,q⟩:=h
  have hi:=hn.i
  have hs:=hn.s
  have ht:=hn.t
  have ho:=hn.o
  have li:=g.li
  have ls:=g.ls
  have lt:=g.lt
  have lo:=g.lo
  have lrs:rs.length=N.sums.length:=by rw [← hn.es,List.length_map]
  have lqs:qs.length=N.sts.length:=by rw [← hn.et,List.length_map]
  refine ⟨_,((af (fJ (bc xc (aD (aK (K:=K) rfl) (by rfl) T.fc PySem.boot_len (aa (pv 0) ae)) (jp (v:= .int 6) (by rfl) T.RA ⟨_,rfl⟩) (bu _)) (aj jn) bR)
   (af (fJ (bc xc (aD (aK (K:=K) rfl) (by rfl) T.fc PySem.boot_len (aa (pv 1) ae)) (jp (v:= .int 40) (by rfl) T.M7 ⟨_,rfl⟩) (bu _)) (aj jn) bR)
   (af (fJ (bc xc (aD (aK (K:=K) rfl) (by rfl) T.fc PySem.boot_len (aa (pv 2) ae)) (jp (v:= .int 16) (by rfl) T.sO ⟨_,rfl⟩) (bu _)) (aj jn) bR)
   (af (fJ (bc xc (aD (aK (K:=K) rfl) (by rfl) T.fc PySem.boot_len (aa (pv 3) ae)) (jp (v:= .int 6) (by rfl) T.ya ⟨_,rfl⟩) (bu _)) (aj jn) bR)
   (aj (fJ (gc (aD (Kh (K:=K) rfl rfl) (by rfl) T.aeu PyProof.Rows.boot_any (aa (ci (osc:=ad dj) (ON:=["ins","sums","stores","outs"]) (N:=["row"]) (n:=1) (fx:=[]) rfl rfl rfl (by decide +kernel) (aR (K:=K) rfl (pv 1)) (aF (by decide)) (fun _ _ _ _ _=>⟨(ax (i:=0) (show List.Nodup (["row"]:List Str) from by decide +kernel) rfl (by walk_at "o")),bx,(iu xc (aD (aK (K:=K) rfl) (by rfl) T.fc PySem.boot_len (aa (bC (bg (K:=K) rfl) (pv 0) al (fun _ _=>rfl)) ae)) (jp (v:= .int 24) (by rfl) T.JP ⟨_,rfl⟩) (bu _))⟩)) ae))) (aj jn) bR))))))),az (σ':=[some _,some _,some _,some _]) rfl ?_⟩
  walk_at "l2"
  rw [List.length_map]
  refine iS (decide_eq_false (by omega)) ?_
  walk_at "l2"
  rw [List.length_map]
  refine iS (decide_eq_false (by omega)) ?_
  walk_at "l2"
  rw [List.length_map]
  refine iS (decide_eq_false (by omega)) ?_
  walk_at "l2"
  rw [List.length_map]
  refine iS (decide_eq_false (by omega)) ?_
  walk_at "l2"
  intro D hD
  refine aX (xs:=rs.map fun r=>V.ref r.1) (fun i ys H'=>Cs (fun i ys=>ys=(List.replicate i false).map V.bl) H D i ys H') (Cs.zero hD rfl) (fun i ys H' _ c=>SqL.of (c.same.get hs)) (fun i x ys H' hx c=>?_) (fun ys H' c=>?_)
  ·obtain ⟨r,hr',rfl⟩:=aC hx
   have hi:=(List.getElem?_eq_some_iff.mp hr').1
   have hm:=List.mem_of_getElem? hr'
   have er:=c.same.get (hn.sr r hm).1
   have ew:=c.same.get (hn.sr r hm).2
   have hw:=g.lw r.2.2 (by rw [← hn.es];exact List.mem_map.mpr ⟨r,hm,rfl⟩)
   walk_at "l2"
   rw [List.length_map,decide_eq_false (show ¬ (24:Int) < (r.2.2.2.length:Int) by omega)]
   refine Cs.put hD c.same c.at' c.len (by omega) ?_
   rw [c.pv,List.replicate_succ',List.map_append];rfl
  ·have ec:=c.at'
   rw [c.pv] at ec
   walk_at "l2"
   refine ZQ (SqL.of ec) ?_
   walk_at "l2"
   refine iS (by simp) ?_
   walk_at "l2"
   exact q H' c.same
theorem Ck (T:Tx K mg a):FnOk P w K mg base CX0 2 a.cr a.mE ["names"] TK:=by
 have jN:=@uo P w K mg base a T
 refine T.i6.ok kl (fun vs H Q E h=>?_) (fun cdv A outer s H vs Q E hr h=>?_)
 ·obtain ⟨l,zs,rfl,_⟩:=h;rfl
 ·obtain ⟨l,zs,rfl,hl,ln,nd,hn,q⟩:=h
  have hu:=DO hr
  refine ⟨_,((af (aW (i:=1) kl.nd rfl (by walk_at "o") yE)
   (aj (fV PassesOwn.never rfl (aR (K:=K) rfl (pv 0)) (ax (i:=2) kl.nd rfl (by walk_at "o")) (af (fJ (jm (gc (ar jN (hr.mono (by decide)) (by rfl) T.ou T.oq T.jK .nil aA (aa (pv 2) ae)))) (aj jn) bR)
   (af (fJ (Z3 (Z5 hu (pv 2) (pv 1))) (aj jn) bR)
   (aj (Ll hu (pv 1) (pv 2) LA rfl)))))))),az (σ':=[some _,none,none]) rfl ?_⟩
  walk_at "l2"
  intro D H1 f1 s1 e1
  have hl1:=s1.get hl
  walk_at "l2"
  refine jZ (xs:=zs.map V.str) (fun i σ H'=>∃ v,σ=[some (.ref l),some (.ref D),v]∧Same H H'∧∃ kvs:List (Key×V),H' D=some (.dK kvs)∧kvs.map (·.1)=(zs.take i).map Sum.inr) ⟨none,rfl,s1,[],e1,rfl⟩ (fun i σ H' _ ⟨_,_,s',_⟩=>SqL.of (s'.get hl)) ?_ ?_
  ·rintro i y σ H' hy ⟨v,rfl,s',kvs,eD,ek⟩
   obtain ⟨z,hz,rfl⟩:=aC hy
   have hi:=(List.getElem?_eq_some_iff.mp hz).1
   have hnot:z∉zs.take i:=fun m=>by
    have h2:=nd
    rw [← List.take_append_drop i zs,List.nodup_append] at h2
    exact h2.2.2 z m z (List.mem_of_getElem? (i:=0) (by rw [List.getElem?_drop,Nat.add_zero];exact hz)) rfl
   have lk:kvs.length≤1000:=by have:=congrArg List.length ek;rw [List.length_map,List.length_map,List.length_take] at this;omega
   walk_at "l2"
   refine c_nm (hn z (List.mem_of_getElem? hz)) fun H2 s2=>?_
   have eD2:=s2.get eD
   walk_at "l2"
   refine ZO eD2 ?_
   rw [yB ek z,decide_eq_false hnot]
   walk_at "l2"
   refine qH eD2 (aP lk) fun H3 u3=>?_
   rw [Lk ek hnot] at u3
   walk_at "l2"
   refine ⟨fun b o e=>u3.oth _ _ (ai e f1) (s2.get (s'.get e)),_,u3.at',?_⟩
   rw [List.map_append,ek,take_succ hz,List.map_append];rfl
  ·rintro σ H' ⟨v,rfl,s',_⟩
   walk_at "l2"
   exact q H' s'
theorem si (T:Tx K mg a):FnOk P w K mg base CX0 2 a.cJ a.oA ["wire","known"] XY:=by
 have jN:=@uo P w K mg base a T
 refine T.kb.ok FE (fun vs H Q E h=>?_) (fun cdv A outer s H vs Q E hr h=>?_)
 ·obtain ⟨z,d,zs,rfl,_⟩:=h;rfl
 ·obtain ⟨z,d,zs,rfl,⟨kvs,ed,ek⟩,hz,hn,q⟩:=h
  have hu:=DO hr
  refine ⟨_,((aj (fJ (PW.pt (qI (jm (gc (ar jN (hr.mono (by decide)) (by rfl) T.ou T.oq T.jK .nil aA (aa (pv 0) ae)))) (p9 (Z3 (Uo hu (pv 0) (pv 1)))))) (aj jn) bR))),az (σ':=[some _,some _]) rfl ?_⟩
  walk_at "l2"
  refine c_nm hn fun H2 s2=>?_
  have ed2:=s2.get ed
  walk_at "l2"
  refine abq ed2 ?_
  rw [yB ek z,decide_eq_true hz]
  walk_at "l2"
  exact q H2 s2
theorem Ch (T:Tx K mg a):FnOk P w K mg base CX0 3 a.ck a.mB ["sums","stores","outs","known"] TH:=by
 have iq:=@si P w K mg base a T
 refine T.iZ.ok fi (fun vs H Q E h=>?_) (fun cdv A outer s H vs Q E hr h=>?_)
 ·obtain ⟨i,s,t,o,d,rs,qs,N,rfl,_⟩:=h;rfl
 ·obtain ⟨i,s,t,o,d,rs,qs,N,rfl,kp,g,kn,q⟩:=h
  have hs:=kp.s
  have ht:=kp.t
  have ho:=kp.o
  refine ⟨_,((af (fV PassesOwn.never rfl (md (K:=K) rfl (pv 0)) (ax (i:=4) fi.nd rfl (by walk_at "o")) (aj (fV PassesOwn.never rfl (md (K:=K) rfl (bC (bg (K:=K) rfl) (pv 4) al (fun _ _=>rfl))) (ax (i:=5) fi.nd rfl (by walk_at "o")) (aj (b8 (ar iq (hr.mono (by decide)) (by rfl) T.jY T.jX T.fY .nil aA (aa (pv 5) (aa (pv 3) ae))))))))
   (af (fV PassesOwn.never rfl (md (K:=K) rfl (pv 1)) (ax (i:=4) fi.nd rfl (by walk_at "o")) (aj (b8 (ar iq (hr.mono (by decide)) (by rfl) T.jY T.jX T.fY .nil aA (aa (bC (bg (K:=K) rfl) (pv 4) al (fun _ _=>rfl)) (aa (pv 3) ae))))))
   (aj (fV PassesOwn.never rfl (md (K:=K) rfl (pv 2)) (ax (i:=5) fi.nd rfl (by walk_at "o")) (aj (b8 (ar iq (hr.mono (by decide)) (by rfl) T.jY T.jX T.fY .nil aA (aa (pv 5) (aa (pv 3) ae)))))))))),az (σ':=[some _,some _,some _,some _,none,none]) rfl ?_⟩
  walk_at "l2"
  refine vn (xs:=rs.map fun r=>V.ref r.1) (fun i σ H'=>∃ v1 v2,σ=[some (.ref s),some (.ref t),some (.ref o),some (.ref d),v1,v2]∧Same H H') ⟨none,none,rfl,Same.refl _⟩ (fun i σ H' _ ⟨_,_,_,s'⟩=>SqT.of (s'.get hs)) ?_ ?_
  ·rintro i y σ H' hy ⟨v1,v2,rfl,s'⟩
   obtain ⟨r,hr',rfl⟩:=aC hy
   have hm:=List.mem_of_getElem? hr'
   have er:=s'.get (kp.sr r hm).1
   have ew:=s'.get (kp.sr r hm).2
   have hin:r.2.2∈N.sums:=by rw [← kp.es];exact List.mem_map.mpr ⟨r,hm,rfl⟩
   walk_at "l2"
   refine vn (xs:=r.2.2.2.map V.str) (fun j σ H2=>∃ v,σ=[some (.ref s),some (.ref t),some (.ref o),some (.ref d),some (.ref r.1),v]∧Same H' H2) ⟨_,rfl,Same.refl _⟩ (fun j σ H2 _ ⟨_,_,s2⟩=>SqT.of (s2.get ew)) ?_ ?_
   ·rintro j y σ H2 hy ⟨v,rfl,s2⟩
    obtain ⟨z,hz,rfl⟩:=aC hy
    have hzn:=g.ws r.2.2 hin z (List.mem_of_getElem? hz)
    walk_at "l2"
    refine ⟨z,d,N.names,rfl,(kn.same s').same s2,hzn,g.nm z hzn,fun H3 s3=>?_⟩
    walk_at "l2"
    exact s2.trans s3
   ·rintro σ H2 ⟨v,rfl,s2⟩
    walk_at "l2"
    exact ⟨_,_,rfl,s'.trans s2⟩
  ·rintro σ H' ⟨v1,v2,rfl,s'⟩
   have ht':=s'.get ht
   walk_at "l2"
   refine vn (xs:=qs.map fun r=>V.ref r.1) (fun i σ H2=>∃ v1,σ=[some (.ref s),some (.ref t),some (.ref o),some (.ref d),v1,v2]∧Same H' H2) ⟨_,rfl,Same.refl _⟩ (fun i σ H2 _ ⟨_,_,s2⟩=>SqT.of (s2.get ht')) ?_ ?_
   ·rintro i y σ H2 hy ⟨v1,rfl,s2⟩
    obtain ⟨r,hr',rfl⟩:=aC hy
    have hm:=List.mem_of_getElem? hr'
    have er:=s2.get (s'.get (kp.tr r hm))
    have hin:r.2∈N.sts:=by rw [← kp.et];exact List.mem_map.mpr ⟨r,hm,rfl⟩
    have hzn:=g.ts r.2 hin
    walk_at "l2"
    refine ⟨r.2.2,d,N.names,rfl,(kn.same s').same s2,hzn,g.nm _ hzn,fun H3 s3=>?_⟩
    walk_at "l2"
    exact s2.trans s3
   ·rintro σ H2 ⟨v1,rfl,s2⟩
    have s02:=s'.trans s2
    have ho':=s02.get ho
    walk_at "l2"
    refine vn (xs:=N.outs.map V.str) (fun i σ H3=>∃ v2,σ=[some (.ref s),some (.ref t),some (.ref o),some (.ref d),v1,v2]∧Same H2 H3) ⟨_,rfl,Same.refl _⟩ (fun i σ H3 _ ⟨_,_,s3⟩=>SqT.of (s3.get ho')) ?_ ?_
    ·rintro i y σ H3 hy ⟨v2,rfl,s3⟩
     obtain ⟨z,hz,rfl⟩:=aC hy
     have hzn:=g.os z (List.mem_of_getElem? hz)
     walk_at "l2"
     refine ⟨z,d,N.names,rfl,(kn.same s02).same s3,hzn,g.nm z hzn,fun H4 s4=>?_⟩
     walk_at "l2"
     exact s3.trans s4
    ·rintro σ H3 ⟨v2,rfl,s3⟩
     walk_at "l2"
     exact q _ (s02.trans s3)
end
section
variable {P:Program} {w:World} {K:PySem.W.Frag} {mg:Str→Option Value} {base:Heap} {a:Ad}
local macro_rules | `(tactic| walk_at "l2step") =>`(tactic| first | ((with_reducible refine' fN ?e ?_);(case e=>walk_at "l2kind")) | ((with_reducible refine' jI ?e ?_);(case e=>walk_at "l2kind")) | (with_reducible refine dh ?_) | (with_reducible refine gb ?_))
theorem Yf (T:Tx K mg a):FnOk P w K mg base CX0 1 a.mx a.Np ["row","waiting"] XF:=by
 refine T.HQ.ok X3 (fun vs H Q E h=>?_) (fun cdv A outer s H vs Q E hr h=>?_)
 ·obtain ⟨r,d,zs,rfl,_⟩:=h;rfl
 ·obtain ⟨r,d,zs,rfl,er,ew,lw,⟨kvs,ed,ek⟩,q⟩:=h
  have hu:=DO hr
  refine ⟨_,((aj (aM (aD (Kh (K:=K) rfl rfl) (by rfl) T.aeu PyProof.Rows.boot_any (aa (ci (osc:=ad qG) (ON:=["row","waiting"]) (N:=["wire","waiting"]) (n:=1) (fx:=[1]) rfl rfl rfl (by decide +kernel) (md (K:=K) rfl (bC (bg (K:=K) rfl) (pv 0) al (fun _ _=>rfl))) (aF (by decide)) (fun _ _ _ _ _=>⟨(ax (i:=0) (show List.Nodup (["wire","waiting"]:List Str) from by decide +kernel) rfl (by walk_at "o")),bx,(aec (Z5 hu (pv 0) (pv 1)))⟩)) ae))))),az (σ':=[some _,some _]) rfl ?_⟩
  walk_at "l2"
  intro D hD
  refine Hg (xs:=r.2.2.2.map V.str) (fun i ys H'=>Cs (fun i ys=>ys=((r.2.2.2.take i).map fun w=>decide (w∈zs)).map V.bl) H D i ys H') (Cs.zero hD rfl) (fun i ys H' _ c=>SqT.of (c.same.get ew)) (fun i x ys H' hx c=>?_) (fun ys H' c=>?_)
  ·obtain ⟨z,hz,rfl⟩:=aC hx
   have hi:=(List.getElem?_eq_some_iff.mp hz).1
   walk_at "l2"
   refine ZO (c.same.get ed) ?_
   rw [yB ek z]
   refine Cs.put hD c.same c.at' c.len (by omega) ?_
   rw [c.pv,take_succ hz,List.map_append,List.map_append];rfl
  ·have ec:=c.at'
   rw [c.pv,List.length_map,List.take_length] at ec
   walk_at "l2"
   refine ZQ (SqL.of ec) ?_
   have eany:(r.2.2.2.map fun w=>decide (w∈zs)).any id=gM zs r.2.2.2:=by rw [List.any_map];rfl
   walk_at "l2"
   rw [eany]
   exact q H' c.same
theorem xg (T:Tx K mg a):FnOk P w K mg base CX0 4 a.bW a.jD ["ins","sums","stores"] (Ps a.aq a.am a.ah):=by
 have v8:=@sk P w K mg base a T
 have tM:=@qR P w K mg base a T
 have p8:=@nW P w K mg base a T
 refine T.gC.ok mX (fun vs H Q E h=>?_) (fun cdv A outer s H vs Q E hr h=>?_)
 ·obtain ⟨i,s,t,o,rs,qs,N,rfl,_⟩:=h;rfl
 ·obtain ⟨i,s,t,o,rs,qs,N,rfl,kp,g,q⟩:=h
  have hi:=kp.i
  have hs:=kp.s
  have ht:=kp.t
  have li:=g.li
  have ls:=g.ls
  have lt:=g.lt
  have lrs:rs.length=N.sums.length:=by rw [← kp.es,List.length_map]
  have lqs:qs.length=N.sts.length:=by rw [← kp.et,List.length_map]
  refine ⟨_,((af (c6 (osc:=ad bE) (ON:=["ins","sums","stores","wires"]) (N:=["number","name"]) (n:=2) (fx:=[]) (i:=3) mX.nd rfl rfl rfl rfl rfl rfl (by decide +kernel) (r9 (K:=K) rfl (by rfl) T.fL (pv 0)) (AJ (dQ (aF (by decide)) (dQ (aF (by decide)) rn))) (fun _ _ _ _ _=>⟨(qM (K:=K) (n:=2) rfl rfl (b5 (ax (i:=0) (show List.Nodup (["number","name"]:List Str) from by decide +kernel) rfl (by walk_at "o")) (b5 (ax (i:=1) (show List.Nodup (["number","name"]:List Str) from by decide +kernel) rfl (by walk_at "o")) jo))),bx,(me T.Zt v8 (hr.mono (by decide)) (by rfl) T.Y5 T.g8 .nil aA (aa (pv 1) (aa (pv 0) ae)))⟩))
   (af (b8 (iO (K:=K) rfl PySem.F.plainAttrs_list PySem.F.slot_list_extend PySem.F.type_list_extend lE (pv 3) (aa (ci (osc:=ad bE) (ON:=["ins","sums","stores","wires"]) (N:=["row"]) (n:=1) (fx:=[]) rfl rfl rfl (by decide +kernel) (md (K:=K) rfl (pv 1)) (aF (by decide)) (fun _ _ _ _ _=>⟨(ax (i:=0) (show List.Nodup (["row"]:List Str) from by decide +kernel) rfl (by walk_at "o")),bx,(me T.WG tM (hr.mono (by decide)) (by rfl) T.VE T.gA .nil aA (aa (bC (bg (K:=K) rfl) (pv 0) al (fun _ _=>rfl)) (aa (bC (bg (K:=K) rfl) (pv 0) al (fun _ _=>rfl)) ae)))⟩)) ae)))
   (af (b8 (iO (K:=K) rfl PySem.F.plainAttrs_list PySem.F.slot_list_extend PySem.F.type_list_extend lE (pv 3) (aa (ci (osc:=ad bE) (ON:=["ins","sums","stores","wires"]) (N:=["number","row"]) (n:=2) (fx:=[]) rfl rfl rfl (by decide +kernel) (r9 (K:=K) rfl (by rfl) T.fL (pv 2)) (AJ (dQ (aF (by decide)) (dQ (aF (by decide)) rn))) (fun _ _ _ _ _=>⟨(qM (K:=K) (n:=2) rfl rfl (b5 (ax (i:=0) (show List.Nodup (["number","row"]:List Str) from by decide +kernel) rfl (by walk_at "o")) (b5 (ax (i:=1) (show List.Nodup (["number","row"]:List Str) from by decide +kernel) rfl (by walk_at "o")) jo))),bx,(me T.Oa p8 (hr.mono (by decide)) (by rfl) T.M6 T.fh .nil aA (aa (bC (bg (K:=K) rfl) (pv 1) al (fun _ _=>rfl)) (aa (bC (bg (K:=K) rfl) (pv 1) al (fun _ _=>rfl)) (aa (pv 0) ae))))⟩)) ae)))
   (aj (aM (aQ (Fo rfl) (by rfl) T.aac PyProof.Rows.boot_dict (aa (ci (osc:=ad bE) (ON:=["ins","sums","stores","wires"]) (N:=["wire"]) (n:=1) (fx:=[]) rfl rfl rfl (by decide +kernel) (aR (K:=K) rfl (pv 3)) (aF (by decide)) (fun _ _ _ _ _=>⟨(ax (i:=0) (show List.Nodup (["wire"]:List Str) from by decide +kernel) rfl (by walk_at "o")),bx,(gJ (aa (aN (K:=K) rfl (pv 0) rfl) (aa (pv 0) ae)))⟩)) ae)))))))),az (σ':=[some _,some _,some _,none]) rfl ?_⟩
  walk_at "l2"
  refine .inr ⟨⟨_,SqT.of hi⟩,?_⟩
  intro D hD
  refine vL (xs:=N.ins.map V.str) (fun i ys H'=>∃ ws,WL H H' a.aq a.am a.ah N D ys (N.ins.take i) ws) ⟨[],rfl,rfl,fun _ h=>absurd h (by simp),bf hD,av⟩ (fun i ys H' _ ⟨ws,c⟩=>SqT.of (c.same.get hi)) (fun i x ys H' pz H2 hx ⟨ws,c⟩ fp s2 e2=>?_) (fun ys H' ⟨ws,c⟩=>?_)
  ·obtain ⟨z,hz,rfl⟩:=aC hx
   have hlt:=(List.getElem?_eq_some_iff.mp hz).1
   have lw:ws.length=i:=by have:=congrArg List.length c.nm;rw [List.length_map,List.length_take] at this;omega
   walk_at "l2"
   intro x dx H3 f3 s3 e3
   refine ⟨x,dx,.str z,nat i,rfl,e3,fun H4 u4=>⟨rfl,?_⟩⟩
   have s24:Same H2 H4:=fun b o e=>u4.oth _ _ (ai e f3) (s3.get e)
   exact c.put hD (s2.trans s24) (.i i dx hz u4.at') (by rw [List.length_take];omega) (take_succ hz)
  ·rw [List.length_map,List.take_length] at c
   have hs1:=c.same.get hs
   have ht1:=c.same.get ht
   have hD1:=c.d
   walk_at "l2"
   intro D2 hD2
   refine Hg (xs:=rs.map fun r=>V.ref r.1) (fun i ys H2=>∃ ws,WL H' H2 a.aq a.am a.ah N D2 ys ((rs.take i).map (·.2.2.1)) ws) ⟨[],rfl,rfl,fun _ h=>absurd h (by simp),bf hD2,av⟩ (fun i ys H2 _ ⟨ws,c2⟩=>SqT.of (c2.same.get hs1)) (fun i x ys2 H2 hx ⟨ws2,c2⟩=>?_) (fun ys2 H2 ⟨ws2,c2⟩=>?_)
   ·obtain ⟨r,hr',rfl⟩:=aC hx
    have hlt:=(List.getElem?_eq_some_iff.mp hr').1
    have hm:=List.mem_of_getElem? hr'
    have s02:=c.same.trans c2.same
    have er:=s02.get (kp.sr r hm).1
    have ew:=s02.get (kp.sr r hm).2
    walk_at "l2"
    intro x dx H3 f3 s3 e3
    refine ⟨x,dx,.str r.2.2.1,r.2.1,_,rfl,s3.get ew,e3,fun H4 u4=>⟨rfl,?_⟩⟩
    have s24:Same H2 H4:=fun b o e=>u4.oth _ _ (ai e f3) (s3.get e)
    exact c2.put hD2 s24 (.s r.2.2.2 dx r.2.1 (by rw [← kp.es];exact List.mem_map.mpr ⟨r,hm,rfl⟩) u4.at' (s24.get ew)) (by rw [List.length_map,List.length_take];omega) (by rw [take_succ hr',List.map_append];rfl)
   ·rw [List.length_map,List.take_length] at c2
    have hD12:=c2.same.get hD1
    have eD2:=c2.d
    have lys:ys.length=N.ins.length:=by rw [c.ey,← c.nm,List.length_map,List.length_map]
    have lys2:ys2.length=rs.length:=by rw [c2.ey,List.length_map,← List.length_map (f:=(·.1)),c2.nm,List.length_map]
    walk_at "l2"
    refine o6 hD12 eD2 (by rw [sizeLine_eq];omega) fun H3 u3=>?_
    have c3:=c.join c2 hD u3
    have hD3:=c3.d
    have ht3:=c3.same.get ht
    have lys3:(ys++ys2).length=N.ins.length + rs.length:=by rw [List.length_append,lys,lys2]
    clear c c2 hD12 eD2 hs1 ht1 hD1 lys lys2 hD2
    generalize ys++ys2=ys3 at *
    walk_at "l2"
    refine .inr ⟨⟨_,SqT.of ht3⟩,?_⟩
    intro D4 hD4
    refine vL (xs:=qs.map fun q=>V.ref q.1) (fun i ys H'=>∃ ws,WL H3 H' a.aq a.am a.ah N D4 ys ((qs.take i).map (·.2.1)) ws) ⟨[],rfl,rfl,fun _ h=>absurd h (by simp),bf hD4,av⟩ (fun i ys H' _ ⟨ws,c⟩=>SqT.of (c.same.get ht3)) (fun i x ys H4 pz H5 hx ⟨ws,c⟩ fp s5 e5=>?_) (fun ys4 H4 ⟨ws4,c4⟩=>?_)
    ·obtain ⟨r,hr',rfl⟩:=aC hx
     have hlt:=(List.getElem?_eq_some_iff.mp hr').1
     have hm:=List.mem_of_getElem? hr'
     have er:=s5.get (c.same.get (c3.same.get (kp.tr r hm)))
     walk_at "l2"
     intro x dx H6 f6 s6 e6
     refine ⟨x,dx,.str r.2.1,.str r.2.2,nat i,rfl,e6,fun H7 u7=>⟨rfl,?_⟩⟩
     have s57:Same H5 H7:=fun b o e=>u7.oth _ _ (ai e f6) (s6.get e)
     exact c.put hD4 (s5.trans s57) (.t i r.2.2 dx (by rw [← kp.et,List.getElem?_map,hr'];rfl) u7.at') (by rw [List.length_map,List.length_take];omega) (by rw [take_succ hr',List.map_append];rfl)
    ·rw [List.length_map,List.take_length] at c4
     have hD34:=c4.same.get hD3
     have eD4:=c4.d
     have lys4:ys4.length=qs.length:=by rw [c4.ey,List.length_map,← List.length_map (f:=(·.1)),c4.nm,List.length_map]
     walk_at "l2"
     refine o6 hD34 eD4 (by rw [sizeLine_eq];omega) fun H5 u5=>?_
     have c5:=c3.join c4 hD u5
     have hD5:=c5.d
     have ey5:=c5.ey
     have enm:N.ins++rs.map (·.2.2.1)++qs.map (·.2.1)=N.names:=by
      unfold Nt.names
      rw [← kp.es,← kp.et,List.map_map,List.map_map];rfl
     rw [enm] at c5
     clear c3 c4 hD34 eD4 hD3 ht3 hD4
     rw [ey5] at hD5
     generalize ws++ws2++ws4=wl at *
     have lwl:wl.length≤100:=by rw [← List.length_map (f:=(·.1)),c5.nm,← enm,List.length_append,List.length_append,List.length_map,List.length_map];omega
     walk_at "l2"
     intro D6 hD6
     refine aX (xs:=wl.map fun q=>V.ref q.2) (fun i ys H'=>∃ ps:List (Addr×Key×V),ys=ps.map (fun q=>V.ref q.1)∧ps.map (·.2)=(wl.take i).map (fun q=>((Sum.inr q.1:Key),V.ref q.2))∧(∀ q∈ps,H' q.1=some (.tup [kV q.2.1,q.2.2]))∧Same H5 H'∧H' D6=some (.lst ys)) ⟨[],rfl,rfl,fun _ h=>absurd h (by simp),bf hD6,av⟩ (fun i ys H' _ ⟨_,_,_,_,s',_⟩=>SqL.of (s'.get hD5)) ?_ ?_
     ·rintro i y ys H' hy ⟨ps,rfl,hps,hq,s',eD⟩
      obtain ⟨q0,hq0,rfl⟩:=aC hy
      have hlt:=(List.getElem?_eq_some_iff.mp hq0).1
      have hlen:ps.length=i:=by have:=congrArg List.length hps;rw [List.length_map,List.length_map,List.length_take] at this;omega
      have wb:=(c5.ob q0 (List.mem_of_getElem? hq0)).same s'
      have fld:∀ {Q:VK},Q (.str q0.1) H'→acC K (Str.ofString "name") Q (V.ref q0.2) H':=fun h=>by
       cases wb with
       | i k dx hk e=>exact aH e T.mW T.sE rfl h
       | s ws dx tw hk e et=>exact aH e T.jO T.qg rfl h
       | t k y dx hk e=>exact aH e T.ee T.mZ rfl h
      walk_at "l2"
      refine fld ?_
      walk_at "l2"
      intro tt H6 f6 s6 e6
      have ntt:tt≠D6:=fun z=>by rw [z,eD] at f6;cases f6
      refine ⟨s6.get eD,by rw [List.length_map];exact aP (by omega),ps++[(tt,Sum.inr q0.1,.ref q0.2)],by rw [List.map_append];rfl,by rw [List.map_append,hps,take_succ hq0,List.map_append];rfl,fun q' hq'=>?_,fun b o e=>?_,av⟩
      ·rcases List.mem_append.mp hq' with h | h
       ·have e:=hq q' h
        rw [aB (dB e eD fun z=>by cases z)]
        exact s6.get e
       ·rw [List.mem_singleton] at h;subst h
        rw [aB ntt];exact e6
      ·rw [aB (ai e hD6)]
       exact s6.get (s'.get e)
     ·rintro ys H6 ⟨ps,rfl,hps,hq,s',eD⟩
      rw [List.length_map,List.take_length] at hps
      have ek:ps.map (fun q=>q.2.1)=N.names.map Sum.inr:=by
       have:=congrArg (List.map (·.1)) hps
       rw [List.map_map,List.map_map] at this
       rw [← c5.nm,List.map_map]
       exact this
      walk_at "l2"
      refine TW eD hq (by rw [ek];exact List.Pairwise.map _ (fun x y h z=>h (Sum.inr.inj z)) g.nd) fun d H7 f7 s7 e7=>?_
      have s57:=s'.trans s7
      rw [hps] at e7
      exact q d H7 wl ((c5.same.trans s').free f7) (c5.same.trans s57) ⟨e7,c5.nm,fun q' hq'=>(c5.ob q' hq').same s57⟩
theorem Qe (T:Tx K mg a):FnOk P w K mg base CX0 2 a.gn a.A4 ["sums"] Pw:=by
 have WI:=@Yf P w K mg base a T
 refine T.tP.ok ja (fun vs H Q E h=>?_) (fun cdv A outer s H vs Q E hr h=>?_)
 ·obtain ⟨s,rs,N,rfl,_⟩:=h;rfl
 ·obtain ⟨s,rs,N,rfl,hs,hsr,hes,g,q⟩:=h
  have lrs:rs.length=N.sums.length:=by rw [← hes,List.length_map]
  have ls:=g.ls
  refine ⟨_,((af (aW (i:=1) ja.nd rfl (by walk_at "o") (fW ae))
   (af (aW (i:=2) ja.nd rfl (by walk_at "o") (aQ (cg (K:=K) rfl) (by rfl) T.gh PyProof.Rows.boot_list (aa (pv 0) ae)))
   (af (Ov PassesOwn.never (bc xc (aD (aK (K:=K) rfl) (by rfl) T.fc PySem.boot_len (aa (pv 2) ae)) al (bu _)) (af (aW (i:=3) ja.nd rfl (by walk_at "o") (aQ (Fo rfl) (by rfl) T.aac PyProof.Rows.boot_dict (aa (pv 2) ae)))
   (af (c6 (osc:=ad il) (ON:=["sums","names","left","waiting","ready"]) (N:=["row","waiting"]) (n:=1) (fx:=[3]) (i:=4) ja.nd rfl rfl rfl rfl rfl rfl (by decide +kernel) (aR (K:=K) rfl (pv 2)) (aF (by decide)) (fun _ _ _ _ _=>⟨(ax (i:=0) (show List.Nodup (["row","waiting"]:List Str) from by decide +kernel) rfl (by walk_at "o")),(km (jm (gc (ar WI (hr.mono (by decide)) (by rfl) T.Vz T.Vl T.Hu .nil aA (aa (pv 0) (aa (pv 1) ae)))))),(bC (bg (K:=K) rfl) (pv 0) al (fun _ _=>rfl))⟩))
   (af (fJ (bc pN (aD (aK (K:=K) rfl) (by rfl) T.fc PySem.boot_len (aa (pv 4) ae)) al (bu _)) (aj jn) bR)
   (af (b8 (iO (K:=K) rfl PySem.F.plainAttrs_list PySem.F.slot_list_extend PySem.F.type_list_extend lE (pv 1) (aa (pv 4) ae)))
   (aj (c6 (osc:=ad il) (ON:=["sums","names","left","waiting","ready"]) (N:=["row","waiting"]) (n:=1) (fx:=[3]) (i:=2) ja.nd rfl rfl rfl rfl rfl rfl (by decide +kernel) (aR (K:=K) rfl (pv 2)) (aF (by decide)) (fun _ _ _ _ _=>⟨(ax (i:=0) (show List.Nodup (["row","waiting"]:List Str) from by decide +kernel) rfl (by walk_at "o")),(km (gc (ar WI (hr.mono (by decide)) (by rfl) T.Vz T.Vl T.Hu .nil aA (aa (pv 0) (aa (pv 1) ae))))),(pv 0)⟩))))))))
   (aj (aM (pv 1))))))),az (σ':=[some _,none,none,none,none]) rfl ?_⟩
  walk_at "l2"
  intro Dn H1 f1 s1 e1
  have hs1:=s1.get hs
  walk_at "l2"
  intro Dl H2 f2 s2 e2
  walk_at "l2"
  have nd:=g.nds
  refine ⟨fun μ σ' H'=>∃ (od:List Str) (lf:List Rw) (Dl:Addr) (v3 v4:Option V),σ'=[some (.ref s),some (.ref Dn),some (.ref Dl),v3,v4]∧Same H H'∧H' Dn=some (.lst (od.map V.str))∧H' Dl=some (.lst (lf.map fun r=>V.ref r.1))∧Dl≠Dn∧(∀ r∈lf,r∈rs)∧Otp N.sums od (lf.map (·.2.2))∧μ=lf.length,⟨rs.length,[],rs,Dl,none,none,rfl,s1.trans s2,s2.get e1,e2,fun z=>(by rw [z,e1] at f2;cases f2),fun _ h=>h,by rw [hes];exact Otp.start _,rfl⟩,?_⟩
  rintro μ σ' H3 ⟨od,lf,Dl,v3,v4,rfl,s3,en,el,nln,sub,ot,rfl⟩
  walk_at "l2"
  rw [List.length_map]
  by_cases h0:lf=[]
  ·subst h0
   refine iS (decide_eq_false (by simp)) ?_
   walk_at "l2"
   exact q Dn H3 od f1 s3 en ot.done
  ·have hpos:0 < lf.length:=List.length_pos_iff.mpr h0
   refine rW (decide_eq_true (by omega)) ?_
   have hperm:=ot.perm.nodup_iff.mpr nd
   rw [List.nodup_append] at hperm
   have ndl:(lf.map (·.2.2.1)).Nodup:=by have:=hperm.2.1;rw [List.map_map] at this;exact this
   have lod:od.length + lf.length=N.sums.length:=by have:=ot.perm.length_eq;rw [List.length_append,List.length_map,List.length_map,List.length_map] at this;exact this
   have hrd:=ot.ready g (by simpa using h0)
   have zsE:(lf.map (·.2.2)).map (·.1)=lf.map (·.2.2.1):=by rw [List.map_map];rfl
   rw [zsE] at hrd
   have lfr:∀ r∈lf,∀ {H'},Same H H'→H' r.1=some (.tup [.str r.2.2.1,.ref r.2.1])∧H' r.2.1=some (.tup (r.2.2.2.map V.str)):=fun r hr H' s'=>⟨s'.get (hsr r (sub r hr)).1,s'.get (hsr r (sub r hr)).2⟩
   have lwr:∀ r∈lf,r.2.2.2.length≤24:=fun r hr=>g.lw r.2.2 (by rw [← hes];exact List.mem_map.mpr ⟨r,sub r hr,rfl⟩)
   refine ⟨fun σ' H'=>∃ (od:List Str) (lf':List Rw) (Dl:Addr) (v3 v4:Option V),σ'=[some (.ref s),some (.ref Dn),some (.ref Dl),v3,v4]∧Same H H'∧H' Dn=some (.lst (od.map V.str))∧H' Dl=some (.lst (lf'.map fun r=>V.ref r.1))∧Dl≠Dn∧(∀ r∈lf',r∈rs)∧Otp N.sums od (lf'.map (·.2.2))∧lf'.length < lf.length,fun σ' H' ⟨od,lf',Dl,v3,v4,a1,a2,a3,a4,a5,a6,a7,a8⟩=>⟨lf'.length,a8,od,lf',Dl,v3,v4,a1,a2,a3,a4,a5,a6,a7,rfl⟩,?_⟩
   walk_at "l2"
   refine TW (ps:=lf.map fun r=>(r.1,Sum.inr r.2.2.1,V.ref r.2.1)) (by rw [List.map_map];exact el) (fun q' hq'=>?_) ?_ fun d H4 f4 s4 e4=>?_
   ·obtain ⟨r,hr',rfl⟩:=List.mem_map.mp hq'
    exact (lfr r hr' s3).1
   ·rw [List.map_map]
    have:=List.Pairwise.map (Sum.inr:Str→Key) (S:=fun a b=>a≠b) (fun x y h z=>h (Sum.inr.inj z)) ndl
    rw [List.map_map] at this
    exact this
   have kn:Knw H4 d (lf.map (·.2.2.1)):=⟨_,e4,by rw [List.map_map,List.map_map,List.map_map];rfl⟩
   have el4:=s4.get el
   have en4:=s4.get en
   have s04:=s3.trans s4
   walk_at "l2"
   intro D5 hD5
   refine aX (xs:=lf.map fun r=>V.ref r.1) (fun i ys H'=>ys=(((lf.take i).filter fun r=> !gM (lf.map (·.2.2.1)) r.2.2.2).map (·.2.2.1)).map V.str∧Same H4 H'∧H' D5=some (.lst ys)) ⟨rfl,bf hD5,av⟩ (fun i ys H' _ ⟨_,s',_⟩=>SqL.of (s'.get el4)) (fun i x ys H' hx ⟨ey,s',e'⟩=>?_) (fun ys H5 ⟨ey,s5,e5⟩=>?_)
   ·obtain ⟨r,hr',rfl⟩:=aC hx
    have hm:=List.mem_of_getElem? hr'
    have hlt:=(List.getElem?_eq_some_iff.mp hr').1
    have rr:=lfr r hm (s04.trans s')
    have r1:=rr.1
    have fs:(lf.take (i + 1)).filter (fun r=> !gM (lf.map (·.2.2.1)) r.2.2.2)=(lf.take i).filter (fun r=> !gM (lf.map (·.2.2.1)) r.2.2.2)++(if (!gM (lf.map (·.2.2.1)) r.2.2.2)=true then [r] else []):=by rw [take_succ hr',List.filter_append,List.filter_cons];rfl
    walk_at "l2"
    refine ⟨r,d,lf.map (·.2.2.1),rfl,rr.1,rr.2,lwr r hm,kn.same s',fun H6 s6=>?_⟩
    have r16:=s6.get r1
    cases hw:gM (lf.map (·.2.2.1)) r.2.2.2 with
    | true=>
      walk_at "l2"
      refine ⟨?_,s'.trans s6,s6.get e'⟩
      rw [fs,hw,ey];simp
    | false=>
      walk_at "l2"
      refine ⟨s6.get e',?_,?_,fun b o e=>?_,av⟩
      ·rw [ey,List.length_map,List.length_map]
       have:=List.length_filter_le (fun r:Rw=> !gM (lf.map (·.2.2.1)) r.2.2.2) (lf.take i)
       rw [List.length_take] at this
       exact aP (by omega)
      ·rw [fs,hw,ey];simp
      ·rw [aB (ai e hD5)]
       exact s6.get (s'.get e)
   ·rw [List.length_map,List.take_length] at ey
    have fm:((lf.map (·.2.2)).filter fun r=> !gM (lf.map (·.2.2.1)) r.2)=(lf.filter fun r=> !gM (lf.map (·.2.2.1)) r.2.2.2).map (·.2.2):=by rw [List.filter_map];rfl
    have fm2:((lf.map (·.2.2)).filter fun r=>gM (lf.map (·.2.2.1)) r.2)=(lf.filter fun r=>gM (lf.map (·.2.2.1)) r.2.2.2).map (·.2.2):=by rw [List.filter_map];rfl
    rw [fm,List.length_map] at hrd
    have lys:ys.length=(lf.filter fun r=> !gM (lf.map (·.2.2.1)) r.2.2.2).length:=by rw [ey,List.length_map,List.length_map]
    have lle:=List.length_filter_le (fun r:Rw=> !gM (lf.map (·.2.2.1)) r.2.2.2) lf
    have hless:=M9 (fun r:Rw=>gM (lf.map (·.2.2.1)) r.2.2.2) lf hrd
    have ot':=ot.step nd
    rw [zsE,fm,fm2,List.map_map] at ot'
    have el5:=s5.get el4
    have en5:=s5.get en4
    walk_at "l2"
    refine iS (decide_eq_false fun z=>by have:=V.int.inj z;omega) ?_
    walk_at "l2"
    refine o6 en5 e5 (by rw [List.length_map,lys,sizeLine_eq];omega) fun H6 u6=>?_
    have s46:∀ b o,b≠Dn→H4 b=some o→H6 b=some o:=fun b o n e=>u6.oth _ _ n (s5.get e)
    have s06:Same H H6:=fun b o e=>s46 b o (ai e f1) (s04.get e)
    have el6:=u6.oth _ _ nln el5
    have en6:=u6.at'
    rw [ey,← List.map_append] at en6
    have kn6:Knw H6 d (lf.map (·.2.2.1)):=by
     obtain ⟨kvs,ed,ek⟩:=kn
     exact ⟨kvs,s46 _ _ (dB ed en4 fun z=>by cases z) ed,ek⟩
    walk_at "l2"
    intro D7 hD7
    refine aX (xs:=lf.map fun r=>V.ref r.1) (fun i ys H'=>ys=((lf.take i).filter fun r=>gM (lf.map (·.2.2.1)) r.2.2.2).map (fun r=>V.ref r.1)∧Same H6 H'∧H' D7=some (.lst ys)) ⟨rfl,bf hD7,av⟩ (fun i ys H' _ ⟨_,s',_⟩=>SqL.of (s'.get el6)) (fun i x ys H' hx ⟨ey,s',e'⟩=>?_) (fun ys H7 ⟨ey7,s7,e7⟩=>?_)
    ·obtain ⟨r,hr',rfl⟩:=aC hx
     have hm:=List.mem_of_getElem? hr'
     have hlt:=(List.getElem?_eq_some_iff.mp hr').1
     have rr:=lfr r hm (s06.trans s')
     have fs:(lf.take (i + 1)).filter (fun r=>gM (lf.map (·.2.2.1)) r.2.2.2)=(lf.take i).filter (fun r=>gM (lf.map (·.2.2.1)) r.2.2.2)++(if gM (lf.map (·.2.2.1)) r.2.2.2=true then [r] else []):=by rw [take_succ hr',List.filter_append,List.filter_cons];rfl
     walk_at "l2"
     refine ⟨r,d,lf.map (·.2.2.1),rfl,rr.1,rr.2,lwr r hm,kn6.same s',fun H8 s8=>?_⟩
     cases hw:gM (lf.map (·.2.2.1)) r.2.2.2 with
     | false=>
       walk_at "l2"
       refine ⟨?_,s'.trans s8,s8.get e'⟩
       rw [fs,hw,ey];simp
     | true=>
       walk_at "l2"
       refine ⟨s8.get e',?_,?_,fun b o e=>?_,av⟩
       ·rw [ey,List.length_map]
        have:=List.length_filter_le (fun r:Rw=>gM (lf.map (·.2.2.1)) r.2.2.2) (lf.take i)
        rw [List.length_take] at this
        exact aP (by omega)
       ·rw [fs,hw,ey];simp
       ·rw [aB (ai e hD7)]
        exact s8.get (s'.get e)
    ·rw [List.length_map,List.take_length] at ey7
     rw [ey7] at e7
     walk_at "l2"
     have hsub:∀ r∈lf.filter (fun r=>gM (lf.map (·.2.2.1)) r.2.2.2),r∈rs:=fun r hr=>sub r (List.mem_filter.mp hr).1
     have nd7:D7≠Dn:=fun z=>(by rw [z,en6] at hD7;cases hD7)
     exact ⟨_,_,D7,_,_,rfl,s06.trans s7,s7.get en6,e7,nd7,hsub,ot',hless⟩
end
section
variable {P:Program} {w:World} {K:PySem.W.Frag} {mg:Str→Option Value} {base:Heap} {a:Ad}
local macro_rules | `(tactic| walk_at "l2step") =>`(tactic| first | ((with_reducible refine' fN ?e ?_);(case e=>walk_at "l2kind")) | ((with_reducible refine' jI ?e ?_);(case e=>walk_at "l2kind")) | (with_reducible refine dh ?_) | (with_reducible refine gb ?_))
theorem jw (T:Tx K mg a):FnOk P w K mg base CX0 5 a.bN a.kJ ["self","ins","sums","stores","outs"] (adh a.br a.aq a.am a.ah):=by
 have HL:=@Cj P w K mg base a T
 have HM:=@Ck P w K mg base a T
 have HJ:=@Ch P w K mg base a T
 have BO:=@xg P w K mg base a T
 have WK:=@Qe P w K mg base a T
 refine T.ie.ok y6 (fun vs H Q E h=>?_) (fun cdv A outer s H vs Q E hr h=>?_)
 ·obtain ⟨x,dx,i,s,t,o,rs,qs,N,rfl,_⟩:=h;rfl
 ·obtain ⟨x,dx,i,s,t,o,rs,qs,N,rfl,hx,hn,g,q⟩:=h
  have li:=g.li
  have ls:=g.ls
  have lt:=g.lt
  have lo:=g.lo
  have lrs:rs.length=N.sums.length:=by rw [← hn.es,List.length_map]
  have lqs:qs.length=N.sts.length:=by rw [← hn.et,List.length_map]
  refine ⟨_,((af (b8 (ar HL (hr.mono (by decide)) (by rfl) T.GT T.GP T.mK .nil aA (aa (pv 1) (aa (pv 2) (aa (pv 3) (aa (pv 4) ae))))))
   (af (b8 (ar HM (hr.mono (by decide)) (by rfl) T.GU T.GQ T.mL .nil aA (aa (aG lg (aG lg (aQ (cg (K:=K) rfl) (by rfl) T.gh PyProof.Rows.boot_list (aa (pv 1) ae)) (ci (osc:=ad bV) (ON:=["self","ins","sums","stores","outs"]) (N:=["row"]) (n:=1) (fx:=[]) rfl rfl rfl (by decide +kernel) (aR (K:=K) rfl (pv 2)) (aF (by decide)) (fun _ _ _ _ _=>⟨(ax (i:=0) (show List.Nodup (["row"]:List Str) from by decide +kernel) rfl (by walk_at "o")),bx,(bC (bg (K:=K) rfl) (pv 0) al (fun _ _=>rfl))⟩))) (ci (osc:=ad bV) (ON:=["self","ins","sums","stores","outs"]) (N:=["row"]) (n:=1) (fx:=[]) rfl rfl rfl (by decide +kernel) (aR (K:=K) rfl (pv 3)) (aF (by decide)) (fun _ _ _ _ _=>⟨(ax (i:=0) (show List.Nodup (["row"]:List Str) from by decide +kernel) rfl (by walk_at "o")),bx,(bC (bg (K:=K) rfl) (pv 0) al (fun _ _=>rfl))⟩))) ae)))
   (af (cZ (K:=K) rfl (pv 0) (aQ (du (K:=K) rfl) (by rfl) T.kB PyProof.Rows.boot_tuple (aa (pv 1) ae)) rfl)
   (af (cZ (K:=K) rfl (pv 0) (aQ (du (K:=K) rfl) (by rfl) T.kB PyProof.Rows.boot_tuple (aa (ci (osc:=ad bV) (ON:=["self","ins","sums","stores","outs"]) (N:=["row"]) (n:=1) (fx:=[]) rfl rfl rfl (by decide +kernel) (aR (K:=K) rfl (pv 2)) (aF (by decide)) (fun _ _ _ _ _=>⟨(ax (i:=0) (show List.Nodup (["row"]:List Str) from by decide +kernel) rfl (by walk_at "o")),bx,(gJ (aa (bC (bg (K:=K) rfl) (pv 0) al (fun _ _=>rfl)) (aa (aQ (du (K:=K) rfl) (by rfl) T.kB PyProof.Rows.boot_tuple (aa (bC (bg (K:=K) rfl) (pv 0) al (fun _ _=>rfl)) ae)) ae)))⟩)) ae)) rfl)
   (af (cZ (K:=K) rfl (pv 0) (aQ (du (K:=K) rfl) (by rfl) T.kB PyProof.Rows.boot_tuple (aa (ci (osc:=ad bV) (ON:=["self","ins","sums","stores","outs"]) (N:=["row"]) (n:=1) (fx:=[]) rfl rfl rfl (by decide +kernel) (aR (K:=K) rfl (pv 3)) (aF (by decide)) (fun _ _ _ _ _=>⟨(ax (i:=0) (show List.Nodup (["row"]:List Str) from by decide +kernel) rfl (by walk_at "o")),bx,(gJ (aa (bC (bg (K:=K) rfl) (pv 0) al (fun _ _=>rfl)) (aa (bC (bg (K:=K) rfl) (pv 0) al (fun _ _=>rfl)) ae)))⟩)) ae)) rfl)
   (af (cZ (K:=K) rfl (pv 0) (aQ (du (K:=K) rfl) (by rfl) T.kB PyProof.Rows.boot_tuple (aa (pv 4) ae)) rfl)
   (af (cZ (K:=K) rfl (pv 0) (ar BO (hr.mono (by decide)) (by rfl) T.AK T.AG T.jJ .nil aA (aa (aN (K:=K) rfl (pv 0) rfl) (aa (aN (K:=K) rfl (pv 0) rfl) (aa (aN (K:=K) rfl (pv 0) rfl) ae)))) rfl)
   (af (b8 (ar HJ (hr.mono (by decide)) (by rfl) T.GR T.GN T.mI .nil aA (aa (aN (K:=K) rfl (pv 0) rfl) (aa (aN (K:=K) rfl (pv 0) rfl) (aa (aN (K:=K) rfl (pv 0) rfl) (aa (aN (K:=K) rfl (pv 0) rfl) ae))))))
   (aj (cZ (K:=K) rfl (pv 0) (aQ (du (K:=K) rfl) (by rfl) T.kB PyProof.Rows.boot_tuple (aa (ar WK (hr.mono (by decide)) (by rfl) T.VB T.Vn T.BC .nil aA (aa (aN (K:=K) rfl (pv 0) rfl) ae)) ae)) rfl))))))))))),az (σ':=[some _,some _,some _,some _,some _]) rfl ?_⟩
  walk_at "l2"
  refine ⟨i,s,t,o,rs,qs,N,rfl,hn,g,fun H1 s1=>?_⟩
  have hn1:=hn.same s1
  have hi1:=hn1.i
  have hs1:=hn1.s
  have ht1:=hn1.t
  walk_at "l2"
  intro D2 H2 f2 s2 e2
  have hs2:=s2.get hs1
  walk_at "l2"
  intro D3 hD3
  refine aX (xs:=rs.map fun r=>V.ref r.1) (fun i ys H'=>Cs (fun i ys=>ys=((rs.take i).map (·.2.2.1)).map V.str) H2 D3 i ys H') (Cs.zero hD3 rfl) (fun i ys H' _ c=>SqL.of (c.same.get hs2)) (fun i x ys H' hx c=>?_) (fun ys H3 c=>?_)
  ·obtain ⟨r,hr',rfl⟩:=aC hx
   have hlt:=(List.getElem?_eq_some_iff.mp hr').1
   have er:=c.same.get (s2.get (hn1.sr r (List.mem_of_getElem? hr')).1)
   walk_at "l2"
   refine Cs.put hD3 c.same c.at' c.len (by omega) ?_
   rw [c.pv,take_succ hr',List.map_append,List.map_append];rfl
  ·have e3:=c.at'
   rw [c.pv,List.length_map,List.take_length] at e3
   have s23:=c.same
   clear c
   refine ud (s23.get e2) e3 (by rw [List.length_map,List.length_map,List.length_map,sizeLine_eq];omega) fun D4 H4 f4 s4 e4=>?_
   have s14:=s2.trans (s23.trans s4)
   have ht4:=s14.get ht1
   walk_at "l2"
   intro D5 hD5
   refine aX (xs:=qs.map fun r=>V.ref r.1) (fun i ys H'=>Cs (fun i ys=>ys=((qs.take i).map (·.2.1)).map V.str) H4 D5 i ys H') (Cs.zero hD5 rfl) (fun i ys H' _ c=>SqL.of (c.same.get ht4)) (fun i x ys H' hx c=>?_) (fun ys H5 c=>?_)
   ·obtain ⟨r,hr',rfl⟩:=aC hx
    have hlt:=(List.getElem?_eq_some_iff.mp hr').1
    have er:=c.same.get (s14.get (hn1.tr r (List.mem_of_getElem? hr')))
    walk_at "l2"
    refine Cs.put hD5 c.same c.at' c.len (by omega) ?_
    rw [c.pv,take_succ hr',List.map_append,List.map_append];rfl
   ·have e5:=c.at'
    rw [c.pv,List.length_map,List.take_length] at e5
    have s45:=c.same
    clear c
    have enm:N.ins++rs.map (·.2.2.1)++qs.map (·.2.1)=N.names:=by
     unfold Nt.names
     rw [← hn.es,← hn.et,List.map_map,List.map_map];rfl
    have lnm:N.names.length≤100:=by rw [← enm,List.length_append,List.length_append,List.length_map,List.length_map];omega
    refine ud (s45.get e4) e5 (by rw [List.length_append,List.length_map,List.length_map,List.length_map,List.length_map,List.length_map,sizeLine_eq];omega) fun D6 H6 f6 s6 e6=>?_
    rw [← List.map_append,← List.map_append,enm] at e6
    have s16:=s14.trans (s45.trans s6)
    walk_at "l2"
    refine ⟨D6,N.names,rfl,e6,by omega,g.nd,g.nm,fun H7 s7=>?_⟩
    have s07:=s1.trans (s16.trans s7)
    have hn7:=hn.same s07
    have hx7:=s07.get hx
    clear e6 e5 e4 e3 e2 s16 s14 hs2 ht4 hi1 hs1 ht1 hn1 hD3 hD5 f2 f4 f6 s1 s2 s23 s4 s45 s6 s7
    have hi7:=hn7.i
    walk_at "l2"
    intro ti H8 f8 s8 e8
    walk_at "l2"
    refine cS (s8.get hx7) T.de T.sD (by show 0 < 1000;decide) rfl fun H9 u9=>?_
    have hx8:=s8.get hx7
    have hn9:=(Kx.upd u9).hnd hx8 (hn7.same s8)
    have e9:=(Kx.upd u9).tup hx8 e8
    have hx9:=u9.at'
    have k9:Kx x H H9:=(Kx.same (s07.trans s8)).trans (Kx.upd u9)
    have hs9:=hn9.s
    clear u9 hx8 s8 e8 f8 hi7 hx7 hn7 s07
    walk_at "l2"
    intro D10 hD10
    refine aX (xs:=rs.map fun r=>V.ref r.1) (fun i ys H'=>∃ rs':List Rw,ys=rs'.map (fun r=>V.ref r.1)∧rs'.map (·.2.2)=(rs.take i).map (·.2.2)∧RwK H' rs'∧Same H9 H'∧H' D10=some (.lst ys)) ⟨[],rfl,rfl,fun _ h=>absurd h (by simp),bf hD10,av⟩ (fun i ys H' _ ⟨_,_,_,_,s',_⟩=>SqL.of (s'.get hs9)) ?_ ?_
    ·rintro i y ys H' hy ⟨rs',rfl,hrs,hk,s',eD⟩
     obtain ⟨r,hr',rfl⟩:=aC hy
     have hlt:=(List.getElem?_eq_some_iff.mp hr').1
     have hm:=List.mem_of_getElem? hr'
     have er:=s'.get (hn9.sr r hm).1
     have ew:=s'.get (hn9.sr r hm).2
     have hlen:rs'.length=i:=by have:=congrArg List.length hrs;rw [List.length_map,List.length_map,List.length_take] at this;omega
     walk_at "l2"
     intro tw H11 f11 s11 e11
     walk_at "l2"
     intro tr H12 f12 s12 e12
     have ntr:tr≠D10:=fun z=>(by rw [z,s11.get eD] at f12;cases f12)
     have ntw:tw≠D10:=fun z=>(by rw [z,eD] at f11;cases f11)
     have eD12:=s12.get (s11.get eD)
     refine ⟨eD12,by rw [List.length_map];exact aP (by omega),rs'++[(tr,tw,r.2.2)],by rw [List.map_append];rfl,by rw [List.map_append,hrs,take_succ hr',List.map_append];rfl,fun r2 h2=>?_,fun b ob e=>?_,av⟩
     ·rcases List.mem_append.mp h2 with h2 | h2
      ·exact ((hk.same s11).same s12).updL eD12 (fun b ob n e=>by rw [aB n];exact e) r2 h2
      ·rw [List.mem_singleton] at h2;subst h2
       exact ⟨by rw [aB ntr];exact e12,by rw [aB ntw];exact s12.get e11⟩
     ·rw [aB (ai e hD10)]
      exact s12.get (s11.get (s'.get e))
    ·rintro ys H10 ⟨rs',rfl,hrs,hk,s10,eD10⟩
     rw [List.length_map,List.take_length,hn.es] at hrs
     walk_at "l2"
     intro ts H11 f11 s11 e11
     have s911:=s10.trans s11
     have hx11:=s911.get hx9
     walk_at "l2"
     refine cS hx11 T.de T.lD (by show 1 < 1000;decide) rfl fun H12 u12=>?_
     have hn12:=(Kx.upd u12).hnd hx11 (hn9.same s911)
     have e912:=(Kx.upd u12).tup hx11 (s911.get e9)
     have e12:=(Kx.upd u12).tup hx11 e11
     have rk12:=(Kx.upd u12).rw hx11 (hk.same s11)
     have hx12:=u12.at'
     have k12:Kx x H H12:=k9.trans ((Kx.same s911).trans (Kx.upd u12))
     have ht12:=hn12.t
     clear u12 hx11 s911 s10 s11 e11 f11 hk eD10 hD10 hn9 hs9 hx9 e9 k9
     walk_at "l2"
     intro D13 hD13
     refine aX (xs:=qs.map fun r=>V.ref r.1) (fun i ys H'=>∃ qs':List Qs,ys=qs'.map (fun r=>V.ref r.1)∧qs'.map (·.2)=(qs.take i).map (·.2)∧QsK H' qs'∧Same H12 H'∧H' D13=some (.lst ys)) ⟨[],rfl,rfl,fun _ h=>absurd h (by simp),bf hD13,av⟩ (fun i ys H' _ ⟨_,_,_,_,s',_⟩=>SqL.of (s'.get ht12)) ?_ ?_
     ·rintro i y ys H' hy ⟨qs',rfl,hqs,hk,s',eD⟩
      obtain ⟨r,hr',rfl⟩:=aC hy
      have hlt:=(List.getElem?_eq_some_iff.mp hr').1
      have er:=s'.get (hn12.tr r (List.mem_of_getElem? hr'))
      have hlen:qs'.length=i:=by have:=congrArg List.length hqs;rw [List.length_map,List.length_map,List.length_take] at this;omega
      walk_at "l2"
      intro tr H14 f14 s14 e14
      have ntr:tr≠D13:=fun z=>(by rw [z,eD] at f14;cases f14)
      have eD14:=s14.get eD
      refine ⟨eD14,by rw [List.length_map];exact aP (by omega),qs'++[(tr,r.2)],by rw [List.map_append];rfl,by rw [List.map_append,hqs,take_succ hr',List.map_append];rfl,fun r2 h2=>?_,fun b ob e=>?_,av⟩
      ·rcases List.mem_append.mp h2 with h2 | h2
       ·exact (hk.same s14).updL eD14 (fun b ob n e=>by rw [aB n];exact e) r2 h2
       ·rw [List.mem_singleton] at h2;subst h2
        rw [aB ntr];exact e14
      ·rw [aB (ai e hD13)]
       exact s14.get (s'.get e)
     ·rintro ys H13 ⟨qs',rfl,hqs,hqk,s13,eD13⟩
      rw [List.length_map,List.take_length,hn.et] at hqs
      walk_at "l2"
      intro tk H14 f14 s14 e14
      have s1214:=s13.trans s14
      have hx14:=s1214.get hx12
      walk_at "l2"
      refine cS hx14 T.de T.c7 (by show 2 < 1000;decide) rfl fun H15 u15=>?_
      have hn15:=(Kx.upd u15).hnd hx14 (hn12.same s1214)
      have ei15:=(Kx.upd u15).tup hx14 (s1214.get e912)
      have es15:=(Kx.upd u15).tup hx14 (s1214.get e12)
      have rk15:=(Kx.upd u15).rw hx14 (rk12.same s1214)
      have et15:=(Kx.upd u15).tup hx14 e14
      have qk15:=(Kx.upd u15).qs hx14 (hqk.same s14)
      have hx15:=u15.at'
      have k15:Kx x H H15:=k12.trans ((Kx.same s1214).trans (Kx.upd u15))
      have ho15:=hn15.o
      clear u15 hx14 s1214 s13 s14 e14 f14 hqk eD13 hD13 hn12 ht12 hx12 e12 e912 k12 rk12
      walk_at "l2"
      intro to H16 f16 s16 e16
      have hx16:=s16.get hx15
      walk_at "l2"
      refine cS hx16 T.de T.uO (by show 3 < 1000;decide) rfl fun H17 u17=>?_
      have kp17:Kpt H17 ti ts tk to rs' qs' N:=(Kx.upd u17).kpt hx16 ⟨s16.get ei15,s16.get es15,rk15.same s16,hrs,s16.get et15,qk15.same s16,hqs,e16⟩
      have hx17:=u17.at'
      have k17:Kx x H H17:=k15.trans ((Kx.same s16).trans (Kx.upd u17))
      clear u17 hx16 s16 e16 f16 hx15 k15 ei15 es15 rk15 et15 qk15 ho15 hn15
      walk_at "l2"
      refine aH hx17 T.de T.sD rfl ?_
      walk_at "l2"
      refine aH hx17 T.de T.lD rfl ?_
      walk_at "l2"
      refine aH hx17 T.de T.c7 rfl ?_
      walk_at "l2"
      refine ⟨ti,ts,tk,to,rs',qs',N,rfl,kp17,g,fun db H18 ws f18 s18 wi=>?_⟩
      have hx18:=s18.get hx17
      walk_at "l2"
      refine cS hx18 T.de T.iT (by show 4 < 1000;decide) rfl fun H19 u19=>?_
      have hdb:db≠x:=dB wi.d hx18 fun z=>by cases z
      have hws:∀ q∈ws,q.2≠x:=fun q hq z=>by
       obtain ⟨C,dx',fs,e,_⟩:=(wi.ob q hq).name
       rw [z,hx18] at e
       injection e with e
       injection e with _ _ e
       injection e with e _
       injection e with e _
       exact absurd e (by decide)
      have wi19:=(Kx.upd u19).wia wi hdb hws hx18
      have kp19:=(Kx.upd u19).kpt hx18 (kp17.same s18)
      have hx19:=u19.at'
      have k19:Kx x H H19:=k17.trans ((Kx.same s18).trans (Kx.upd u19))
      clear u19 wi kp17 hx17 hx18 s18 k17 f18
      walk_at "l2"
      refine aH hx19 T.de T.lD rfl ?_
      walk_at "l2"
      refine aH hx19 T.de T.c7 rfl ?_
      walk_at "l2"
      refine aH hx19 T.de T.uO rfl ?_
      walk_at "l2"
      refine aH hx19 T.de T.iT rfl ?_
      walk_at "l2"
      refine ⟨ti,ts,tk,to,db,rs',qs',N,rfl,kp19,g,wi19.knw,fun H20 s20=>?_⟩
      have hx20:=s20.get hx19
      have kp20:=kp19.same s20
      walk_at "l2"
      refine aH hx20 T.de T.lD rfl ?_
      walk_at "l2"
      refine ⟨ts,rs',N,rfl,kp20.s,kp20.sr,hrs,g,fun Do H21 od f21 s21 e21 tp=>?_⟩
      walk_at "l2"
      intro tq H22 f22 s22 e22
      have s1922:=s20.trans (s21.trans s22)
      have hx22:=s1922.get hx19
      walk_at "l2"
      refine cS hx22 T.de T.om (by show 5 < 1000;decide) rfl fun H23 u23=>?_
      walk_at "l2"
      exact q H23 od (k19.trans ((Kx.same s1922).trans (Kx.upd u23))) ⟨⟨dx,ti,ts,tk,to,db,tq,rs',qs',ws,u23.at',(Kx.upd u23).kpt hx22 (kp19.same s1922),(Kx.upd u23).wia (wi19.same s1922) hdb hws hx22,(Kx.upd u23).tup hx22 e22⟩,g,tp⟩
end
section
variable {P:Program} {w:World} {K:PySem.W.Frag} {mg:Str→Option Value} {base:Heap} {a:Ad}
local macro_rules | `(tactic| walk_at "l2step") =>`(tactic| first | ((with_reducible refine' fN ?e ?_);(case e=>walk_at "l2kind")) | ((with_reducible refine' jI ?e ?_);(case e=>walk_at "l2kind")) | (with_reducible refine dh ?_) | (with_reducible refine gb ?_))
noncomputable abbrev NAof (a:Ad):NP:=fun H p N od=>NetA H a.br a.aq a.am a.ah p N od
theorem jv (T:Tx K mg a):FnOk P w K mg base CX0 1 a.bM a.kI ["self"] (Px (NAof a)):=by
 refine T.ib.ok y4 (fun vs H Q E h=>?_) (fun cdv A outer s H vs Q E hr h=>?_)
 ·obtain ⟨p,N,od,rfl,_⟩:=h;rfl
 ·obtain ⟨p,N,od,rfl,na,q⟩:=h
  obtain ⟨dx,i,s,t,o,d,tq,rs,qs,ws,hp,kp,wi,eq⟩:=na.ho
  have hi:=kp.i
  refine ⟨_,((aj (aM (aQ (cg (K:=K) rfl) (by rfl) T.gh PyProof.Rows.boot_list (aa (aN (K:=K) rfl (pv 0) rfl) ae))))),az (σ':=[some _]) rfl ?_⟩
  walk_at "l2"
  refine aH hp T.de T.sD rfl ?_
  walk_at "l2"
  exact q
theorem iD (T:Tx K mg a):FnOk P w K mg base CX0 1 a.bA a.jF ["self"] (aa0 (NAof a)):=by
 refine T.gF.ok wX (fun vs H Q E h=>?_) (fun cdv A outer s H vs Q E hr h=>?_)
 ·obtain ⟨p,N,od,rfl,_⟩:=h;rfl
 ·obtain ⟨p,N,od,rfl,na,q⟩:=h
  obtain ⟨dx,i,s,t,o,d,tq,rs,qs,ws,hp,kp,wi,eq⟩:=na.ho
  have ho:=kp.o
  refine ⟨_,((aj (aM (aQ (cg (K:=K) rfl) (by rfl) T.gh PyProof.Rows.boot_list (aa (aN (K:=K) rfl (pv 0) rfl) ae))))),az (σ':=[some _]) rfl ?_⟩
  walk_at "l2"
  refine aH hp T.de T.uO rfl ?_
  walk_at "l2"
  exact q
theorem gX (T:Tx K mg a):FnOk P w K mg base CX0 1 a.bi a.iH ["self"] (Ts (NAof a)):=by
 refine T.fF.ok t8 (fun vs H Q E h=>?_) (fun cdv A outer s H vs Q E hr h=>?_)
 ·obtain ⟨p,N,od,rfl,_⟩:=h;rfl
 ·obtain ⟨p,N,od,rfl,na,q⟩:=h
  obtain ⟨dx,i,s,t,o,d,tq,rs,qs,ws,hp,kp,wi,eq⟩:=na.ho
  have ht:=kp.t
  refine ⟨_,((aj (aM (aQ (cg (K:=K) rfl) (by rfl) T.gh PyProof.Rows.boot_list (aa (aN (K:=K) rfl (pv 0) rfl) ae))))),az (σ':=[some _]) rfl ?_⟩
  walk_at "l2"
  refine aH hp T.de T.c7 rfl ?_
  walk_at "l2"
  intro D H2 f2 s2 e2
  exact q D H2 qs f2 s2 e2 (fun q' m=>s2.get (kp.tr q' m)) kp.et
theorem qe (T:Tx K mg a):FnOk P w K mg base CX0 3 a.bY a.mG ["self","name"] (Tp (NAof a) a.aq a.am a.ah):=by
 have iq:=@si P w K mg base a T
 refine T.i8.ok B6 (fun vs H Q E h=>?_) (fun cdv A outer s H vs Q E hr h=>?_)
 ·obtain ⟨p,N,od,z,rfl,_⟩:=h;rfl
 ·obtain ⟨p,N,od,z,rfl,na,hz,q⟩:=h
  have hu:=DO hr
  obtain ⟨dx,i,s,t,o,d,tq,rs,qs,ws,hp,kp,wi,eq⟩:=na.ho
  have g:=na.g
  refine ⟨_,((af (b8 (ar iq (hr.mono (by decide)) (by rfl) T.jY T.jX T.fY .nil aA (aa (pv 1) (aa (aN (K:=K) rfl (pv 0) rfl) ae))))
   (aj (aM (uj hu (aN (K:=K) rfl (pv 0) rfl) (pv 1) (fun _ _=>rfl)))))),az (σ':=[some _,some _]) rfl ?_⟩
  walk_at "l2"
  refine aH hp T.de T.iT rfl ?_
  walk_at "l2"
  refine ⟨z,d,N.names,rfl,wi.knw,hz,g.nm z hz,fun H2 s2=>?_⟩
  have wi2:=wi.same s2
  walk_at "l2"
  refine aH (s2.get hp) T.de T.iT rfl ?_
  walk_at "l2"
  have key:∀ ws:List (Str×Addr),z∈ws.map (·.1)→∃ q∈ws,q.1=z∧valV (ws.map fun q=>((Sum.inr q.1:Key),V.ref q.2)) (Sum.inr z)=some (.ref q.2):=by
   intro ws
   induction ws with
   | nil=>intro h;cases h
   | cons q l ih=>
     intro h
     by_cases e:q.1=z
     ·exact ⟨q,List.mem_cons_self ..,e,oY (congrArg Sum.inr e)⟩
     ·rw [List.map_cons] at h
      obtain ⟨q',m,e',v⟩:=ih ((List.mem_cons.mp h).resolve_left fun h2=>e h2.symm)
      refine ⟨q',List.mem_cons_of_mem _ m,e',?_⟩
      rw [List.map_cons,oZ fun h2=>e (Sum.inr.inj h2)]
      exact v
  obtain ⟨q',m,e,v⟩:=key ws (by rw [wi.nm];exact hz)
  refine uc wi2.d v ?_
  have wb:=wi2.ob q' m
  rw [e] at wb
  walk_at "l2"
  exact q q'.2 H2 s2 wb
theorem iQ (T:Tx K mg a):FnOk P w K mg base CX0 1 a.aO a.fM ["self"] (aa4 (NAof a)):=by
 refine T.dA.ok pL (fun vs H Q E h=>?_) (fun cdv A outer s H vs Q E hr h=>?_)
 ·obtain ⟨p,N,od,rfl,_⟩:=h;rfl
 ·obtain ⟨p,N,od,rfl,na,q⟩:=h
  obtain ⟨dx,i,s,t,o,d,tq,rs,qs,ws,hp,kp,wi,eq⟩:=na.ho
  have g:=na.g
  have nl:=Gr g na.tp
  have hi:=kp.i
  have ht:=kp.t
  have lqs:qs.length=N.sts.length:=by rw [← kp.et,List.length_map]
  have nl':=nl
  unfold need at nl'
  rw [List.length_append,List.length_append,List.length_map] at nl'
  refine ⟨_,((aj (aM (aG lg (aG lg (aQ (cg (K:=K) rfl) (by rfl) T.gh PyProof.Rows.boot_list (aa (aN (K:=K) rfl (pv 0) rfl) ae)) (ci (osc:=ad bQ) (ON:=["self"]) (N:=["row"]) (n:=1) (fx:=[]) rfl rfl rfl (by decide +kernel) (md (K:=K) rfl (aN (K:=K) rfl (pv 0) rfl)) (aF (by decide)) (fun _ _ _ _ _=>⟨(ax (i:=0) (show List.Nodup (["row"]:List Str) from by decide +kernel) rfl (by walk_at "o")),bx,(bC (bg (K:=K) rfl) (pv 0) al (fun _ _=>rfl))⟩))) (aQ (cg (K:=K) rfl) (by rfl) T.gh PyProof.Rows.boot_list (aa (aN (K:=K) rfl (pv 0) rfl) ae)))))),az (σ':=[some _]) rfl ?_⟩
  walk_at "l2"
  refine aH hp T.de T.sD rfl ?_
  walk_at "l2"
  intro D2 H2 f2 s2 e2
  have ht2:=s2.get ht
  walk_at "l2"
  refine aH (s2.get hp) T.de T.c7 rfl ?_
  walk_at "l2"
  intro D3 hD3
  refine Hg (xs:=qs.map fun r=>V.ref r.1) (fun i ys H'=>Cs (fun i ys=>ys=((qs.take i).map (·.2.1)).map V.str) H2 D3 i ys H') (Cs.zero hD3 rfl) (fun i ys H' _ c=>SqT.of (c.same.get ht2)) (fun i x ys H' hx c=>?_) (fun ys H3 c=>?_)
  ·obtain ⟨r,hr',rfl⟩:=aC hx
   have hlt:=(List.getElem?_eq_some_iff.mp hr').1
   have er:=c.same.get (s2.get (kp.tr r (List.mem_of_getElem? hr')))
   walk_at "l2"
   refine Cs.put hD3 c.same c.at' c.len (by omega) ?_
   rw [c.pv,take_succ hr',List.map_append,List.map_append];rfl
  ·have e3:=c.at'
   rw [c.pv,List.length_map,List.take_length] at e3
   have s23:=c.same
   clear c
   refine ud (s23.get e2) e3 (by rw [List.length_map,List.length_map,List.length_map,sizeLine_eq];omega) fun D4 H4 f4 s4 e4=>?_
   have s04:=s2.trans (s23.trans s4)
   have eq4:=s04.get eq
   walk_at "l2"
   refine aH (s04.get hp) T.de T.om rfl ?_
   walk_at "l2"
   intro D5 H5 f5 s5 e5
   refine ud (s5.get e4) e5 (by rw [List.length_append,List.length_map,List.length_map,List.length_map,List.length_map,sizeLine_eq];omega) fun D6 H6 f6 s6 e6=>?_
   have en:N.ins++qs.map (·.2.1)++od=need N od:=by unfold need;rw [← kp.et,List.map_map];rfl
   rw [← List.map_append,← List.map_append,en] at e6
   have s06:=s04.trans s5
   exact q D6 H6 (s06.free f6) (s06.trans s6) e6
end
section
variable {P:Program} {w:World} {K:PySem.W.Frag} {mg:Str→Option Value} {base:Heap} {a:Ad}
local macro_rules | `(tactic| walk_at "l2step") =>`(tactic| first | ((with_reducible refine' fN ?e ?_);(case e=>walk_at "l2kind")) | ((with_reducible refine' jI ?e ?_);(case e=>walk_at "l2kind")) | (with_reducible refine dh ?_) | (with_reducible refine gb ?_))
theorem IM (T:Tx K mg a):FnOk P w K mg base CX0 4 a.dl a.rA ["net","row","state"] (XG (NAof a)):=by
 have fP:=@iQ P w K mg base a T
 have dz:=@qe P w K mg base a T
 have KH:=@FU P w K mg base a T
 have HN:=@Cl P w K mg base a T
 have BQ:=@xh P w K mg base a T
 refine T.mR.ok nR (fun vs H Q E h=>?_) (fun cdv A outer s H vs Q E hr h=>?_)
 ·obtain ⟨p,N,od,row,st,rfl,_⟩:=h;rfl
 ·obtain ⟨p,N,od,row,st,rfl,na,q⟩:=h
  have hu:=DO hr
  obtain ⟨dx,i,s,t,o,d,tq,rs,qs,ws,hp,kp,wi,eq⟩:=na.ho
  have g:=na.g
  have tp:=na.tp
  have nl:=Gr g tp
  refine ⟨_,((af (aW (i:=3) nR.nd rfl (by walk_at "o") yE)
   (af (fV PassesOwn.never rfl (aR (K:=K) rfl (cf (pv 0) T.de T.jB fP (hr.mono (by decide)) T.dy .nil aA)) (ax (i:=4) nR.nd rfl (by walk_at "o")) (aj (Ll hu (pv 3) (pv 4) (PE.or (gf (gf (pv 0) T.de T.eI dz (hr.mono (by decide)) T.cM .nil aA (aa (pv 4) ae)) T.mW T.Jq KH (hr.mono (by decide)) T.oU .nil aA (aa (pv 3) (aa (pv 1) (aa (pv 2) ae)))) (PE.or (gf (gf (pv 0) T.de T.eI dz (hr.mono (by decide)) T.cM .nil aA (aa (pv 4) ae)) T.jO T.Gw HN (hr.mono (by decide)) T.mM .nil aA (aa (pv 3) (aa (pv 1) (aa (pv 2) ae)))) (gf (gf (pv 0) T.de T.eI dz (hr.mono (by decide)) T.cM .nil aA (aa (pv 4) ae)) T.ee T.Aa BQ (hr.mono (by decide)) T.jM .nil aA (aa (pv 3) (aa (pv 1) (aa (pv 2) ae)))))) rfl)))
   (aj (aM (pv 3)))))),az (σ':=[some _,some _,some _,none,none]) rfl ?_⟩
  walk_at "l2"
  intro Db H1 f1 s1 e1
  have hp1:=s1.get hp
  walk_at "l2"
  refine aV hp1 rfl ?_
  walk_at "l2"
  refine ⟨p,N,od,rfl,na.same s1,fun D2 H2 f2 s2 e2=>?_⟩
  have s02:=s1.trans s2
  walk_at "l2"
  refine jZ (xs:=(need N od).map V.str) (fun i σ H'=>∃ v f,σ=[some (.ref p),some (nat row),some (nat st),some (.ref Db),v]∧Same H H'∧H' D2=some (.lst ((need N od).map V.str))∧H' Db=some (.dK (bitK f ((need N od).take i)))∧Pre N row st ((need N od).take i) f) ⟨none,fun _=>false,rfl,s02,e2,s2.get e1,Pre.nil ..⟩ (fun i σ H' _ ⟨_,_,_,_,e',_⟩=>SqL.of e') ?_ ?_
  ·rintro i y σ H' hy ⟨v,f,rfl,s',eD,eb,pr⟩
   obtain ⟨z,hz,rfl⟩:=aC hy
   have hlt:=(List.getElem?_eq_some_iff.mp hz).1
   have hzn:=(jW g tp z).mp (List.mem_of_getElem? hz)
   have hp':=s'.get hp
   have na':=na.same s'
   obtain ⟨nd1,nd2,nd3,x1,x2,x3⟩:=mn g
   have hnot:=z7 g tp hz
   have fin:∀ (b:Bool) (H4 H5:Hp),Same H' H4→Upd H4 H5 Db (.dK (putK (bitK f ((need N od).take i)) (Sum.inr z) (nat (M.bn b))))→Bt N row st ((need N od).take i) f z b→∃ f',Same H H5∧H5 D2=some (.lst ((need N od).map V.str))∧H5 Db=some (.dK (bitK f' ((need N od).take (i + 1))))∧Pre N row st ((need N od).take (i + 1)) f':=fun b H4 H5 s4 u5 bt=>by
    have ek:putK (bitK f ((need N od).take i)) (Sum.inr z) (nat (M.bn b))=bitK (fun y=>if y=z then b else f y) ((need N od).take (i + 1)):=by
     rw [Lk (Wo f _) hnot,take_succ hz]
     unfold bitK
     rw [List.map_append]
     congr 1
     ·exact List.map_congr_left fun y hy=>by show (_,nat (M.bn (f y)))=(_,nat (M.bn (if y=z then b else f y)));rw [if_neg (fun (e:y=z)=>hnot (e ▸ hy))]
     ·show [(_,nat (M.bn b))]=[(_,nat (M.bn (if z=z then b else f z)))];rw [if_pos rfl]
    rw [ek] at u5
    refine ⟨_,fun bb o e=>u5.oth _ _ (ai e f1) (s4.get (s'.get e)),u5.oth _ _ (dB (s4.get eD) (s4.get eb) fun z=>by cases z) (s4.get eD),u5.at',by rw [take_succ hz];exact pr.step hnot bt⟩
   have lk:(bitK f ((need N od).take i)).length≤1000:=by unfold bitK;rw [List.length_map,List.length_take];omega
   walk_at "l2"
   have hzn':=hzn
   unfold Nt.names at hzn'
   rcases List.mem_append.mp hzn' with h' | h'
   ·rcases List.mem_append.mp h' with h' | h'
    ·refine Or.inl ?_
     walk_at "l2"
     refine aV hp' rfl ?_
     walk_at "l2"
     refine ⟨p,N,od,z,rfl,na',hzn,fun w H3 s3 wb=>?_⟩
     have eb3:=s3.get eb
     cases wb with
     | i k dx' hk e=>
       walk_at "l2"
       refine aV e rfl ?_
       walk_at "l2"
       refine ⟨w,dx',.str z,(k:Int),.ref Db,(row:Int),(st:Int),rfl,e,by omega,?_⟩
       rw [Kn,show (if row.testBit k=true then (1:Int) else 0)=((M.bn (row.testBit k):Nat):Int) by unfold M.bn;cases row.testBit k<;>rfl]
       walk_at "l2"
       refine qH eb3 (aP lk) fun H5 u5=>?_
       obtain ⟨f',a1,a2,a3,a4⟩:=fin (row.testBit k) H3 H5 s3 u5 (ae5 g hk)
       walk_at "l2"
       exact ⟨_,f',rfl,a1,a2,a3,a4⟩
     | s ws' dx' tw hk e et=>exact absurd (List.mem_map.mpr ⟨_,hk,rfl⟩) (x1 z h')
     | t k y dx' hk e=>exact absurd (List.mem_map.mpr ⟨_,List.mem_of_getElem? hk,rfl⟩) (x2 z h')
    ·refine Or.inr (Or.inl ?_)
     walk_at "l2"
     refine aV hp' rfl ?_
     walk_at "l2"
     refine ⟨p,N,od,z,rfl,na',hzn,fun w H3 s3 wb=>?_⟩
     have eb3:=s3.get eb
     cases wb with
     | i k dx' hk e=>exact absurd h' (x1 z (List.mem_of_getElem? hk))
     | s ws' dx' tw hk e et=>
       have hat:=Ms g tp hz ws' hk
       walk_at "l2"
       refine aV e rfl ?_
       walk_at "l2"
       refine ⟨w,dx',.str z,tw,Db,ws',_,fun y=>((M.bn (f y):Nat):Int),(row:Int),(st:Int),rfl,e,SqT.of et,eb3,fun y hy=>Ft f (hat y hy),?_⟩
       rw [acb]
       walk_at "l2"
       refine qH eb3 (aP lk) fun H5 u5=>?_
       obtain ⟨f',a1,a2,a3,a4⟩:=fin (xb f ws') H3 H5 s3 u5 (aaC g hk hat)
       walk_at "l2"
       exact ⟨_,f',rfl,a1,a2,a3,a4⟩
     | t k y dx' hk e=>exact absurd (List.mem_map.mpr ⟨_,List.mem_of_getElem? hk,rfl⟩) (x3 z h')
   ·refine Or.inr (Or.inr ?_)
    walk_at "l2"
    refine aV hp' rfl ?_
    walk_at "l2"
    refine ⟨p,N,od,z,rfl,na',hzn,fun w H3 s3 wb=>?_⟩
    have eb3:=s3.get eb
    cases wb with
    | i k dx' hk e=>exact absurd h' (x2 z (List.mem_of_getElem? hk))
    | s ws' dx' tw hk e et=>exact absurd h' (x3 z (List.mem_map.mpr ⟨_,hk,rfl⟩))
    | t k y dx' hk e=>
      walk_at "l2"
      refine aV e rfl ?_
      walk_at "l2"
      refine ⟨w,dx',.str z,.str y,(k:Int),.ref Db,(row:Int),(st:Int),rfl,e,by omega,?_⟩
      rw [Kn,show (if st.testBit k=true then (1:Int) else 0)=((M.bn (st.testBit k):Nat):Int) by unfold M.bn;cases st.testBit k<;>rfl]
      walk_at "l2"
      refine qH eb3 (aP lk) fun H5 u5=>?_
      obtain ⟨f',a1,a2,a3,a4⟩:=fin (st.testBit k) H3 H5 s3 u5 (ae4 g hk)
      walk_at "l2"
      exact ⟨_,f',rfl,a1,a2,a3,a4⟩
  ·rintro σ H' ⟨v,f,rfl,s',eD,eb,pr⟩
   rw [List.length_map,List.take_length] at eb pr
   walk_at "l2"
   exact q Db H' f f1 s' eb (Uf g tp pr)
end
section
variable {P:Program} {w:World} {K:PySem.W.Frag} {mg:Str→Option Value} {base:Heap} {a:Ad}
local macro_rules | `(tactic| walk_at "l2step") =>`(tactic| first | ((with_reducible refine' fN ?e ?_);(case e=>walk_at "l2kind")) | ((with_reducible refine' jI ?e ?_);(case e=>walk_at "l2kind")) | (with_reducible refine dh ?_) | (with_reducible refine gb ?_))
theorem Qf (T:Tx K mg a):FnOk P w K mg base CX0 2 a.gq a.A6 ["wires","bits"] TB:=by
 have BP:=@E2 P w K mg base a T
 refine T.tR.ok PN (fun vs H Q E h=>?_) (fun cdv A outer s H vs Q E hr h=>?_)
 ·obtain ⟨l,d,ws,zs,f,rfl,_⟩:=h;rfl
 ·obtain ⟨l,d,ws,zs,f,rfl,hl,hd,ln,sub,q⟩:=h
  have hu:=DO hr
  refine ⟨_,((aj (aM (ar BP (hr.mono (by decide)) (by rfl) T.JL T.JG T.tE .nil aA (aa (ci (osc:=ad ji) (ON:=["wires","bits"]) (N:=["place","wire","bits"]) (n:=2) (fx:=[1]) rfl rfl rfl (by decide +kernel) (r9 (K:=K) rfl (by rfl) T.fL (pv 0)) (AJ (dQ (aF (by decide)) (dQ (aF (by decide)) rn))) (fun _ _ _ _ _=>⟨(qM (K:=K) (n:=2) rfl rfl (b5 (ax (i:=0) (show List.Nodup (["place","wire","bits"]:List Str) from by decide +kernel) rfl (by walk_at "o")) (b5 (ax (i:=1) (show List.Nodup (["place","wire","bits"]:List Str) from by decide +kernel) rfl (by walk_at "o")) jo))),(km (bc pN (uj hu (pv 2) (pv 1) (fun _ _=>rfl)) al (bu _))),(pv 0)⟩)) ae))))),az (σ':=[some _,some _]) rfl ?_⟩
  walk_at "l2"
  refine .inl ⟨⟨_,SqL.of hl⟩,?_⟩
  intro D hD
  refine R5 (xs:=ws.map V.str) (fun i ys H'=>ys=((List.range i).filter fun k=>f (ws.getD k "")).map nat∧Same H H'∧H' D=some (.lst ys)) ⟨rfl,bf hD,av⟩ (fun i ys H' _ ⟨_,s',_⟩=>SqL.of (s'.get hl)) (fun i x ys H' pz H2 hx ⟨ey,s',e'⟩ fp s2 e2=>?_) (fun ys H' ⟨ey,s',e'⟩=>?_)
  ·obtain ⟨z,hz,rfl⟩:=aC hx
   have hlt:=(List.getElem?_eq_some_iff.mp hz).1
   have gz:ws.getD i ""=z:=by rw [List.getD_eq_getElem?_getD,hz];rfl
   have fs:(List.range (i + 1)).filter (fun k=>f (ws.getD k ""))=(List.range i).filter (fun k=>f (ws.getD k ""))++(if f z=true then [i] else []):=by rw [List.range_succ,List.filter_append,List.filter_cons,gz];rfl
   have e2':=s2.get e'
   walk_at "l2"
   refine uc (s2.get (s'.get hd)) (Ft f (sub z (List.mem_of_getElem? hz))) ?_
   cases hf:f z with
   | true=>
     walk_at "l2"
     refine ⟨e2',?_,?_,fun b o e=>?_,av⟩
     ·rw [ey,List.length_map]
      have:=List.length_filter_le (fun k=>f (ws.getD k "")) (List.range i)
      rw [List.length_range] at this
      exact aP (by omega)
     ·rw [fs,hf,ey];simp
     ·rw [aB (ai e hD)];exact s2.get (s'.get e)
   | false=>
     walk_at "l2"
     refine ⟨?_,s'.trans s2,e2'⟩
     rw [fs,hf,ey];simp
  ·rw [List.length_map] at ey
   rw [ey] at e'
   walk_at "l2"
   refine ⟨D,_,rfl,e',fun k hk=>?_,?_⟩
   ·have:=List.mem_range.mp (List.mem_filter.mp hk).1
    omega
   ·rw [aex]
    exact q H' s'
theorem adT:(∀ (v:V) (r:List (Str×V)),([]:List (Str×V))≠(("name":Str),v)::r)∧∀ (v:V) (r:List (Str×V)),([]:List (Str×V))≠(("ins":Str),v)::r:=⟨fun _ _ h=>(by cases h),fun _ _ h=>(by cases h)⟩
theorem TY (x:V) (fs:List (Str×V)):(∀ (v:V) (r:List (Str×V)),(("net":Str),x)::fs≠(("name":Str),v)::r)∧∀ (v:V) (r:List (Str×V)),(("net":Str),x)::fs≠(("ins":Str),v)::r:=
 ⟨fun _ _ h=>(by injection h with h _;injection h with h _;exact absurd h (by decide)),fun _ _ h=>(by injection h with h _;injection h with h _;exact absurd h (by decide))⟩
theorem nY (T:Tx K mg a):FnOk P w K mg base CX0 1 a.bK a.kG ["self","net"] (Pt (NAof a) a.bD):=by
 refine T.h9.ok y0 (fun vs H Q E h=>?_) (fun cdv A outer s H vs Q E hr h=>?_)
 ·obtain ⟨x,dx,n,N,od,rfl,_⟩:=h;rfl
 ·obtain ⟨x,dx,n,N,od,rfl,hx,na,q⟩:=h
  refine ⟨_,((af (cZ (K:=K) rfl (pv 0) (pv 1) rfl)
   (af (cZ (K:=K) rfl (pv 0) al rfl)
   (af (cZ (K:=K) rfl (pv 0) yE rfl)
   (aj (cZ (K:=K) rfl (pv 0) (fW ae) rfl)))))),az (σ':=[some _,some _]) rfl ?_⟩
  walk_at "l2"
  refine cS hx T.kR T.oj (by show 0 < 1000;decide) rfl fun H1 u1=>?_
  walk_at "l2"
  refine cS u1.at' T.kR T.o8 (by show 1 < 1000;decide) rfl fun H2 u2=>?_
  have u12:=u1.trans u2
  walk_at "l2"
  intro d H3 f3 s3 e3
  walk_at "l2"
  refine cS (s3.get u12.at') T.kR T.o9 (by show 2 < 1000;decide) rfl fun H4 u4=>?_
  walk_at "l2"
  intro l H5 f5 s5 e5
  walk_at "l2"
  refine cS (s5.get u4.at') T.kR T.rc (by show 3 < 1000;decide) rfl fun H6 u6=>?_
  walk_at "l2"
  have k6:Kx x H H6:=(Kx.upd u12).trans ((Kx.same s3).trans ((Kx.upd u4).trans ((Kx.same s5).trans (Kx.upd u6))))
  have hlx:l≠x:=fun z=>(by rw [z,u4.at'] at f5;cases f5)
  have hln:H l=none:=by
   cases e:H l with
   | none=>rfl
   | some o=>
     have:=u4.oth _ _ hlx (s3.get (u12.oth _ _ hlx e))
     rw [f5] at this;cases this
  exact q H6 l k6 hln ⟨⟨dx,d,u6.at'⟩,u6.oth _ _ hlx e5,na.keep hx adT k6⟩
theorem IP (T:Tx K mg a):FnOk P w K mg base CX0 1 a.cB a.rE ["self"] (Tu (NAof a) a.bD):=by
 refine T.mV.ok Ij (fun vs H Q E h=>?_) (fun cdv A outer s H vs Q E hr h=>?_)
 ·obtain ⟨p,l,n,N,od,st,as,rfl,_⟩:=h;rfl
 ·obtain ⟨p,l,n,N,od,st,as,rfl,ra,q⟩:=h
  obtain ⟨dx,d,hp⟩:=ra.ho
  refine ⟨_,((aj (aM (aN (K:=K) rfl (pv 0) rfl)))),az (σ':=[some _]) rfl ?_⟩
  walk_at "l2"
  refine aH hp T.kR T.o8 rfl ?_
  walk_at "l2"
  exact q
theorem nX (T:Tx K mg a):FnOk P w K mg base CX0 1 a.bJ a.kF ["self"] (XJ (NAof a) a.bD):=by
 refine T.h8.ok yZ (fun vs H Q E h=>?_) (fun cdv A outer s H vs Q E hr h=>?_)
 ·obtain ⟨p,l,n,N,od,st,as,rfl,_⟩:=h;rfl
 ·obtain ⟨p,l,n,N,od,st,as,rfl,ra,q⟩:=h
  obtain ⟨dx,d,hp⟩:=ra.ho
  have hl:=ra.hl
  refine ⟨_,((aj (aM (aQ (cg (K:=K) rfl) (by rfl) T.gh PyProof.Rows.boot_list (aa (aN (K:=K) rfl (pv 0) rfl) ae))))),az (σ':=[some _]) rfl ?_⟩
  walk_at "l2"
  refine aH hp T.kR T.rc rfl ?_
  walk_at "l2"
  exact q
theorem zv (T:Tx K mg a):FnOk P w K mg base CX0 5 a.da a.vF ["self","row"] (XI (NAof a) a.bD):=by
 have fw:=@lu P w K mg base a T
 have fz:=@jv P w K mg base a T
 have d7:=@iD P w K mg base a T
 have dE:=@gX P w K mg base a T
 have Od:=@IM P w K mg base a T
 have KF:=@Qf P w K mg base a T
 refine T.pJ.ok yY (fun vs H Q E h=>?_) (fun cdv A outer s H vs Q E hr h=>?_)
 ·obtain ⟨p,l,n,N,od,st,row,as,rfl,_⟩:=h;rfl
 ·obtain ⟨p,l,n,N,od,st,row,as,rfl,ra,hrow,las,q⟩:=h
  obtain ⟨dx,d,hp⟩:=ra.ho
  have hl:=ra.hl
  have na:=ra.na
  have g:=na.g
  have tp:=na.tp
  have hlp:l≠p:=dB hl hp fun z=>by cases z
  obtain ⟨dxn,ni,ns,nt,no,nd,ntq,nrs,nqs,nws,hn,_⟩:=na.ho
  refine ⟨_,((af (fJ (jm (gc (ar fw (hr.mono (by decide)) (by rfl) T.lI T.lG T.ip .nil aA (aa (pv 1) (aa (aD (aK (K:=K) rfl) (by rfl) T.fc PySem.boot_len (aa (cf (aN (K:=K) rfl (pv 0) rfl) T.de T.kD fz (hr.mono (by decide)) T.fq .nil aA) ae)) ae))))) (aj jn) bR)
   (af (cZ (K:=K) rfl (pv 0) (ar Od (hr.mono (by decide)) (by rfl) T.M4 T.MX T.rK .nil aA (aa (aN (K:=K) rfl (pv 0) rfl) (aa (pv 1) (aa (aN (K:=K) rfl (pv 0) rfl) ae)))) rfl)
   (af (cZ (K:=K) rfl (pv 0) (ar KF (hr.mono (by decide)) (by rfl) T.JM T.JH T.tF .nil aA (aa (ci (osc:=ad gS) (ON:=["self","row","answer"]) (N:=["store"]) (n:=1) (fx:=[]) rfl rfl rfl (by decide +kernel) (aR (K:=K) rfl (cf (aN (K:=K) rfl (pv 0) rfl) T.de T.iF dE (hr.mono (by decide)) T.dD .nil aA)) (aF (by decide)) (fun _ _ _ _ _=>⟨(ax (i:=0) (show List.Nodup (["store"]:List Str) from by decide +kernel) rfl (by walk_at "o")),bx,(bC (bg (K:=K) rfl) (pv 0) al (fun _ _=>rfl))⟩)) (aa (aN (K:=K) rfl (pv 0) rfl) ae))) rfl)
   (af (aW (i:=2) yY.nd rfl (by walk_at "o") (ar KF (hr.mono (by decide)) (by rfl) T.JM T.JH T.tF .nil aA (aa (cf (aN (K:=K) rfl (pv 0) rfl) T.de T.jA d7 (hr.mono (by decide)) T.d5 .nil aA) (aa (aN (K:=K) rfl (pv 0) rfl) ae))))
   (af (b8 (iO (K:=K) rfl PySem.F.plainAttrs_list PySem.F.slot_list_append PySem.F.type_list_append lF (aN (K:=K) rfl (pv 0) rfl) (aa (pv 2) ae)))
   (aj (aM (pv 2))))))))),az (σ':=[some _,some _,none]) rfl ?_⟩
  walk_at "l2"
  refine aH hp T.kR T.oj rfl ?_
  walk_at "l2"
  refine aV hn rfl ?_
  walk_at "l2"
  refine ⟨n,N,od,rfl,na,fun D1 H1 f1 s1 e1=>?_⟩
  have hp1:=s1.get hp
  walk_at "l2"
  rw [List.length_map,gj hrow]
  walk_at "l2"
  refine aH hp1 T.kR T.oj rfl ?_
  walk_at "l2"
  refine aH hp1 T.kR T.o8 rfl ?_
  walk_at "l2"
  refine ⟨n,N,od,row,st,rfl,na.same s1,fun db H2 f f2 s2 e2 vl=>?_⟩
  have s02:=s1.trans s2
  have hp2:=s02.get hp
  walk_at "l2"
  refine cS hp2 T.kR T.o9 (by show 4 < 1000;decide) rfl fun H3 u3=>?_
  have hp3:=u3.at'
  have k3:Kx p H H3:=(Kx.same s02).trans (Kx.upd u3)
  have na3:=na.keep hp (TY _ _) k3
  have hl3:=k3 _ _ hlp hl
  have hnp:n≠p:=fun z=>by
   rw [z,hp] at hn
   injection hn with hn
   injection hn with _ _ hn
   exact (TY _ _).2 _ _ hn
  have hn3:=k3 _ _ hnp hn
  have eb3:=u3.oth _ _ (dB e2 hp2 fun z=>by cases z) e2
  walk_at "l2"
  refine aH hp3 T.kR T.oj rfl ?_
  walk_at "l2"
  refine aV hn3 rfl ?_
  walk_at "l2"
  refine ⟨n,N,od,rfl,na3,fun D4 H4 qs f4 s4 e4 qk et=>?_⟩
  have lqs:qs.length≤16:=by have:=g.lt;rw [← et,List.length_map] at this;exact this
  walk_at "l2"
  intro D5 hD5
  refine aX (xs:=qs.map fun r=>V.ref r.1) (fun i ys H'=>Cs (fun i ys=>ys=((qs.take i).map (·.2.2)).map V.str) H4 D5 i ys H') (Cs.zero hD5 rfl) (fun i ys H' _ c=>SqL.of (c.same.get e4)) (fun i x ys H' hx c=>?_) (fun ys H5 c=>?_)
  ·obtain ⟨r,hr',rfl⟩:=aC hx
   have hlt:=(List.getElem?_eq_some_iff.mp hr').1
   have er:=c.same.get (qk r (List.mem_of_getElem? hr'))
   walk_at "l2"
   refine Cs.put hD5 c.same c.at' c.len (by omega) ?_
   rw [c.pv,take_succ hr',List.map_append,List.map_append];rfl
  ·have e5:=c.at'
   rw [c.pv,List.length_map,List.take_length] at e5
   have s35:=s4.trans c.same
   clear c
   have ews:qs.map (·.2.2)=N.sts.map (·.2):=by rw [← et,List.map_map];rfl
   rw [ews] at e5
   have hp5:=s35.get hp3
   walk_at "l2"
   refine aH hp5 T.kR T.o9 rfl ?_
   walk_at "l2"
   refine ⟨D5,db,_,need N od,f,rfl,e5,s35.get eb3,by rw [List.length_map,← et,List.length_map];omega,fun w hw=>(jW g tp w).mpr (by obtain ⟨q',hq',rfl⟩:=List.mem_map.mp hw;exact g.ts q' hq'),fun H6 s6=>?_⟩
   rw [Jj g tp vl]
   have s36:=s35.trans s6
   have hp6:=s36.get hp3
   walk_at "l2"
   refine cS hp6 T.kR T.o8 (by show 4 < 1000;decide) rfl fun H7 u7=>?_
   have hp7:=u7.at'
   have k37:Kx p H3 H7:=(Kx.same s36).trans (Kx.upd u7)
   have k7:Kx p H H7:=k3.trans k37
   have na7:=na.keep hp (TY _ _) k7
   have hl7:=k7 _ _ hlp hl
   have hn7:=k7 _ _ hnp hn
   have eb7:=k37 _ _ (dB eb3 hp3 fun z=>by cases z) eb3
   clear u7 hp6 s36 s6 hp5 e5 hD5 s35 e4 qk et f4 s4 hn3 na3 hl3 k37 eb3 hp3
   walk_at "l2"
   refine aH hp7 T.kR T.oj rfl ?_
   walk_at "l2"
   refine aV hn7 rfl ?_
   walk_at "l2"
   refine ⟨n,N,od,rfl,na7,fun D8 H8 f8 s8 e8=>?_⟩
   have hp8:=s8.get hp7
   walk_at "l2"
   refine aH hp8 T.kR T.o9 rfl ?_
   walk_at "l2"
   have lo:=g.lo
   refine ⟨D8,db,N.outs,need N od,f,rfl,e8,s8.get eb7,by omega,fun w hw=>(jW g tp w).mpr (g.os w hw),fun H9 s9=>?_⟩
   rw [Jl g tp vl]
   have s79:=s8.trans s9
   have hp9:=s79.get hp7
   have hl9:=s79.get hl7
   walk_at "l2"
   refine aH hp9 T.kR T.rc rfl ?_
   walk_at "l2"
   refine rX hl9 (by rw [List.length_map,sizeLine_eq];omega) fun H10 u10=>?_
   walk_at "l2"
   refine q H10 (fun b ob n1 n2 e=>u10.oth _ _ n2 (s79.get (k7 _ _ n1 e))) ⟨⟨dx,db,u10.oth _ _ hlp.symm hp9⟩,by rw [u10.at',List.map_append];rfl,(na7.same s79).updL hl9 u10.oth⟩
theorem FS (T:Tx K mg a):FnOk P w K mg base CX0 6 a.cK a.oB ["net","rows"] (TL (NAof a)):=by
 have kQ:=@nY P w K mg base a T
 have vZ:=@zv P w K mg base a T
 have kP:=@nX P w K mg base a T
 refine T.kc.ok l6 (fun vs H Q E h=>?_) (fun cdv A outer s H vs Q E hr h=>?_)
 ·obtain ⟨n,r,N,od,rs,rfl,_⟩:=h;rfl
 ·obtain ⟨n,r,N,od,rs,rfl,na,hrs,lrs,hb,q⟩:=h
  refine ⟨_,((af (aW (i:=2) l6.nd rfl (by walk_at "o") (me T.afh kQ (hr.mono (by decide)) (by rfl) T.aeN T.hX .nil aA (aa (pv 0) ae)))
   (af (fV PassesOwn.never rfl (aR (K:=K) rfl (pv 1)) (ax (i:=3) l6.nd rfl (by walk_at "o")) (aj (b8 (gf (pv 2) T.kR T.E6 vZ (hr.mono (by decide)) T.pp .nil aA (aa (pv 3) ae)))))
   (aj (aM (cf (pv 2) T.kR T.qh kP (hr.mono (by decide)) T.hV .nil aA)))))),az (σ':=[some _,some _,none,none]) rfl ?_⟩
  walk_at "l2"
  intro x dx H1 f1 s1 e1
  refine ⟨x,dx,n,N,od,rfl,e1,na.same s1,fun H2 l k2 fl ra=>⟨rfl,?_⟩⟩
  have s02:Same H H2:=fun b ob e=>k2 _ _ (ai e f1) (s1.get e)
  have fl0:H l=none:=s1.free fl
  walk_at "l2"
  refine jZ (xs:=rs.map nat) (fun i σ H'=>∃ v,σ=[some (.ref n),some (.ref r),some (.ref x),v]∧Same H H'∧RunA (NAof a) H' a.bD x l n N od (rst N 0 (rs.take i)) (ran N 0 (rs.take i))) ⟨none,rfl,s02,ra⟩ (fun i σ H' _ ⟨_,_,s',_⟩=>SqL.of (s'.get hrs)) ?_ ?_
  ·rintro i y σ H' hy ⟨v,rfl,s',ra'⟩
   obtain ⟨z,hz,rfl⟩:=aC hy
   have hlt:=(List.getElem?_eq_some_iff.mp hz).1
   obtain ⟨dx',d',hx'⟩:=ra'.ho
   walk_at "l2"
   refine aV hx' rfl ?_
   walk_at "l2"
   refine ⟨x,l,n,N,od,_,z,_,rfl,ra',hb z (List.mem_of_getElem? hz),by rw [Li,List.length_take];omega,fun H3 k3 ra3=>?_⟩
   walk_at "l2"
   refine ⟨fun b ob e=>k3 _ _ (ai e f1) (ai e fl0) (s'.get e),?_⟩
   rw [take_succ hz,FH,FK]
   exact ra3
  ·rintro σ H' ⟨v,rfl,s',ra'⟩
   rw [List.length_map,List.take_length] at ra'
   obtain ⟨dx',d',hx'⟩:=ra'.ho
   walk_at "l2"
   refine aV hx' rfl ?_
   walk_at "l2"
   refine ⟨x,l,n,N,od,_,_,rfl,ra',fun D H3 f3 s3 e3=>?_⟩
   exact q D H3 (s'.free f3) (s'.trans s3) e3
end
section
variable {P:Program} {w:World} {K:PySem.W.Frag} {mg:Str→Option Value} {base:Heap} {a:Ad}
local macro_rules | `(tactic| walk_at "l2step") =>`(tactic| first | ((with_reducible refine' fN ?e ?_);(case e=>walk_at "l2kind")) | ((with_reducible refine' jI ?e ?_);(case e=>walk_at "l2kind")) | (with_reducible refine dh ?_) | (with_reducible refine gb ?_))
noncomputable def aa6 (NA:NP):Sp:=fun vs H Q _=>∃ (n r:Addr) (N:Nt) (od:List Str) (rs:List Nat),vs=[.ref n,.ref r]∧NA H n N od∧H r=some (.lst (rs.map nat))∧rs.length≤900∧(∀ x∈rs,x < 2 ^ N.ins.length)∧∀ (t D:Addr) (H2:Hp),Same H H2→H2 t=some (.tup [.ref D,nat (rst N 0 rs)])→H2 D=some (.lst ((ran N 0 rs).map nat))→Q (.ref t) H2
theorem LK (T:Tx K mg a):FnOk P w K mg base CX0 6 a.eR a.vC ["_law_net_one","_law_rows"] (aa6 (NAof a)):=by
 have kQ:=@nY P w K mg base a T
 have vZ:=@zv P w K mg base a T
 have kP:=@nX P w K mg base a T
 have Of:=@IP P w K mg base a T
 refine T.pG.ok qB (fun vs H Q E h=>?_) (fun cdv A outer s H vs Q E hr h=>?_)
 ·obtain ⟨n,r,N,od,rs,rfl,_⟩:=h;rfl
 ·obtain ⟨n,r,N,od,rs,rfl,na,hrs,lrs,hb,q⟩:=h
  refine ⟨_,((af (aW (i:=2) qB.nd rfl (by walk_at "o") (me T.afh kQ (hr.mono (by decide)) (by rfl) T.aeN T.hX .nil aA (aa (pv 0) ae)))
   (af (fV PassesOwn.never rfl (aR (K:=K) rfl (pv 1)) (ax (i:=3) qB.nd rfl (by walk_at "o")) (aj (b8 (gf (pv 2) T.kR T.E6 vZ (hr.mono (by decide)) T.pp .nil aA (aa (pv 3) ae)))))
   (aj (aM (gJ (aa (cf (pv 2) T.kR T.qh kP (hr.mono (by decide)) T.hV .nil aA) (aa (cf (pv 2) T.kR T.MB Of (hr.mono (by decide)) T.rM .nil aA) ae)))))))),az (σ':=[some _,some _,none,none]) rfl ?_⟩
  walk_at "l2"
  intro x dx H1 f1 s1 e1
  refine ⟨x,dx,n,N,od,rfl,e1,na.same s1,fun H2 l k2 fl ra=>⟨rfl,?_⟩⟩
  have s02:Same H H2:=fun b ob e=>k2 _ _ (ai e f1) (s1.get e)
  have fl0:H l=none:=s1.free fl
  walk_at "l2"
  refine jZ (xs:=rs.map nat) (fun i σ H'=>∃ v,σ=[some (.ref n),some (.ref r),some (.ref x),v]∧Same H H'∧RunA (NAof a) H' a.bD x l n N od (rst N 0 (rs.take i)) (ran N 0 (rs.take i))) ⟨none,rfl,s02,ra⟩ (fun i σ H' _ ⟨_,_,s',_⟩=>SqL.of (s'.get hrs)) ?_ ?_
  ·rintro i y σ H' hy ⟨v,rfl,s',ra'⟩
   obtain ⟨z,hz,rfl⟩:=aC hy
   have hlt:=(List.getElem?_eq_some_iff.mp hz).1
   obtain ⟨dx',d',hx'⟩:=ra'.ho
   walk_at "l2"
   refine aV hx' rfl ?_
   walk_at "l2"
   refine ⟨x,l,n,N,od,_,z,_,rfl,ra',hb z (List.mem_of_getElem? hz),by rw [Li,List.length_take];omega,fun H3 k3 ra3=>?_⟩
   walk_at "l2"
   refine ⟨fun b ob e=>k3 _ _ (ai e f1) (ai e fl0) (s'.get e),?_⟩
   rw [take_succ hz,FH,FK]
   exact ra3
  ·rintro σ H' ⟨v,rfl,s',ra'⟩
   rw [List.length_map,List.take_length] at ra'
   obtain ⟨dx',d',hx'⟩:=ra'.ho
   walk_at "l2"
   refine aV hx' rfl ?_
   walk_at "l2"
   refine ⟨x,l,n,N,od,_,_,rfl,ra',fun D H3 f3 s3 e3=>?_⟩
   walk_at "l2"
   refine aV (s3.get hx') rfl ?_
   walk_at "l2"
   refine ⟨x,l,n,N,od,_,_,rfl,⟨⟨_,_,s3.get hx'⟩,s3.get ra'.hl,ra'.na.same s3⟩,?_⟩
   walk_at "l2"
   intro t H4 f4 s4 e4
   exact q t D H4 (s'.trans (s3.trans s4)) e4 (s4.get e3)
end
section
variable {P:Program} {w:World} {K:PySem.W.Frag} {mg:Str→Option Value} {base:Heap} {a:Ad}
local macro_rules | `(tactic| walk_at "l2step") =>`(tactic| first | ((with_reducible refine' fN ?e ?_);(case e=>walk_at "l2kind")) | ((with_reducible refine' jI ?e ?_);(case e=>walk_at "l2kind")) | (with_reducible refine dh ?_) | (with_reducible refine gb ?_))
theorem Qg (T:Tx K mg a):FnOk P w K mg base CX0 3 a.gt a.A7 ["thing","stores","inputs"] XL:=by
 have fw:FnOk P w K mg base CX0 2 a.fo a.sT ["thing","width"] (KW K):=lu T
 refine T.tS.ok PP (fun vs H Q E h=>?_) (fun cdv A outer s H vs Q E hr h=>?_)
 ·obtain ⟨t,x,y,n,m,rfl,_⟩:=h;rfl
 ·obtain ⟨t,x,y,n,m,rfl,ht,hx,hy,q⟩:=h
  refine ⟨_,((af (fJ (PW.pt (qI (jm (gc (aD (lP (K:=K) rfl) (by rfl) T.fX PyProof.Rows.boot_isinstance (aa (pv 0) (aa (uk (v:= .ty "tuple") (by rfl) T.kB PyProof.Rows.boot_tuple rfl) ae))))) (p9 (bc Ut (aD (aK (K:=K) rfl) (by rfl) T.fc PySem.boot_len (aa (pv 0) ae)) al (bu _))))) (aj (aM LA)) bR)
   (aj (aM (wm (ar fw (hr.mono (by decide)) (by rfl) T.lI T.lG T.ip .nil aA (aa (bC (bg (K:=K) rfl) (pv 0) al (fun _ _=>rfl)) (aa (pv 1) ae))) (zk (ar fw (hr.mono (by decide)) (by rfl) T.lI T.lG T.ip .nil aA (aa (bC (bg (K:=K) rfl) (pv 0) al (fun _ _=>rfl)) (aa (pv 2) ae))))))))),az (σ':=[some _,some _,some _]) rfl ?_⟩
  walk_at "l2"
  refine rW (gj hx) ?_
  walk_at "l2"
  rw [gj hy]
  exact q
theorem Ci (T:Tx K mg a):FnOk P w K mg base CX0 4 a.cn a.mC ["inputs","nexts","outs"] aa9:=by
 have lW:FnOk P w K mg base CX0 1 a.c9 a.lJ ["thing"] (yC K):=qO T
 have WM:=@Qg P w K mg base a T
 refine T.i0.ok B4 (fun vs H Q E h=>?_) (fun cdv A outer s H vs Q E hr h=>?_)
 ·obtain ⟨n,o,m,nx,os,rfl,_⟩:=h;rfl
 ·obtain ⟨n,o,m,nx,os,rfl,t,q⟩:=h
  refine ⟨_,((af (fJ (PW.pt (qI (jm (gc (ar lW (hr.mono (by decide)) (by rfl) T.vm T.vi T.lV .nil aA (aa (pv 0) ae)))) (qI (bc Uu (pv 0) al (bu _)) (p9 (bc xc (pv 0) (jp (v:= .int 6) (by rfl) T.GV ⟨_,rfl⟩) (bu _)))))) (aj (jT PySem.F.excBase_ValueError T.fQ thr0 rfl (by rfl) T.ph (aa bU ae))) bR)
   (af (fJ (PW.pt (qI (jm (gc (aD (lP (K:=K) rfl) (by rfl) T.fX PyProof.Rows.boot_isinstance (aa (pv 1) (aa (uk (v:= .ty "list") (by rfl) T.gh PyProof.Rows.boot_list rfl) ae))))) (p9 (bc xc (aD (aK (K:=K) rfl) (by rfl) T.fc PySem.boot_len (aa (pv 1) ae)) (jp (v:= .int 120) (by rfl) T.nJ ⟨_,rfl⟩) (bu _))))) (aj (jT PySem.F.excBase_ValueError T.fQ thr0 rfl (by rfl) T.ph (aa bU ae))) bR)
   (af (fJ (PW.pt (qI (jm (gc (aD (lP (K:=K) rfl) (by rfl) T.fX PyProof.Rows.boot_isinstance (aa (pv 2) (aa (uk (v:= .ty "list") (by rfl) T.gh PyProof.Rows.boot_list rfl) ae))))) (p9 (bc xc (aD (aK (K:=K) rfl) (by rfl) T.fc PySem.boot_len (aa (pv 2) ae)) (jp (v:= .int 6) (by rfl) T.pX ⟨_,rfl⟩) (bu _))))) (aj (jT PySem.F.excBase_ValueError T.fQ thr0 rfl (by rfl) T.ph (aa bU ae))) bR)
   (aj (fJ (jm (gc (aD (tm (K:=K) rfl rfl) (by rfl) T.Yq PyProof.Rows.boot_all (aa (ci (osc:=ad di) (ON:=["inputs","nexts","outs"]) (N:=["pair","nexts","inputs"]) (n:=1) (fx:=[1,0]) rfl rfl rfl (by decide +kernel) (aR (K:=K) rfl (aG lg (pv 1) (pv 2))) (aF (by decide)) (fun _ _ _ _ _=>⟨(ax (i:=0) (show List.Nodup (["pair","nexts","inputs"]:List Str) from by decide +kernel) rfl (by walk_at "o")),bx,(ar WM (hr.mono (by decide)) (by rfl) T.VC T.Vo T.BD .nil aA (aa (pv 0) (aa (aD (aK (K:=K) rfl) (by rfl) T.fc PySem.boot_len (aa (pv 1) ae)) (aa (pv 2) ae))))⟩)) ae)))) (aj (jT PySem.F.excBase_ValueError T.fQ thr0 rfl (by rfl) T.ph (aa bU ae))) bR)))))),az (σ':=[some _,some _,some _]) rfl ?_⟩
  walk_at "l2"
  have m6:=t.m6
  have ln:=t.ln
  have lo:=t.lo
  have hn:=t.n
  have ho:=t.o
  have en:(refs nx).length=nx.length:=List.length_map ..
  have eo:(refs os).length=os.length:=List.length_map ..
  refine iS (decide_eq_false (by omega)) ?_
  walk_at "l2"
  refine iS (decide_eq_false (by omega)) ?_
  walk_at "l2"
  refine iS (decide_eq_false (by omega)) ?_
  walk_at "l2"
  refine ud hn ho (by rw [sizeLine_eq];omega) fun p H2 f2 s2 e2=>?_
  walk_at "l2"
  intro D hD
  refine aX (xs:=refs nx++refs os) (fun i ys H'=>Cs (fun i ys=>ys=(List.replicate i true).map V.bl) H2 D i ys H') (Cs.zero hD rfl) (fun i ys H' _ c=>SqL.of (c.same.get e2)) (fun i x ys H' hx c=>?_) (fun ys H' c=>?_)
  ·have hx:(refs (nx++os))[i]? =some x:=by unfold refs at hx ⊢;rw [List.map_append];exact hx
   obtain ⟨pr,hpr,rfl⟩:=aC hx
   have hm:=List.mem_of_getElem? hpr
   have hi:=(List.getElem?_eq_some_iff.mp hpr).1
   rw [List.length_append] at hi
   have hb:=t.bn pr hm
   have ht:H pr.1=some (.tup [nat pr.2.1,nat pr.2.2]):=(List.mem_append.mp hm).elim (t.pn pr) (t.po pr)
   have hn':=c.same.get (s2.get hn)
   walk_at "l2"
   rw [en]
   refine ⟨pr.1,pr.2.1,pr.2.2,nx.length,m,rfl,c.same.get (s2.get ht),hb.1,hb.2,?_⟩
   refine Cs.put hD c.same c.at' c.len (by omega) ?_
   rw [c.pv,List.replicate_succ',List.map_append];rfl
  ·have ec:=c.at'
   rw [c.pv] at ec
   walk_at "l2"
   refine Ik (SqL.of ec) ?_
   walk_at "l2"
   refine iS (by rw [List.all_replicate];simp) ?_
   walk_at "l2"
   exact q H' (s2.trans c.same)
theorem qS (T:Tx K mg a):FnOk P w K mg base CX0 5 a.aU a.gy ["self","inputs","nexts","outs"] (aa5 a.ag):=by
 have HK:=@Ci P w K mg base a T
 refine T.dS.ok qF (fun vs H Q E h=>?_) (fun cdv A outer s H vs Q E hr h=>?_)
 ·obtain ⟨x,dx,n,o,m,nx,os,rfl,_⟩:=h;rfl
 ·obtain ⟨x,dx,n,o,m,nx,os,rfl,hx,t,q⟩:=h
  refine ⟨_,((af (b8 (ar HK (hr.mono (by decide)) (by rfl) T.GS T.GO T.mJ .nil aA (aa (pv 1) (aa (pv 2) (aa (pv 3) ae)))))
   (af (cZ (K:=K) rfl (pv 0) (pv 1) rfl)
   (af (cZ (K:=K) rfl (pv 0) (aQ (du (K:=K) rfl) (by rfl) T.kB PyProof.Rows.boot_tuple (aa (pv 2) ae)) rfl)
   (aj (cZ (K:=K) rfl (pv 0) (aQ (du (K:=K) rfl) (by rfl) T.kB PyProof.Rows.boot_tuple (aa (pv 3) ae)) rfl)))))),az (σ':=[some _,some _,some _,some _]) rfl ?_⟩
  walk_at "l2"
  refine ⟨n,o,m,nx,os,rfl,t,fun H1 s1=>?_⟩
  have nnx:=dB t.n hx (by simp)
  have onx:=dB t.o hx (by simp)
  walk_at "l2"
  refine cS (s1.get hx) T.aL T.cj (by decide) rfl fun H2 u2=>?_
  have hn2:=u2.oth _ _ nnx (s1.get t.n)
  have ho2:=u2.oth _ _ onx (s1.get t.o)
  walk_at "l2"
  intro tn H3 f3 s3 e3
  have tnx:tn≠x:=fun z=>by rw [z,u2.at'] at f3;cases f3
  walk_at "l2"
  refine cS (s3.get u2.at') T.aL T.c8 (by show 1 < 1000;decide) rfl fun H4 u4=>?_
  have ho4:=u4.oth _ _ onx (s3.get ho2)
  have e4:=u4.oth _ _ tnx e3
  walk_at "l2"
  intro to H5 f5 s5 e5
  have tox:to≠x:=fun z=>by rw [z,u4.at'] at f5;cases f5
  walk_at "l2"
  refine cS (s5.get u4.at') T.aL T.fk (by show 2 < 1000;decide) rfl fun H6 u6=>?_
  have k:∀ b ob,b≠x→H b=some ob→H6 b=some ob:=fun b ob nb e=>u6.oth _ _ nb (s5.get (u4.oth _ _ nb (s3.get (u2.oth _ _ nb (s1.get e)))))
  walk_at "l2"
  refine q H6 k ⟨⟨dx,tn,to,u6.at',u6.oth _ _ tnx (s5.get e4),u6.oth _ _ tox e5⟩,fun pr h=>k _ _ ?_ (t.pn pr h),fun pr h=>k _ _ ?_ (t.po pr h)⟩
  ·exact dB (t.pn pr h) hx (by simp)
  ·exact dB (t.po pr h) hx (by simp)
theorem ur (T:Tx K mg a):FnOk P w K mg base CX0 1 a.bo a.iJ ["self"] (Tr a.ag):=by
 refine T.fH.ok ua (fun vs H Q E h=>?_) (fun cdv A outer s H vs Q E hr h=>?_)
 ·obtain ⟨p,m,nx,os,rfl,_⟩:=h;rfl
 ·obtain ⟨p,m,nx,os,rfl,ma,q⟩:=h
  obtain ⟨dx,tn,to,ho,hn,ho2⟩:=ma.ho
  refine ⟨_,((aj (aM (aD (aK (K:=K) rfl) (by rfl) T.fc PySem.boot_len (aa (aN (K:=K) rfl (pv 0) rfl) ae))))),az (σ':=[some _]) rfl ?_⟩
  walk_at "l2"
  refine aH ho T.aL T.c8 rfl ?_
  walk_at "l2"
  unfold refs
  rw [List.length_map]
  exact q
theorem UB (T:Tx K mg a):FnOk P w K mg base CX0 2 a.iW a.G9 ["pair","state","row"] XO:=by
 have aaG:=@abE P w K mg base a T
 refine T.yK.ok TV (fun vs H Q E h=>?_) (fun cdv A outer s H vs Q E hr h=>?_)
 ·obtain ⟨t,x1,x2,x,r,rfl,_⟩:=h;rfl
 ·obtain ⟨t,a1,b1,x,r,rfl,ht,ha,hb,q⟩:=h
  refine ⟨_,((aj (aM (iu Ut (ar aaG (hr.mono (by decide)) (by rfl) T.aas T.aan T.O2 .nil aA (aa (aG E1 (bC (bg (K:=K) rfl) (pv 0) al (fun _ _=>rfl)) (pv 1)) ae)) (ar aaG (hr.mono (by decide)) (by rfl) T.aas T.aan T.O2 .nil aA (aa (aG E1 (bC (bg (K:=K) rfl) (pv 0) al (fun _ _=>rfl)) (pv 2)) ae)) (bu _))))),az (σ':=[some _,some _,some _]) rfl ?_⟩
  walk_at "l2"
  rw [lQ]
  refine ⟨a1&&&x,rfl,Nat.lt_of_le_of_lt Nat.and_le_left ha,?_⟩
  walk_at "l2"
  rw [lQ]
  refine ⟨b1&&&r,rfl,Nat.lt_of_le_of_lt Nat.and_le_left hb,?_⟩
  walk_at "l2"
  rw [Ta]
  exact q
theorem FR (T:Tx K mg a):FnOk P w K mg base CX0 3 a.cI a.oz ["pairs","state","row"] (aa1 K):=by
 have Zw:=@UB P w K mg base a T
 have BP:=@E2 P w K mg base a T
 refine T.ka.ok FC (fun vs H Q E h=>?_) (fun cdv A outer s H vs Q E hr h=>?_)
 ·obtain ⟨r,ps,x,y,rfl,_⟩:=h;rfl
 ·obtain ⟨r,ps,x,y,rfl,hp,pt,hl,hb,q⟩:=h
  refine ⟨_,((aj (aM (ar BP (hr.mono (by decide)) (by rfl) T.JL T.JG T.tE .nil aA (aa (ci (osc:=ad dW) (ON:=["pairs","state","row"]) (N:=["place","pair","state","row"]) (n:=2) (fx:=[1,2]) rfl rfl rfl (by decide +kernel) (r9 (K:=K) rfl (by rfl) T.fL (pv 0)) (AJ (dQ (aF (by decide)) (dQ (aF (by decide)) rn))) (fun _ _ _ _ _=>⟨(qM (K:=K) (n:=2) rfl rfl (b5 (ax (i:=0) (show List.Nodup (["place","pair","state","row"]:List Str) from by decide +kernel) rfl (by walk_at "o")) (b5 (ax (i:=1) (show List.Nodup (["place","pair","state","row"]:List Str) from by decide +kernel) rfl (by walk_at "o")) jo))),(km (gc (ar Zw (hr.mono (by decide)) (by rfl) T.Y4 T.YQ T.Hx .nil aA (aa (pv 1) (aa (pv 2) (aa (pv 3) ae)))))),(pv 0)⟩)) ae))))),az (σ':=[some _,some _,some _]) rfl ?_⟩
  walk_at "l2"
  refine .inr ⟨⟨_,hp⟩,?_⟩
  intro D hD
  refine vL (xs:=refs ps) (fun i ys H'=>Cs (fun i ys=>∃ qs:List Nat,ys=qs.map nat∧(∀ p∈qs,p < i)∧M.xm qs=M.tr2 (prs (ps.take i)) x y) H D i ys H') (Cs.zero hD ⟨[],rfl,fun _ h=>absurd h (by simp),rfl⟩) (fun i ys H' _ c=>Same.tup c.same hp) (fun i v ys H' p H7 hv c fp s7 e7=>?_) (fun ys H' c=>?_)
  ·obtain ⟨pr,hpr,rfl⟩:=aC hv
   obtain ⟨qs,eqs,hq,exm⟩:=c.pv
   have hm:=List.mem_of_getElem? hpr
   have hi:=(List.getElem?_eq_some_iff.mp hpr).1
   have ht:=s7.get (c.same.get (pt pr hm))
   have ts:=Xy x y hpr
   walk_at "l2"
   refine ⟨pr.1,pr.2.1,pr.2.2,x,y,rfl,ht,(hb pr hm).1,(hb pr hm).2,?_⟩
   cases hod:(M.od (pr.2.1&&&x)^^M.od (pr.2.2&&&y)) with
   | true=>
     rw [hod,if_pos rfl] at ts
     walk_at "l2"
     refine Cs.put hD (c.same.trans s7) (s7.get c.at') c.len (by omega) ⟨qs++[i],?_,fun k hk=>?_,?_⟩
     ·rw [eqs,List.map_append];rfl
     ·rcases List.mem_append.mp hk with h | h
      ·have:=hq k h;omega
      ·rw [List.mem_singleton.mp h];omega
     ·rw [M.xm_snoc,exm,ts]
   | false=>
     rw [hod,if_neg Bool.false_ne_true,Nat.xor_zero] at ts
     walk_at "l2"
     refine Cs.skip (c.same.trans s7) (s7.get c.at') c.len ⟨qs,eqs,fun k hk=>?_,?_⟩
     ·have:=hq k hk;omega
     ·rw [exm,ts]
  ·obtain ⟨qs,eqs,hq,exm⟩:=c.pv
   rw [jS] at hq exm
   have ec:=c.at'
   rw [eqs] at ec
   walk_at "l2"
   refine ⟨D,qs,rfl,ec,fun k hk=>by have:=hq k hk;omega,?_⟩
   rw [exm,List.take_length]
   exact q _ c.same
theorem gK (T:Tx K mg a):FnOk P w K mg base (CX1 P w) 3 a.aE a.d3 ["self","state"] (adi K a.ag a.bT):=by
 have fw:=@lu P w K mg base a T
 refine T.cO.okX nB (fun vs H Q E h=>?_) (fun cdv A outer s H vs Q E hr h=>?_)
 ·obtain ⟨p,m,nx,os,x,k,rfl,_⟩:=h;rfl
 ·obtain ⟨p,m,nx,os,x,k,rfl,ma,hk,qQ,qE⟩:=h
  obtain ⟨dx,tn,to,ho,hn,ho2⟩:=ma.ho
  refine ⟨_,((aj (fJ (jm (gc (ar fw (hr.mono (by decide)) (by rfl) T.lI T.lG T.ip .nil aA (aa (pv 1) (aa (aD (aK (K:=K) rfl) (by rfl) T.fc PySem.boot_len (aa (aN (K:=K) rfl (pv 0) rfl) ae)) ae))))) (aj (jT PySem.F.excBase_ValueError T.ij g9 rfl (by rfl) T.sP (aa bU ae))) bR))),az (σ':=[some _,some _]) rfl ?_⟩
  walk_at "l2"
  refine aH ho T.aL T.c8 rfl ?_
  walk_at "l2"
  rw [jS]
  cases hm:mq x (nx.length:Int) with
  | false=>
    walk_at "l2"
    exact ⟨by rw [sizeLine_eq];decide,qE hm⟩
  | true=>
    walk_at "l2"
    exact qQ hm
theorem zz (T:Tx K mg a):FnOk P w K mg base (CX1 P w) 4 a.bP a.kL ["self","state","row"] (XN K a.ag a.bT):=by
 have fw:=@lu P w K mg base a T
 have d8:=@gK P w K mg base a T
 have wH:=@FR P w K mg base a T
 refine T.ii.okX y9 (fun vs H Q E h=>?_) (fun cdv A outer s H vs Q E hr h=>?_)
 ·obtain ⟨p,m,nx,os,x,y,kx,ky,rfl,_⟩:=h;rfl
 ·obtain ⟨p,m,nx,os,x,y,kx,ky,rfl,ma,g,hkx,hky,qQ,qE⟩:=h
  obtain ⟨dx,tn,to,ho,hn,ho2⟩:=ma.ho
  have ln:=g.ln
  have lo:=g.lo
  refine ⟨_,((af (b8 (hU (pv 0) T.aL T.im d8 (hr.mono (by decide)) T.cN .nil g9 (aa (pv 1) ae)))
   (af (fJ (jm (gc (ar fw (hr.mono (by decide)) (by rfl) T.lI T.lG T.ip .nil aA (aa (pv 2) (aa (aN (K:=K) rfl (pv 0) rfl) ae))))) (aj (jT PySem.F.excBase_ValueError T.ij g9 rfl (by rfl) T.sP (aa bU ae))) bR)
   (aj (aM (gJ (aa (ar wH (hr.mono (by decide)) (by rfl) T.wz T.ww T.j8 .nil aA (aa (aN (K:=K) rfl (pv 0) rfl) (aa (pv 1) (aa (pv 2) ae)))) (aa (ar wH (hr.mono (by decide)) (by rfl) T.wz T.ww T.j8 .nil aA (aa (aN (K:=K) rfl (pv 0) rfl) (aa (pv 1) (aa (pv 2) ae)))) ae)))))))),az (σ':=[some _,some _,some _]) rfl ?_⟩
  walk_at "l2"
  refine fj ho rfl ?_
  walk_at "l2"
  refine ⟨p,m,nx,os,x,kx,rfl,ma,hkx,fun hm=>?_,fun hm=>qE (.inl hm)⟩
  walk_at "l2"
  refine aH ho T.aL T.cj rfl ?_
  walk_at "l2"
  cases hm2:mq y (m:Int) with
  | false=>
    walk_at "l2"
    exact ⟨by rw [sizeLine_eq];decide,qE (.inr hm2)⟩
  | true=>
    obtain ⟨a1,rfl,ha⟩:=yF hm
    obtain ⟨b1,rfl,hb⟩:=yF hm2
    walk_at "l2"
    refine aH ho T.aL T.fk rfl ?_
    walk_at "l2"
    refine ⟨to,os,a1,b1,rfl,SqT.of ho2,ma.hs,by omega,g.b2,fun H2 s2=>?_⟩
    walk_at "l2"
    refine aH (s2.get ho) T.aL T.c8 rfl ?_
    walk_at "l2"
    refine ⟨tn,nx,a1,b1,rfl,SqT.of (s2.get hn),ma.hn.same s2,by omega,g.b1,fun H3 s3=>?_⟩
    walk_at "l2"
    intro t H4 f4 s4 e4
    exact qQ a1 b1 rfl rfl ha hb t H4 (s2.trans (s3.trans s4)) e4
theorem ly (T:Tx K mg a):FnOk P w K mg base (CX1 P w) 5 a.bj a.iI ["self","rows","state"] (XD K a.ag a.bT):=by
 have d8:=@gK P w K mg base a T
 have EA:=@zz P w K mg base a T
 refine T.fG.okX cQ (fun vs H Q E h=>?_) (fun cdv A outer s H vs Q E hr h=>?_)
 ·obtain ⟨p,rr,m,nx,os,x,xs,rfl,_⟩:=h;rfl
 ·obtain ⟨p,rr,m,nx,os,x,xs,rfl,ak,qQ,qE⟩:=h
  obtain ⟨dx,tn,to,ho,hn,ho2⟩:=ak.ma.ho
  obtain ⟨kx,hkx⟩:=ak.kx
  have ln:=ak.ln
  have hsq:=ak.sq
  refine ⟨_,((af (b8 (hU (pv 0) T.aL T.im d8 (hr.mono (by decide)) T.cN .nil g9 (aa (pv 2) ae)))
   (af (aW (i:=3) cQ.nd rfl (by walk_at "o") (fW ae))
   (af (fV (mf ⟨rfl,rfl⟩) rfl (aR (K:=K) rfl (pv 1)) (ax (i:=4) cQ.nd rfl (by walk_at "o")) (af (aW (i:=5) cQ.nd rfl (by walk_at "o") (hU (pv 0) T.aL T.C8 EA (hr.mono (by decide)) T.kO .nil g9 (aa (pv 2) (aa (pv 4) ae))))
   (af (b8 (iO (K:=K) rfl PySem.F.plainAttrs_list PySem.F.slot_list_append PySem.F.type_list_append lF (pv 3) (aa (bC (bg (K:=K) rfl) (pv 5) al (fun _ _=>rfl)) ae)))
   (aj (aW (i:=2) cQ.nd rfl (by walk_at "o") (bC (bg (K:=K) rfl) (pv 5) al (fun _ _=>rfl)))))))
   (aj (aM (gJ (aa (pv 3) (aa (pv 2) ae))))))))),az (σ':=[some _,some _,some _,none,none,none]) rfl ?_⟩
  walk_at "l2"
  refine fj ho rfl ?_
  walk_at "l2"
  refine ⟨p,m,nx,os,x,kx,rfl,ak.ma,hkx,fun hm=>?_,fun hm=>qE (.inl hm) H (Same.refl _)⟩
  obtain ⟨a0,rfl,ha0⟩:=yF hm
  walk_at "l2"
  intro D H1 f1 s1 e1
  walk_at "l2"
  refine jZ (xs:=xs) (fun i σ H'=>∃ (rs:List Nat) (v v':Option V),σ=[some (.ref p),some (.ref rr),some (nat (M.wst (prs nx) a0 rs)),some (.ref D),v,v']∧Same H H'∧H' D=some (.lst ((M.wan (prs nx) (prs os) a0 rs).map nat))∧xs.take i=rs.map nat∧∀ r∈rs,r < 2 ^ m) ⟨[],none,none,rfl,s1,e1,rfl,fun _ h=>absurd h (by simp)⟩ (fun i σ H' _ ⟨_,_,_,_,e,_⟩=>Same.seq e ak.sq) ?_ ?_
  ·rintro i y σ H' hy ⟨rs,v,v',rfl,s6,e6,et,hr6⟩
   obtain ⟨ky,hky⟩:=ak.ks y (List.mem_of_getElem? hy)
   have hi:=(List.getElem?_eq_some_iff.mp hy).1
   have lrs:rs.length=i:=by have:=congrArg List.length et;rw [List.length_take,List.length_map] at this;omega
   have hwst:M.wst (prs nx) a0 rs < 2 ^ nx.length:=by have:=M.wst_lt (ps:=prs nx) (rs:=rs) (x:=a0) (by rw [eZ];exact ha0);rwa [eZ] at this
   walk_at "l2"
   refine fj (s6.get ho) rfl ?_
   walk_at "l2"
   refine ⟨p,m,nx,os,nat (M.wst (prs nx) a0 rs),y,"int",ky,rfl,ak.ma.same s6,ak.g,rfl,JE hky s6,fun a1 b1 ea eb ha hb t H7 s7 e7=>?_,fun hbad=>?_⟩
   ·have ea:=z9 ea
    subst ea
    subst eb
    walk_at "l2"
    refine rX (s7.get e6) (by rw [List.length_map,M.wan_len,sizeLine_eq];omega) fun H8 u8=>?_
    have e8:=u8.oth _ _ (dB e7 (s7.get e6) (by simp)) e7
    walk_at "l2"
    refine ⟨rs++[b1],?_⟩
    rw [M.wst_snoc,M.wan_snoc,List.map_append]
    refine ⟨_,_,rfl,fun b o e=>u8.oth _ _ (ai e f1) (s7.get (s6.get e)),u8.at',?_,fun r hr'=>?_⟩
    ·rw [List.take_add_one,et,hy,List.map_append];rfl
    ·rcases List.mem_append.mp hr' with h | h
     ·exact hr6 r h
     ·rw [List.mem_singleton.mp h];exact hb
   ·rcases hbad with h | h
    ·rw [gj hwst] at h;cases h
    ·exact qE (.inr ⟨y,List.mem_of_getElem? hy,h⟩) H' s6
  ·rintro σ H' ⟨rs,v,v',rfl,s6,e6,et,hr6⟩
   rw [List.take_length] at et
   walk_at "l2"
   intro t H7 f7 s7 e7
   exact qQ a0 rs ⟨rfl,et,ha0,hr6⟩ t D H7 f1 (s6.trans s7) e7 (s7.get e6)
theorem qf (T:Tx K mg a):FnOk P w K mg base (CX1 P w) 6 a.bZ a.iX ["self","rows","state"] (adg K a.ag a.bT):=by
 have iN:=@ly P w K mg base a T
 refine T.gG.okX B7 (fun vs H Q E h=>?_) (fun cdv A outer s H vs Q E hr h=>?_)
 ·obtain ⟨p,rr,m,nx,os,x,xs,rfl,_⟩:=h;rfl
 ·obtain ⟨p,rr,m,nx,os,x,xs,rfl,ak,qQ,qE⟩:=h
  obtain ⟨dx,tn,to,ho,hn,ho2⟩:=ak.ma.ho
  refine ⟨_,((aj (aM (bC (bg (K:=K) rfl) (hU (pv 0) T.aL T.m8 iN (hr.mono (by decide)) T.fB .nil g9 (aa (pv 1) (aa (pv 2) ae))) al (fun _ _=>rfl))))),az (σ':=[some _,some _,some _]) rfl ?_⟩
  walk_at "l2"
  refine fj ho rfl ?_
  walk_at "l2"
  refine ⟨p,rr,m,nx,os,x,xs,rfl,ak,fun a1 rs g t D H2 fD s2 et eD=>?_,qE⟩
  walk_at "l2"
  exact qQ a1 rs g D H2 fD s2 eD
theorem xi (T:Tx K mg a):FnOk P w K mg base (CX1 P w) 6 a.bB a.gx ["self","rows","state"] (XZ K a.ag a.bT):=by
 have iN:=@ly P w K mg base a T
 refine T.d9.okX wZ (fun vs H Q E h=>?_) (fun cdv A outer s H vs Q E hr h=>?_)
 ·obtain ⟨p,rr,m,nx,os,x,xs,rfl,_⟩:=h;rfl
 ·obtain ⟨p,rr,m,nx,os,x,xs,rfl,ak,qQ,qE⟩:=h
  obtain ⟨dx,tn,to,ho,hn,ho2⟩:=ak.ma.ho
  refine ⟨_,((aj (aM (bC (bg (K:=K) rfl) (hU (pv 0) T.aL T.m8 iN (hr.mono (by decide)) T.fB .nil g9 (aa (pv 1) (aa (pv 2) ae))) al (fun _ _=>rfl))))),az (σ':=[some _,some _,some _]) rfl ?_⟩
  walk_at "l2"
  refine fj ho rfl ?_
  walk_at "l2"
  refine ⟨p,rr,m,nx,os,x,xs,rfl,ak,fun a1 rs g t D H2 fD s2 et eD=>?_,qE⟩
  walk_at "l2"
  exact qQ a1 rs g H2 s2
theorem ut (T:Tx K mg a):FnOk P w K mg base (CX1 P w) 7 a.bp a.iK ["self","which","turns"] (Tt K a.ag a.bT):=by
 have lW:=@qO P w K mg base a T
 have iY:=@qf P w K mg base a T
 refine T.fI.okX kT (fun vs H Q E h=>?_) (fun cdv A outer s H vs Q E hr h=>?_)
 ·obtain ⟨p,m,nx,os,x,k,T',rfl,_⟩:=h;rfl
 ·obtain ⟨p,m,nx,os,x,k,T',rfl,ma,g,hk,hT,qQ,qE⟩:=h
  obtain ⟨dx,tn,to,ho,hn,ho2⟩:=ma.ho
  have m6:=g.m6
  refine ⟨_,((af (fJ (PW.pt (qI (jm (gc (ar lW (hr.mono (by decide)) (by rfl) T.vm T.vi T.lV .nil aA (aa (pv 1) ae)))) (qI (bc Uu (pv 1) al (bu _)) (p9 (bc aei (pv 1) (aN (K:=K) rfl (pv 0) rfl) (bu _)))))) (aj (jT PySem.F.excBase_ValueError T.ij g9 rfl (by rfl) T.sP (aa bU ae))) bR)
   (af (aW (i:=3) kT.nd rfl (by walk_at "o") (aG lg (fW (aa (aG EZ al (pv 1)) ae)) (aG Z9 (fW (aa al ae)) (pv 2))))
   (aj (aM (hU (dvs:=[.int 0]) (pv 0) T.aL T.mr iY (hr.mono (by decide)) T.gH (.cons T.lY .nil) g9 (aa (o7 (o0 (K:=K) rfl) (pv 3) zb (qJ (pv 2))) ae))))))),az (σ':=[some _,some _,some _,none]) rfl ?_⟩
  walk_at "l2"
  cases x with
  | int i=>
    have hk:k="int":=hk
    subst hk
    walk_at "l2"
    by_cases h0:i < 0
    ·refine rW (decide_eq_true h0) ?_
     walk_at "l2"
     exact ⟨by rw [sizeLine_eq];decide,qE (by show (decide ((0:Int)≤i)&&decide (i < (m:Int)))=false;rw [decide_eq_false (by omega)];rfl)⟩
    ·refine iS (decide_eq_false h0) ?_
     walk_at "l2"
     refine aH ho T.aL T.cj rfl ?_
     walk_at "l2"
     by_cases h1:(m:Int)≤i
     ·refine rW (decide_eq_true h1) ?_
      walk_at "l2"
      exact ⟨by rw [sizeLine_eq];decide,qE (by show (decide ((0:Int)≤i)&&decide (i < (m:Int)))=false;rw [decide_eq_false (show ¬ i < (m:Int) by omega),Bool.and_false])⟩
     ·refine iS (decide_eq_false h1) ?_
      obtain ⟨j,rfl⟩:=Int.eq_ofNat_of_zero_le (show 0≤i by omega)
      walk_at "l2"
      rw [shl1]
      intro D1 H1 f1 s1 e1
      walk_at "l2"
      intro D2 H2 f2 s2 e2
      walk_at "l2"
      refine adr e2 (by omega) (by omega) (by rw [sizeLine_eq,Int.toNat_natCast];simp;omega) fun D3 H3 f3 s3 e3=>?_
      rw [Int.toNat_natCast,List.flatten_replicate_singleton] at e3
      refine ud (s3.get (s2.get e1)) e3 (by rw [List.length_replicate,sizeLine_eq];simp;omega) fun D4 H4 f4 s4 e4=>?_
      have er:[nat (2 ^ j)]++List.replicate T' (V.int 0)=(2 ^ j::List.replicate T' 0).map nat:=by rw [List.map_cons,List.map_replicate];rfl
      rw [er] at e4
      walk_at "l2"
      refine fj (s4.get (s3.get (s2.get (s1.get ho)))) rfl ?_
      walk_at "l2"
      intro D5 H5 f5 s5 e5
      rw [OU _ T' (by rw [List.length_map,List.length_cons,List.length_replicate];omega),← List.map_take,M.pulse_eq] at e5
      have s15:=s1.trans (s2.trans (s3.trans (s4.trans s5)))
      walk_at "l2"
      refine ⟨p,D5,m,nx,os,nat 0,(M.pulse j T').map nat,rfl,⟨ma.same s15,g,⟨"int",rfl⟩,SqL.of e5,Ob.nats _ _ _,by rw [List.length_map,M.pulse_len];omega⟩,fun a1 rs gd D H6 fD s6 eD=>?_,fun bad=>?_⟩
      ·obtain ⟨ea,ers,_,_⟩:=gd
       have ea:=z9 ea
       subst ea
       have ers:rs=M.pulse j T':=by
        have:=congrArg (List.map fun v:V=>match v with | .int i=>i.toNat | _=>0) ers
        rw [List.map_map,List.map_map] at this
        exact (this.symm.trans (List.map_id _)) ▸ (List.map_id _).symm ▸ rfl
       subst ers
       have fD0:H D=none:=by
        cases hx:H D with
        | none=>rfl
        | some v=>have:=s15.get hx;rw [fD] at this;cases this
       exact qQ j rfl (by omega) D H6 fD0 (s15.trans s6) eD
      ·rcases bad with h | ⟨y,hy,h⟩
       ·rw [show mq (nat 0) (nx.length:Int)=true from gj (Nat.two_pow_pos _)] at h;cases h
       ·obtain ⟨r,hr',rfl⟩:=List.mem_map.mp hy
        rw [gj (M.pulse_lt (show j < m by omega) T' r hr')] at h;cases h
  | bl b=>have hk:k="bool":=hk;subst hk;walk_at "l2";exact ⟨by rw [sizeLine_eq];decide,qE rfl⟩
  | non=>have hk:k="NoneType":=hk;subst hk;walk_at "l2";exact ⟨by rw [sizeLine_eq];decide,qE rfl⟩
  | str z=>have hk:k="str":=hk;subst hk;walk_at "l2";exact ⟨by rw [sizeLine_eq];decide,qE rfl⟩
  | ref p2=>
    rcases hk with ⟨rfl,_⟩ | ⟨rfl,_⟩ | ⟨rfl,_⟩<;>walk_at "l2"<;>exact ⟨by rw [sizeLine_eq];decide,qE rfl⟩
  | _=>exact False.elim hk
theorem zy (T:Tx K mg a):FnOk P w K mg base CX0 1 a.bO a.kK ["self"] (aaW a.ag):=by
 refine T.ig.ok y8 (fun vs H Q E h=>?_) (fun cdv A outer s H vs Q E hr h=>?_)
 ·obtain ⟨p,m,nx,os,rfl,_⟩:=h;rfl
 ·obtain ⟨p,m,nx,os,rfl,ma,g,q⟩:=h
  obtain ⟨dx,tn,to,ho,hn,ho2⟩:=ma.ho
  refine ⟨_,((aj (aM (gJ (aa (aN (K:=K) rfl (pv 0) rfl) (aa (aQ (cg (K:=K) rfl) (by rfl) T.gh PyProof.Rows.boot_list (aa (aN (K:=K) rfl (pv 0) rfl) ae)) (aa (aQ (cg (K:=K) rfl) (by rfl) T.gh PyProof.Rows.boot_list (aa (aN (K:=K) rfl (pv 0) rfl) ae)) ae))))))),az (σ':=[some _]) rfl ?_⟩
  walk_at "l2"
  refine aH ho T.aL T.cj rfl ?_
  walk_at "l2"
  refine aH ho T.aL T.c8 rfl ?_
  walk_at "l2"
  intro D1 H1 f1 s1 e1
  have ho3:=s1.get ho2
  walk_at "l2"
  refine aH (s1.get ho) T.aL T.fk rfl ?_
  walk_at "l2"
  intro D2 H2 f2 s2 e2
  walk_at "l2"
  intro t H3 f3 s3 e3
  have f2':H D2=none:=by
   cases hx:H D2 with
   | none=>rfl
   | some v=>have:=s1.get hx;rw [f2] at this;cases this
  exact q t D1 D2 H3 f1 f2' (ai e1 f2) (s1.trans (s2.trans s3)) e3 (s3.get (s2.get e1)) (s3.get e2)
theorem sj (T:Tx K mg a):FnOk P w K mg base CX0 1 a.a9 a.gY ["self"] (Pu a.ag):=by
 refine T.eV.ok rU (fun vs H Q E h=>?_) (fun cdv A outer s H vs Q E hr h=>?_)
 ·obtain ⟨p,m,nx,os,rfl,_⟩:=h;rfl
 ·obtain ⟨p,m,nx,os,rfl,ma,q⟩:=h
  obtain ⟨dx,tn,to,ho,hn,ho2⟩:=ma.ho
  refine ⟨_,((aj (aM (aD (aK (K:=K) rfl) (by rfl) T.fc PySem.boot_len (aa (aN (K:=K) rfl (pv 0) rfl) ae))))),az (σ':=[some _]) rfl ?_⟩
  walk_at "l2"
  refine aH ho T.aL T.fk rfl ?_
  walk_at "l2"
  unfold refs
  rw [List.length_map]
  exact q
end
section
variable {P:Program} {w:World} {K:PySem.W.Frag} {mg:Str→Option Value} {base:Heap} {a:Ad}
local macro_rules | `(tactic| walk_at "l2step") =>`(tactic| first | ((with_reducible refine' fN ?e ?_);(case e=>walk_at "l2kind")) | ((with_reducible refine' jI ?e ?_);(case e=>walk_at "l2kind")) | (with_reducible refine dh ?_) | (with_reducible refine gb ?_))
theorem Yg (T:Tx K mg a):FnOk P w K mg base CX0 4 a.my a.Nq ["net"] (XT (NAof a)):=by
 have fP:=@iQ P w K mg base a T
 have dz:=@qe P w K mg base a T
 have HP:=@Cm P w K mg base a T
 have Ey:=@zu P w K mg base a T
 have yy:=@uq P w K mg base a T
 refine T.HR.ok FD (fun vs H Q E h=>?_) (fun cdv A outer s H vs Q E hr h=>?_)
 ·obtain ⟨p,N,od,rfl,_⟩:=h;rfl
 ·obtain ⟨p,N,od,rfl,na,q⟩:=h
  have hu:=DO hr
  obtain ⟨dx,i,s,t,o,d,tq,rs,qs,ws,hp,kp,wi,eq⟩:=na.ho
  have g:=na.g
  have tp:=na.tp
  have nl:=Gr g tp
  have hg:=M3 g tp
  refine ⟨_,((af (aW (i:=1) FD.nd rfl (by walk_at "o") yE)
   (af (fV PassesOwn.never rfl (aR (K:=K) rfl (cf (pv 0) T.de T.jB fP (hr.mono (by decide)) T.dy .nil aA)) (ax (i:=2) FD.nd rfl (by walk_at "o")) (aj (Ll hu (pv 1) (pv 2) (PE.or (gf (gf (pv 0) T.de T.eI dz (hr.mono (by decide)) T.cM .nil aA (aa (pv 2) ae)) T.mW T.Gx HP (hr.mono (by decide)) T.mO .nil aA (aa (pv 1) ae)) (PE.or (gf (gf (pv 0) T.de T.eI dz (hr.mono (by decide)) T.cM .nil aA (aa (pv 2) ae)) T.jO T.C6 Ey (hr.mono (by decide)) T.kM .nil aA (aa (pv 1) ae)) (gf (gf (pv 0) T.de T.eI dz (hr.mono (by decide)) T.cM .nil aA (aa (pv 2) ae)) T.ee T.xM yy (hr.mono (by decide)) T.iL .nil aA (aa (pv 1) ae)))) rfl)))
   (aj (aM (pv 1)))))),az (σ':=[some _,none,none]) rfl ?_⟩
  walk_at "l2"
  intro Db H1 f1 s1 e1
  have hp1:=s1.get hp
  walk_at "l2"
  refine aV hp1 rfl ?_
  walk_at "l2"
  refine ⟨p,N,od,rfl,na.same s1,fun D2 H2 f2 s2 e2=>?_⟩
  have s02:=s1.trans s2
  walk_at "l2"
  refine jZ (xs:=(need N od).map V.str) (fun i σ H'=>∃ v hs,σ=[some (.ref p),some (.ref Db),v]∧Same H H'∧H' D2=some (.lst ((need N od).map V.str))∧Hgd H' Db N ((need N od).take i) hs) ⟨none,[],rfl,s02,e2,s2.get e1,rfl,fun _ h=>by cases h⟩ (fun i σ H' _ ⟨_,_,_,_,e',_⟩=>SqL.of e') ?_ ?_
  ·rintro i y σ H' hy ⟨v,hs,rfl,s',eD,hd⟩
   obtain ⟨z,hz,rfl⟩:=aC hy
   have hlt:=(List.getElem?_eq_some_iff.mp hz).1
   have hzn:=(jW g tp z).mp (List.mem_of_getElem? hz)
   have hp':=s'.get hp
   have na':=na.same s'
   obtain ⟨nd1,nd2,nd3,x1,x2,x3⟩:=mn g
   have hnot:=z7 g tp hz
   have lk:(hs.map fun q=>((Sum.inr q.1:Key),V.ref q.2)).length≤1000:=by
    have:=congrArg List.length hd.nm
    rw [List.length_map,List.length_take] at this
    rw [List.length_map];omega
   have fin:∀ (t:Addr) (H4 H5:Hp),Same H' H4→H4 t=some (.tup [nat (hgp N z).1,nat (hgp N z).2])→Upd H4 H5 Db (.dK (putK (hs.map fun q=>((Sum.inr q.1:Key),V.ref q.2)) (Sum.inr z) (.ref t)))→∃ hs',Same H H5∧H5 D2=some (.lst ((need N od).map V.str))∧Hgd H5 Db N ((need N od).take (i + 1)) hs':=fun t H4 H5 s4 et u5=>by
    rw [Lk (zs:=(need N od).take i) (by rw [List.map_map,← hd.nm,List.map_map];rfl) hnot] at u5
    have ed4:=s4.get hd.d
    refine ⟨hs++[(z,t)],fun bb o e=>u5.oth _ _ (ai e f1) (s4.get (s'.get e)),u5.oth _ _ (dB (s4.get eD) ed4 fun z=>by cases z) (s4.get eD),by rw [List.map_append];exact u5.at',by rw [List.map_append,hd.nm,take_succ hz];rfl,fun q hq=>?_⟩
    rcases List.mem_append.mp hq with h | h
    ·have e4:=s4.get (hd.ob q h)
     exact u5.oth _ _ (dB e4 ed4 fun z=>by cases z) e4
    ·rw [List.mem_singleton.mp h]
     exact u5.oth _ _ (dB et ed4 fun z=>by cases z) et
   walk_at "l2"
   have hzn':=hzn
   unfold Nt.names at hzn'
   rcases List.mem_append.mp hzn' with h' | h'
   ·rcases List.mem_append.mp h' with h' | h'
    ·refine Or.inl ?_
     walk_at "l2"
     refine aV hp' rfl ?_
     walk_at "l2"
     refine ⟨p,N,od,z,rfl,na',hzn,fun w H3 s3 wb=>?_⟩
     cases wb with
     | i k dx' hk e=>
       have hkl:=(List.getElem?_eq_some_iff.mp hk).1
       have:=g.li
       walk_at "l2"
       refine aV e rfl ?_
       walk_at "l2"
       refine ⟨w,dx',.str z,(k:Int),.ref Db,rfl,e,by omega,by omega,fun t H4 s4 et=>?_⟩
       rw [shl1] at et
       have et':H4 t=some (.tup [nat (hgp N z).1,nat (hgp N z).2]):=by rw [hg.i k z hk];exact et
       walk_at "l2"
       refine qH (s4.get (s3.get hd.d)) (aP lk) fun H5 u5=>?_
       obtain ⟨hs',a1,a2,a3⟩:=fin t H4 H5 (s3.trans s4) et' u5
       walk_at "l2"
       exact ⟨_,hs',rfl,a1,a2,a3⟩
     | s ws' dx' tw hk e et=>exact absurd (List.mem_map.mpr ⟨_,hk,rfl⟩) (x1 z h')
     | t k y dx' hk e=>exact absurd (List.mem_map.mpr ⟨_,List.mem_of_getElem? hk,rfl⟩) (x2 z h')
    ·refine Or.inr (Or.inl ?_)
     walk_at "l2"
     refine aV hp' rfl ?_
     walk_at "l2"
     refine ⟨p,N,od,z,rfl,na',hzn,fun w H3 s3 wb=>?_⟩
     cases wb with
     | i k dx' hk e=>exact absurd h' (x1 z (List.mem_of_getElem? hk))
     | s ws' dx' tw hk e et=>
       have hat:=Ms g tp hz ws' hk
       have hd3:=hd.same s3
       walk_at "l2"
       refine aV e rfl ?_
       walk_at "l2"
       refine ⟨w,dx',.str z,tw,Db,ws',_,fun y=>(((hgp N y).1:Nat):Int),fun y=>(((hgp N y).2:Nat):Int),rfl,e,SqT.of et,hd3.d,fun y hy=>(by obtain ⟨t,t1,t2⟩:=hd3.val (hat y hy);exact ⟨t,t1,SqT.of t2⟩),fun t H4 s4 et4=>?_⟩
       rw [VJ,VJ] at et4
       have et':H4 t=some (.tup [nat (hgp N z).1,nat (hgp N z).2]):=by rw [hg.s z ws' hk];exact et4
       walk_at "l2"
       refine qH (s4.get hd3.d) (aP lk) fun H5 u5=>?_
       obtain ⟨hs',a1,a2,a3⟩:=fin t H4 H5 (s3.trans s4) et' u5
       walk_at "l2"
       exact ⟨_,hs',rfl,a1,a2,a3⟩
     | t k y dx' hk e=>exact absurd (List.mem_map.mpr ⟨_,List.mem_of_getElem? hk,rfl⟩) (x3 z h')
   ·refine Or.inr (Or.inr ?_)
    walk_at "l2"
    refine aV hp' rfl ?_
    walk_at "l2"
    refine ⟨p,N,od,z,rfl,na',hzn,fun w H3 s3 wb=>?_⟩
    cases wb with
    | i k dx' hk e=>exact absurd h' (x2 z (List.mem_of_getElem? hk))
    | s ws' dx' tw hk e et=>exact absurd h' (x3 z (List.mem_map.mpr ⟨_,hk,rfl⟩))
    | t k y dx' hk e=>
      have hkl:=(List.getElem?_eq_some_iff.mp hk).1
      have:=g.lt
      walk_at "l2"
      refine aV e rfl ?_
      walk_at "l2"
      refine ⟨w,dx',.str z,.str y,(k:Int),.ref Db,rfl,e,by omega,by omega,fun t H4 s4 et=>?_⟩
      rw [shl1] at et
      have et':H4 t=some (.tup [nat (hgp N z).1,nat (hgp N z).2]):=by rw [hg.t k z y hk];exact et
      walk_at "l2"
      refine qH (s4.get (s3.get hd.d)) (aP lk) fun H5 u5=>?_
      obtain ⟨hs',a1,a2,a3⟩:=fin t H4 H5 (s3.trans s4) et' u5
      walk_at "l2"
      exact ⟨_,hs',rfl,a1,a2,a3⟩
  ·rintro σ H' ⟨v,hs,rfl,s',eD,hd⟩
   rw [List.length_map,List.take_length] at hd
   walk_at "l2"
   exact q Db H' hs f1 s' hd
theorem LF (T:Tx K mg a):FnOk P w K mg base CX0 7 a.eK a.vx ["net"] (XH (NAof a) a.ag):=by
 have acB:=@Yg P w K mg base a T
 have dE:=@gX P w K mg base a T
 have d7:=@iD P w K mg base a T
 have fz:=@jv P w K mg base a T
 have tN:=@qS P w K mg base a T
 refine T.pA.ok l0 (fun vs H Q E h=>?_) (fun cdv A outer s H vs Q E hr h=>?_)
 ·obtain ⟨p,N,od,rfl,_⟩:=h;rfl
 ·obtain ⟨p,N,od,rfl,na,q⟩:=h
  have hu:=DO hr
  obtain ⟨dx,i,s,t,o,d,tq,rs,qs,ws,hp,kp,wi,eq⟩:=na.ho
  have g:=na.g
  have tp:=na.tp
  have lt:=g.lt
  have lo:=g.lo
  have li:=g.li
  refine ⟨_,((af (aW (i:=1) l0.nd rfl (by walk_at "o") (ar acB (hr.mono (by decide)) (by rfl) T.ab8 T.ab2 T.NO .nil aA (aa (pv 0) ae)))
   (af (c6 (osc:=ad fR) (ON:=["net","pairs","nexts","outs"]) (N:=["row","pairs"]) (n:=1) (fx:=[1]) (i:=2) l0.nd rfl rfl rfl rfl rfl rfl (by decide +kernel) (aR (K:=K) rfl (cf (pv 0) T.de T.iF dE (hr.mono (by decide)) T.dD .nil aA)) (aF (by decide)) (fun _ _ _ _ _=>⟨(ax (i:=0) (show List.Nodup (["row","pairs"]:List Str) from by decide +kernel) rfl (by walk_at "o")),bx,(uj hu (pv 1) (bC (bg (K:=K) rfl) (pv 0) al (fun _ _=>rfl)) (fun _ _=>rfl))⟩))
   (af (c6 (osc:=ad fR) (ON:=["net","pairs","nexts","outs"]) (N:=["wire","pairs"]) (n:=1) (fx:=[1]) (i:=3) l0.nd rfl rfl rfl rfl rfl rfl (by decide +kernel) (aR (K:=K) rfl (cf (pv 0) T.de T.jA d7 (hr.mono (by decide)) T.d5 .nil aA)) (aF (by decide)) (fun _ _ _ _ _=>⟨(ax (i:=0) (show List.Nodup (["wire","pairs"]:List Str) from by decide +kernel) rfl (by walk_at "o")),bx,(uj hu (pv 1) (pv 0) (fun _ _=>rfl))⟩))
   (aj (aM (me T.WH tN (hr.mono (by decide)) (by rfl) T.VF T.gB .nil aA (aa (aD (aK (K:=K) rfl) (by rfl) T.fc PySem.boot_len (aa (cf (pv 0) T.de T.kD fz (hr.mono (by decide)) T.fq .nil aA) ae)) (aa (pv 2) (aa (pv 3) ae)))))))))),az (σ':=[some _,none,none,none]) rfl ?_⟩
  walk_at "l2"
  refine ⟨p,N,od,rfl,na,fun Dd H1 hs f1 s1 hd=>?_⟩
  walk_at "l2"
  refine aV (s1.get hp) rfl ?_
  walk_at "l2"
  refine ⟨p,N,od,rfl,na.same s1,fun D2 H2 qs2 f2 s2 e2 qk et=>?_⟩
  have s02:=s1.trans s2
  have hd2:=hd.same s2
  have lq:qs2.length=N.sts.length:=by rw [← et,List.length_map]
  have qsl:∀ {k:Nat} {r:Qs},qs2[k]? =some r→(N.sts.map (·.2))[k]? =some r.2.2:=fun {k r} h=>by rw [← et,List.getElem?_map,List.getElem?_map,h];rfl
  walk_at "l2"
  intro D3 hD3
  refine aX (xs:=qs2.map fun r=>V.ref r.1) (fun i ys H'=>∃ nx:List Pr3,ys=refs nx∧Same H2 H'∧H' D3=some (.lst ys)∧Prt H2 nx∧prs nx=((N.sts.map (·.2)).take i).map (hgp N)) ⟨[],rfl,bf hD3,av,fun _ h=>(by cases h),rfl⟩ (fun i ys H' _ ⟨_,_,s',_⟩=>SqL.of (s'.get e2)) ?_ ?_
  ·rintro i y ys H' hy ⟨nx,rfl,s',e',pt,ep⟩
   obtain ⟨r,hr',rfl⟩:=aC hy
   have hlt:=(List.getElem?_eq_some_iff.mp hr').1
   have er:=s'.get (qk r (List.mem_of_getElem? hr'))
   have hst:=qsl hr'
   have hin:r.2.2∈need N od:=(jW g tp _).mpr (by obtain ⟨q',hq',e'⟩:=List.mem_map.mp (List.mem_of_getElem? hst);rw [← e'];exact g.ts q' hq')
   obtain ⟨tt,v1,v2⟩:=hd2.val hin
   have ln:nx.length=i:=by have:=congrArg List.length ep;rw [List.length_map,List.length_map,List.length_take,List.length_map] at this;omega
   walk_at "l2"
   refine uc (s'.get hd2.d) v1 ?_
   walk_at "l2"
   refine ⟨e',by rw [jS];exact aP (by omega),nx++[(tt,hgp N r.2.2)],by unfold refs;rw [List.map_append];rfl,fun b ob e=>?_,av,fun q' hq'=>?_,?_⟩
   ·rw [aB (ai e hD3)];exact s'.get e
   ·rcases List.mem_append.mp hq' with h | h
    ·exact pt q' h
    ·rw [List.mem_singleton.mp h];exact v2
   ·show List.map _ (nx++_)=_
    rw [List.map_append,show nx.map (·.2)=_ from ep,take_succ hst,List.map_append];rfl
  ·rintro ys H3 ⟨nx,rfl,s3,e3,pn,en⟩
   rw [List.length_map,lq,List.take_of_length_le (by rw [List.length_map];exact Nat.le_refl _)] at en
   have pn3:=pn.same s3
   have hd3:=hd2.same s3
   have s03:=s02.trans s3
   clear e2 qk et qsl pn f2
   walk_at "l2"
   refine aV (s03.get hp) rfl ?_
   walk_at "l2"
   refine ⟨p,N,od,rfl,na.same s03,fun D4 H4 f4 s4 e4=>?_⟩
   have hd4:=hd3.same s4
   walk_at "l2"
   intro D5 hD5
   refine aX (xs:=N.outs.map V.str) (fun i ys H'=>∃ nx:List Pr3,ys=refs nx∧Same H4 H'∧H' D5=some (.lst ys)∧Prt H4 nx∧prs nx=(N.outs.take i).map (hgp N)) ⟨[],rfl,bf hD5,av,fun _ h=>(by cases h),rfl⟩ (fun i ys H' _ ⟨_,_,s',_⟩=>SqL.of (s'.get e4)) ?_ ?_
   ·rintro i y ys H' hy ⟨nx,rfl,s',e',pt,ep⟩
    obtain ⟨z,hz,rfl⟩:=aC hy
    have hlt:=(List.getElem?_eq_some_iff.mp hz).1
    have hin:z∈need N od:=(jW g tp _).mpr (g.os z (List.mem_of_getElem? hz))
    obtain ⟨tt,v1,v2⟩:=hd4.val hin
    have ln:nx.length=i:=by have:=congrArg List.length ep;rw [List.length_map,List.length_map,List.length_take] at this;omega
    walk_at "l2"
    refine uc (s'.get hd4.d) v1 ?_
    walk_at "l2"
    refine ⟨e',by rw [jS];exact aP (by omega),nx++[(tt,hgp N z)],by unfold refs;rw [List.map_append];rfl,fun b ob e=>?_,av,fun q' hq'=>?_,?_⟩
    ·rw [aB (ai e hD5)];exact s'.get e
    ·rcases List.mem_append.mp hq' with h | h
     ·exact pt q' h
     ·rw [List.mem_singleton.mp h];exact v2
    ·show List.map _ (nx++_)=_
     rw [List.map_append,show nx.map (·.2)=_ from ep,take_succ hz,List.map_append];rfl
   ·rintro ys H5 ⟨os,rfl,s5,e5,po,eo⟩
    rw [List.length_map,List.take_length] at eo
    have s35:=s4.trans s5
    have s05:=s03.trans s35
    have po5:=po.same s5
    have pn5:=pn3.same s35
    have e35:=s35.get e3
    have lnx:nx.length=N.sts.length:=by have:=congrArg List.length en;rw [List.length_map,List.length_map,List.length_map] at this;exact this
    have los:os.length=N.outs.length:=by have:=congrArg List.length eo;rw [List.length_map,List.length_map] at this;exact this
    have bds:∀ q∈nx++os,q.2.1 < 2 ^ nx.length∧q.2.2 < 2 ^ N.ins.length:=fun q' hq'=>by
     have:∃ z,q'.2=hgp N z:=by
      rcases List.mem_append.mp hq' with h | h
      ·have:q'.2∈prs nx:=List.mem_map.mpr ⟨q',h,rfl⟩
       rw [en] at this
       obtain ⟨z,_,e⟩:=List.mem_map.mp this
       exact ⟨z,e.symm⟩
      ·have:q'.2∈prs os:=List.mem_map.mpr ⟨q',h,rfl⟩
       rw [eo] at this
       obtain ⟨z,_,e⟩:=List.mem_map.mp this
       exact ⟨z,e.symm⟩
     obtain ⟨z,e⟩:=this
     rw [e,lnx]
     exact ⟨aeL N z,aeK N z⟩
    clear e4 f4
    walk_at "l2"
    refine aV (s05.get hp) rfl ?_
    walk_at "l2"
    refine ⟨p,N,od,rfl,na.same s05,fun D6 H6 f6 s6 e6=>?_⟩
    walk_at "l2"
    rw [List.length_map]
    intro x dx7 H7 f7 s7 e7
    have s57:=s6.trans s7
    refine ⟨x,dx7,D3,D5,N.ins.length,nx,os,rfl,e7,⟨li,s57.get e35,s57.get e5,pn5.same s57,po5.same s57,by omega,by omega,bds⟩,fun H8 k8 ma=>⟨rfl,?_⟩⟩
    have s68:Same H6 H8:=fun b ob e=>k8 _ _ (ai e f7) (s7.get e)
    exact q x H8 nx os (s05.free (s6.free f7)) (s05.trans (s6.trans s68)) ma ⟨li,by omega,by omega,bds⟩ en eo
end
section
variable {P:Program} {w:World} {K:PySem.W.Frag} {mg:Str→Option Value} {base:Heap} {a:Ad}
local macro_rules | `(tactic| walk_at "l2step") =>`(tactic| first | ((with_reducible refine' fN ?e ?_);(case e=>walk_at "l2kind")) | ((with_reducible refine' jI ?e ?_);(case e=>walk_at "l2kind")) | (with_reducible refine dh ?_) | (with_reducible refine gb ?_))
local macro_rules | `(tactic| walk_at "l2step") =>`(tactic| first | (with_reducible refine ZN ?_) | (with_reducible refine afx ?_))
theorem LI (T:Tx K mg a):FnOk P w K mg base CX0 1 a.eP a.vA ["letter","count"] aa2:=by
 refine T.pD.ok Ld (fun vs H Q E h=>?_) (fun cdv A outer s H vs Q E hr h=>?_)
 ·obtain ⟨l,n,rfl,_⟩:=h;rfl
 ·obtain ⟨l,n,rfl,hl,hn,q⟩:=h
  refine ⟨_,((aj (aM (ci (osc:=ad gO) (ON:=["letter","count"]) (N:=["number","letter"]) (n:=1) (fx:=[0]) rfl rfl rfl (by decide +kernel) (ge (by rfl) T.kC (aa (pv 1) ae)) (aF (by decide)) (fun _ _ _ _ _=>⟨(ax (i:=0) (show List.Nodup (["number","letter"]:List Str) from by decide +kernel) rfl (by walk_at "o")),bx,(aG lh (pv 1) (aQ j7 (by rfl) T.UV PyProof.Rows.boot_str (aa (pv 0) ae)))⟩))))),az (σ':=[some _,some _]) rfl ?_⟩
  walk_at "l2"
  rw [Int.toNat_natCast]
  intro D hD
  refine g5 (fun i ys H'=>Cs (fun i ys=>ys=(nmb l i).map V.str) H D i ys H') (Cs.zero hD rfl) (fun i ys H' hi c=>?_) (fun ys H' c=>?_)
  ·walk_at "l2"
   rw [Int.zero_add]
   refine ⟨Zl (by omega),l,tx i,rfl,rfl,Wb hl (by omega),?_⟩
   refine Cs.put hD c.same c.at' c.len (by omega) ?_
   rw [c.pv,Ym,List.map_append];rfl
  ·have e:=c.at'
   rw [c.pv] at e
   walk_at "l2"
   exact q D H' hD c.same e
theorem IN (T:Tx K mg a):FnOk P w K mg base CX0 2 a.dm a.rB ["name","pair"] aa3:=by
 have tL:=@E3 P w K mg base a T
 refine T.mS.ok wc (fun vs H Q E h=>?_) (fun cdv A outer s H vs Q E hr h=>?_)
 ·obtain ⟨z,t,x,y,rfl,_⟩:=h;rfl
 ·obtain ⟨z,t,x,y,rfl,et,hx,hy,q⟩:=h
  have pb:∀ {m k i:Nat},(M.pl 1000 m)[i]? =some k→k < 1000∧i < 1000:=fun {m k i} h=>by
   have a1:=List.mem_range.mp (List.mem_filter.mp (List.mem_of_getElem? h)).1
   have a2:=(List.getElem?_eq_some_iff.mp h).1
   have a3:=M.pl_le 1000 m
   omega
  have l1:=M.pl_le 1000 x
  have l2':=M.pl_le 1000 y
  refine ⟨_,((af (c6 (osc:=ad dX) (ON:=["name","pair","stores"]) (N:=["place"]) (n:=1) (fx:=[]) (i:=2) wc.nd rfl rfl rfl rfl rfl rfl (by decide +kernel) (aR (K:=K) rfl (ar tL (hr.mono (by decide)) (by rfl) T.AL T.AH T.oQ .nil aA (aa (bC (bg (K:=K) rfl) (pv 1) al (fun _ _=>rfl)) ae))) (aF (by decide)) (fun _ _ _ _ _=>⟨(ax (i:=0) (show List.Nodup (["place"]:List Str) from by decide +kernel) rfl (by walk_at "o")),bx,(aG lh bU (aQ j7 (by rfl) T.UV PyProof.Rows.boot_str (aa (pv 0) ae)))⟩))
   (aj (aM (gJ (aa (pv 0) (aa (aG lg (pv 2) (ci (osc:=ad dX) (ON:=["name","pair","stores"]) (N:=["place"]) (n:=1) (fx:=[]) rfl rfl rfl (by decide +kernel) (aR (K:=K) rfl (ar tL (hr.mono (by decide)) (by rfl) T.AL T.AH T.oQ .nil aA (aa (bC (bg (K:=K) rfl) (pv 1) al (fun _ _=>rfl)) ae))) (aF (by decide)) (fun _ _ _ _ _=>⟨(ax (i:=0) (show List.Nodup (["place"]:List Str) from by decide +kernel) rfl (by walk_at "o")),bx,(aG lh bU (aQ j7 (by rfl) T.UV PyProof.Rows.boot_str (aa (pv 0) ae)))⟩))) ae))))))),az (σ':=[some _,some _,none]) rfl ?_⟩
  walk_at "l2"
  refine ⟨x,rfl,hx,fun D1 H1 f1 s1 e1=>?_⟩
  walk_at "l2"
  intro D2 hD2
  refine aX (xs:=(M.pl 1000 x).map nat) (fun i ys H'=>Cs (fun i ys=>ys=(((M.pl 1000 x).take i).map fun k=>("s":Str)++tx k).map V.str) H1 D2 i ys H') (Cs.zero hD2 rfl) (fun i ys H' _ c=>SqL.of (c.same.get e1)) (fun i v ys H' hv c=>?_) (fun ys H2 c=>?_)
  ·obtain ⟨k,hk,rfl⟩:=aC hv
   have b1:=pb hk
   walk_at "l2"
   refine ⟨Zl (by omega),"s",tx k,rfl,rfl,Wb (by decide +kernel) (by omega),?_⟩
   refine Cs.put hD2 c.same c.at' c.len (by omega) ?_
   rw [c.pv,take_succ hk,List.map_append,List.map_append];rfl
  ·have e2:=c.at'
   rw [c.pv,List.length_map,List.take_length] at e2
   have s12:=c.same
   have s02:=s1.trans s12
   clear c
   walk_at "l2"
   refine ⟨y,rfl,hy,fun D3 H3 f3 s3 e3=>?_⟩
   walk_at "l2"
   intro D4 hD4
   refine aX (xs:=(M.pl 1000 y).map nat) (fun i ys H'=>Cs (fun i ys=>ys=(((M.pl 1000 y).take i).map fun k=>("i":Str)++tx k).map V.str) H3 D4 i ys H') (Cs.zero hD4 rfl) (fun i ys H' _ c=>SqL.of (c.same.get e3)) (fun i v ys H' hv c=>?_) (fun ys H4 c=>?_)
   ·obtain ⟨k,hk,rfl⟩:=aC hv
    have b1:=pb hk
    walk_at "l2"
    refine ⟨Zl (by omega),"i",tx k,rfl,rfl,Wb (by decide +kernel) (by omega),?_⟩
    refine Cs.put hD4 c.same c.at' c.len (by omega) ?_
    rw [c.pv,take_succ hk,List.map_append,List.map_append];rfl
   ·have e4:=c.at'
    rw [c.pv,List.length_map,List.take_length] at e4
    have s24:=s3.trans c.same
    clear c
    refine ud (s24.get e2) e4 (by rw [List.length_map,List.length_map,List.length_map,List.length_map,sizeLine_eq];omega) fun D5 H5 f5 s5 e5=>?_
    rw [← List.map_append] at e5
    walk_at "l2"
    intro tt H6 f6 s6 e6
    exact q tt D5 H6 ((s02.trans s24).free f5) (s02.trans (s24.trans (s5.trans s6))) e6 (s6.get e5)
theorem UA (T:Tx K mg a):FnOk P w K mg base CX0 7 a.iV a.G8 ["machine"] (XM (NAof a) a.ag):=by
 have pq:=@LI P w K mg base a T
 have Oe:=@IN P w K mg base a T
 have ny:=@ur P w K mg base a T
 have v0:=@sj P w K mg base a T
 have fA:=@jw P w K mg base a T
 refine T.yJ.ok kS (fun vs H Q E h=>?_) (fun cdv A outer s H vs Q E hr h=>?_)
 ·obtain ⟨p,m,nx,os,rfl,_⟩:=h;rfl
 ·obtain ⟨p,m,nx,os,rfl,ma,sl,q⟩:=h
  have lp:=sl.lp
  have lo:=sl.lo
  have m6:=sl.m6
  rw [eZ] at lp lo
  obtain ⟨dx,tn,to,hp,hn,ho⟩:=ma.ho
  have pn:=ma.hn
  have po:=ma.hs
  have sln:("n":Str).length≤10:=by decide +kernel
  have slo:("o":Str).length≤10:=by decide +kernel
  have sls:("s":Str).length≤10:=by decide +kernel
  have sli:("i":Str).length≤10:=by decide +kernel
  refine ⟨_,((af (aW (i:=1) kS.nd rfl (by walk_at "o") (ar pq (hr.mono (by decide)) (by rfl) T.pf T.pe T.jg .nil aA (aa bU (aa (cf (pv 0) T.aL T.m9 ny (hr.mono (by decide)) T.fC .nil aA) ae))))
   (af (aW (i:=2) kS.nd rfl (by walk_at "o") (ar pq (hr.mono (by decide)) (by rfl) T.pf T.pe T.jg .nil aA (aa bU (aa (cf (pv 0) T.aL T.uP v0 (hr.mono (by decide)) T.g7 .nil aA) ae))))
   (af (aW (i:=3) kS.nd rfl (by walk_at "o") (aG lg (aQ (cg (K:=K) rfl) (by rfl) T.gh PyProof.Rows.boot_list (aa (aN (K:=K) rfl (pv 0) rfl) ae)) (aQ (cg (K:=K) rfl) (by rfl) T.gh PyProof.Rows.boot_list (aa (aN (K:=K) rfl (pv 0) rfl) ae))))
   (af (c6 (osc:=ad l9) (ON:=["machine","next_names","out_names","pairs","sums","stores"]) (N:=["name","pair"]) (n:=2) (fx:=[]) (i:=4) kS.nd rfl rfl rfl rfl rfl rfl (by decide +kernel) (Uk (K:=K) rfl (by rfl) T.Yp (aG lg (pv 1) (pv 2)) (pv 3)) (AJ (dQ (aF (by decide)) (dQ (aF (by decide)) rn))) (fun _ _ _ _ _=>⟨(qM (K:=K) (n:=2) rfl rfl (b5 (ax (i:=0) (show List.Nodup (["name","pair"]:List Str) from by decide +kernel) rfl (by walk_at "o")) (b5 (ax (i:=1) (show List.Nodup (["name","pair"]:List Str) from by decide +kernel) rfl (by walk_at "o")) jo))),bx,(ar Oe (hr.mono (by decide)) (by rfl) T.M5 T.MY T.rL .nil aA (aa (pv 0) (aa (pv 1) ae)))⟩))
   (af (aW (i:=5) kS.nd rfl (by walk_at "o") (Qb (K:=K) rfl rfl (by rfl) (by rfl) T.gh T.Yp (ar pq (hr.mono (by decide)) (by rfl) T.pf T.pe T.jg .nil aA (aa bU (aa (cf (pv 0) T.aL T.m9 ny (hr.mono (by decide)) T.fC .nil aA) ae))) (pv 1)))
   (aj (aM (me T.acy fA (hr.mono (by decide)) (by rfl) T.ab9 T.fu .nil aA (aa (ar pq (hr.mono (by decide)) (by rfl) T.pf T.pe T.jg .nil aA (aa bU (aa (aN (K:=K) rfl (pv 0) rfl) ae))) (aa (pv 4) (aa (pv 5) (aa (pv 2) ae))))))))))))),az (σ':=[some _,none,none,none,none,none]) rfl ?_⟩
  walk_at "l2"
  refine aV hp rfl ?_
  walk_at "l2"
  refine ⟨p,m,nx,os,rfl,ma,?_⟩
  walk_at "l2"
  refine ⟨"n",nx.length,rfl,sln,by omega,fun D1 H1 f1 s1 e1=>?_⟩
  walk_at "l2"
  refine aV (s1.get hp) rfl ?_
  walk_at "l2"
  refine ⟨p,m,nx,os,rfl,ma.same s1,?_⟩
  walk_at "l2"
  refine ⟨"o",os.length,rfl,slo,by omega,fun D2 H2 f2 s2 e2=>?_⟩
  have s02:=s1.trans s2
  have hn2:=s02.get hn
  have ho2:=s02.get ho
  have hp2:=s02.get hp
  walk_at "l2"
  refine aH hp2 T.aL T.c8 rfl ?_
  walk_at "l2"
  intro D3 H3 f3 s3 e3
  walk_at "l2"
  refine aH (s3.get hp2) T.aL T.fk rfl ?_
  have ho3:=s3.get ho2
  walk_at "l2"
  intro D4 H4 f4 s4 e4
  refine ud (s4.get e3) e4 (by rw [jS,jS,sizeLine_eq];omega) fun D5 H5 f5 s5 e5=>?_
  have e5:H5 D5=some (.lst (refs (nx++os))):=by unfold refs;rw [List.map_append];exact e5
  have s25:=s3.trans (s4.trans s5)
  have e15:=s25.get (s2.get e1)
  have e25:=s25.get e2
  walk_at "l2"
  refine ud e15 e25 (by rw [List.length_map,List.length_map,bF,bF,sizeLine_eq];omega) fun D6 H6 f6 s6 e6=>?_
  rw [← List.map_append] at e6
  have e56:=s6.get e5
  have s26:=s25.trans s6
  have s06:=s02.trans s26
  have pno:Prt H6 (nx++os):=fun q' hq'=>(List.mem_append.mp hq').elim (fun h=>s06.get (pn q' h)) (fun h=>s06.get (po q' h))
  have lno:(nmb "n" nx.length++nmb "o" os.length).length=(nx++os).length:=by rw [List.length_append,List.length_append,bF,bF]
  clear f3 s3 e3 ho3 f4 s4 e4 f5 s5 e5 s6 ho2 hn2
  walk_at "l2"
  refine ⟨D6,D5,_,_,rfl,rfl,SqL.of e6,SqL.of e56,by rw [jS,List.length_map];exact lno,?_⟩
  intro D7 hD7
  refine Hf (xs:=(nmb "n" nx.length++nmb "o" os.length).map V.str) (ys:=refs (nx++os)) (by rw [jS,List.length_map];exact lno) (fun i zs H'=>∃ rs:List Rw,zs=rs.map (fun r=>V.ref r.1)∧Same H6 H'∧H' D7=some (.lst zs)∧RwL H' rs∧(∀ r∈rs,r.2.1≠D7)∧rs.map (·.2.2)=(List.zip (nmb "n" nx.length++nmb "o" os.length) ((prs (nx++os)).map wr2)).take i) ⟨[],rfl,bf hD7,av,fun _ h=>(by cases h),fun _ h=>(by cases h),rfl⟩ (fun i zs H' _ ⟨_,_,s',_⟩=>⟨SqL.of (s'.get e6),SqL.of (s'.get e56)⟩) (fun i u v zs H8 pz H9 hu' hv ⟨rs,ez,s8,e8,rl,rd,er⟩ fp s9 e9'=>?_) (fun zs H7 ⟨rs,ez,s7,e7,rl,rd,er⟩=>?_)
  ·obtain ⟨z,hz,rfl⟩:=aC hu'
   obtain ⟨r,hr',rfl⟩:=aC (f:=fun q:Pr3=>V.ref q.1) hv
   have hlt:=(List.getElem?_eq_some_iff.mp hr').1
   rw [List.length_append] at hlt
   have hm:=List.mem_of_getElem? hr'
   have bq:=sl.bn r.2 (by rw [show prs nx++prs os=prs (nx++os) from (List.map_append ..).symm];exact List.mem_map.mpr ⟨r,hm,rfl⟩)
   rw [eZ] at bq
   have er9:=s9.get (s8.get (pno r hm))
   walk_at "l2"
   refine ⟨z,r.1,r.2.1,r.2.2,rfl,er9,gU bq.1 (by omega),gU bq.2 (by omega),fun tt DD H10 f10 s10 et10 ed10=>?_⟩
   have e810:=s10.get (s9.get e8)
   have hDD:DD≠D7:=fun z=>by rw [z,s9.get e8] at f10;cases f10
   have lrs:rs.length=i:=by
    have:=congrArg List.length er
    rw [List.length_map,List.length_take,List.length_zip,List.length_map,eZ,lno,List.length_append] at this;omega
   have k10:∀ b ob,b≠D7→H10 b=some ob→upd H10 D7 (.lst (zs++[.ref tt])) b=some ob:=fun b ob n e=>by rw [aB n];exact e
   refine ⟨e810,by rw [ez,List.length_map];exact aP (by omega),rs++[(tt,DD,z,wr2 r.2)],by rw [ez,List.map_append];rfl,fun b ob e=>k10 _ _ (ai e hD7) (s10.get (s9.get (s8.get e))),av,fun r' hr2=>?_,fun r' hr2=>?_,?_⟩
   ·rcases List.mem_append.mp hr2 with h | h
    ·have t1:=s10.get (s9.get (rl r' h).1)
     have t2:=s10.get (s9.get (rl r' h).2)
     exact ⟨k10 _ _ (dB t1 e810 fun z=>by cases z) t1,k10 _ _ (rd r' h) t2⟩
    ·rw [List.mem_singleton.mp h]
     exact ⟨k10 _ _ (dB et10 e810 fun z=>by cases z) et10,k10 _ _ hDD ed10⟩
   ·rcases List.mem_append.mp hr2 with h | h
    ·exact rd r' h
    ·rw [List.mem_singleton.mp h];exact hDD
   ·have hzip:(List.zip (nmb "n" nx.length++nmb "o" os.length) ((prs (nx++os)).map wr2))[i]? =some (z,wr2 r.2):=List.getElem?_zip_eq_some.mpr ⟨hz,by rw [List.getElem?_map,aby hr'];rfl⟩
    rw [List.map_append,er,take_succ hzip];rfl
  ·subst ez
   have s07:=s06.trans s7
   have lz:(List.zip (nmb "n" nx.length++nmb "o" os.length) ((prs (nx++os)).map wr2)).length=(nmb "n" nx.length++nmb "o" os.length).length:=by rw [List.length_zip,List.length_map,eZ,lno];exact Nat.min_self _
   rw [List.length_map,← lz,List.take_length] at er
   have e17:=s7.get (s26.get (s2.get e1))
   have e27:=s7.get (s26.get e2)
   walk_at "l2"
   refine aV (s07.get hp) rfl ?_
   walk_at "l2"
   refine ⟨p,m,nx,os,rfl,ma.same s07,?_⟩
   walk_at "l2"
   refine ⟨"s",nx.length,rfl,sls,by omega,fun D8 H8 f8 s8 e8=>?_⟩
   walk_at "l2"
   refine ⟨D8,D1,_,_,rfl,rfl,SqL.of e8,SqL.of (s8.get e17),by rw [List.length_map,List.length_map,bF,bF],fun D9 qa H9 f9 s9 e9 lqa hqa=>?_⟩
   have s79:=s8.trans s9
   have hp9:=s79.get (s07.get hp)
   walk_at "l2"
   refine aH hp9 T.aL T.cj rfl ?_
   walk_at "l2"
   refine ⟨"i",m,rfl,sli,by omega,fun D10 H10 f10 s10 e10=>?_⟩
   have s710:=s79.trans s10
   walk_at "l2"
   intro x dx11 H11 f11 s11 e11
   have s711:=s710.trans s11
   have lq:qa.length=nx.length:=by rw [lqa,List.length_map,bF]
   obtain ⟨qs,eqs⟩:∃ qs:List Qs,qs=List.zip qa (List.zip (nmb "s" nx.length) (nmb "n" nx.length)):=⟨_,rfl⟩
   have q1:qs.map (fun q=>V.ref q.1)=qa.map V.ref:=by
    rw [eqs,show (fun q:Qs=>V.ref q.1)=V.ref ∘ Prod.fst from rfl,← List.map_map,List.map_fst_zip]
    rw [List.length_zip,bF,bF,Nat.min_self,lq];exact Nat.le_refl _
   have q2:qs.map (·.2)=List.zip (nmb "s" nx.length) (nmb "n" nx.length):=by
    rw [eqs]
    show List.map Prod.snd _=_
    rw [List.map_snd_zip]
    rw [List.length_zip,bF,bF,Nat.min_self,lq];exact Nat.le_refl _
   have q3:∀ q'∈qs,H9 q'.1=some (.tup [.str q'.2.1,.str q'.2.2]):=fun q' hq'=>by
    obtain ⟨j,hj⟩:=List.mem_iff_getElem?.mp hq'
    rw [eqs] at hj
    obtain ⟨z1,z2⟩:=List.getElem?_zip_eq_some.mp hj
    obtain ⟨z3,z4⟩:=List.getElem?_zip_eq_some.mp z2
    exact hqa j q'.1 _ _ z1 (by rw [List.getElem?_map,z3];rfl) (by rw [List.getElem?_map,z4];rfl)
   rw [← q1] at e9
   have hnd:Hnd H11 D10 D7 D9 D2 rs qs (iE m (prs nx) (prs os)):=⟨s11.get e10,s711.get e7,(rl.same s711),by rw [er];unfold iE;rw [eZ,eZ,show prs (nx++os)=prs nx++prs os from List.map_append ..],s11.get (s10.get e9),fun q' hq'=>s11.get (s10.get (q3 q' hq')),by rw [q2];unfold iE;rw [eZ],by show H11 D2=some (.lst ((nmb "o" (prs os).length).map V.str));rw [eZ];exact s711.get e27⟩
   refine ⟨x,dx11,D10,D7,D9,D2,rs,qs,iE m (prs nx) (prs os),rfl,e11,hnd,uN sl,fun H12 od k12 na=>⟨rfl,?_⟩⟩
   have s1012:Same H10 H12:=fun b ob e=>k12 _ _ (ai e f11) (s11.get e)
   exact q x H12 od (s07.free (s710.free f11)) (s07.trans (s710.trans s1012)) na
end
section
variable {P:Program} {w:World} {K:PySem.W.Frag} {mg:Str→Option Value} {base:Heap} {a:Ad}
local macro_rules | `(tactic| walk_at "l2step") =>`(tactic| first | ((with_reducible refine' fN ?e ?_);(case e=>walk_at "l2kind")) | ((with_reducible refine' jI ?e ?_);(case e=>walk_at "l2kind")) | (with_reducible refine dh ?_) | (with_reducible refine gb ?_))
theorem Uz (T:Tx K mg a):FnOk P w K mg base (CX1 P w) 8 a.iU a.G7 ["machine","rows"] (Tq K a.ag a.bT):=by
 have fw:=@lu P w K mg base a T
 have tL:=@E3 P w K mg base a T
 have yz:=@ut P w K mg base a T
 refine T.yI.okX jh (fun vs H Q E h=>?_) (fun cdv A outer s H vs Q E hr h=>?_)
 ·obtain ⟨p,rr,m,nx,os,xs,rfl,_⟩:=h;rfl
 ·obtain ⟨p,rr,m,nx,os,xs,rfl,ma,g,hq,hks,hlen,qQ,qE⟩:=h
  obtain ⟨dx,tn,to,ho,hn,ho2⟩:=ma.ho
  have m6:=g.m6
  refine ⟨_,((af (fJ (jm (gc (aD (tm (K:=K) rfl rfl) (by rfl) T.Yq PyProof.Rows.boot_all (aa (ci (osc:=ad jR) (ON:=["machine","rows","singles","answers","turn","row","which","later"]) (N:=["row","machine"]) (n:=1) (fx:=[0]) rfl rfl rfl (by decide +kernel) (aR (K:=K) rfl (pv 1)) (aF (by decide)) (fun _ _ _ _ _=>⟨(ax (i:=0) (show List.Nodup (["row","machine"]:List Str) from by decide +kernel) rfl (by walk_at "o")),bx,(ar fw (hr.mono (by decide)) (by rfl) T.lI T.lG T.ip .nil aA (aa (pv 0) (aa (aN (K:=K) rfl (pv 1) rfl) ae)))⟩)) ae)))) (aj (jT PySem.F.excBase_ValueError T.ij g9 rfl (by rfl) T.sP (aa bU ae))) bR)
   (af (c6 (osc:=ad jR) (ON:=["machine","rows","singles","answers","turn","row","which","later"]) (N:=["which","machine","rows"]) (n:=1) (fx:=[0,1]) (i:=2) jh.nd rfl rfl rfl rfl rfl rfl (by decide +kernel) (ge (by rfl) T.kC (aa (aN (K:=K) rfl (pv 0) rfl) ae)) (aF (by decide)) (fun _ _ _ _ _=>⟨(ax (i:=0) (show List.Nodup (["which","machine","rows"]:List Str) from by decide +kernel) rfl (by walk_at "o")),bx,(hU (pv 1) T.aL T.xN yz (hr.mono (by decide)) T.iM .nil thr0 (aa (pv 0) (aa (aD (aK (K:=K) rfl) (by rfl) T.fc PySem.boot_len (aa (pv 2) ae)) ae)))⟩))
   (af (aW (i:=3) jh.nd rfl (by walk_at "o") (aG Z9 (fW (aa al ae)) (aD (aK (K:=K) rfl) (by rfl) T.fc PySem.boot_len (aa (pv 1) ae))))
   (af (fV (mf ⟨rfl,rfl⟩) rfl (Um (K:=K) rfl (by rfl) T.fL (pv 1)) (IA rfl (b5 (ax (i:=4) jh.nd rfl (by walk_at "o")) (b5 (ax (i:=5) jh.nd rfl (by walk_at "o")) jo))) (aj (fV (mf ⟨rfl,rfl⟩) rfl (aR (K:=K) rfl (ar tL (hr.mono (by decide)) (by rfl) T.AL T.AH T.oQ .nil aA (aa (pv 5) ae))) (ax (i:=6) jh.nd rfl (by walk_at "o")) (aj (fV (mf ⟨rfl,rfl⟩) rfl (Ul (by rfl) T.kC (aa (pv 4) (aa (aD (aK (K:=K) rfl) (by rfl) T.fc PySem.boot_len (aa (pv 1) ae)) ae))) (ax (i:=7) jh.nd rfl (by walk_at "o")) (aj (Z4 (aG wu (bC (bv (K:=K) rfl) (pv 3) (pv 7) (fun _ _=>rfl)) (bC (bv (K:=K) rfl) (bC (bv (K:=K) rfl) (pv 2) (pv 6) (fun _ _=>rfl)) (aG Ur (pv 7) (pv 4)) (fun _ _=>rfl))) (ad8 (pv 3) (pv 7) X2))))))))
   (aj (aM (pv 3)))))))),az (σ':=[some _,some _,none,none,none,none,none,none]) rfl ?_⟩
  walk_at "l2"
  intro D hD
  refine aX (xs:=xs) (fun i ys H'=>Cs (fun i ys=>ys=((xs.take i).map fun x=>mq x m).map V.bl) H D i ys H') (Cs.zero hD rfl) (fun i ys H' _ c=>Same.seq c.same hq) (fun i x ys H' hx c=>?_) (fun ys H' c=>?_)
  ·have hi:=(List.getElem?_eq_some_iff.mp hx).1
   obtain ⟨k,hk⟩:=hks x (List.mem_of_getElem? hx)
   have hk':=JE hk c.same
   walk_at "l2"
   refine aH (c.same.get ho) T.aL T.cj rfl ?_
   walk_at "l2"
   refine Cs.put hD c.same c.at' c.len (by omega) ?_
   rw [c.pv,take_succ hx,List.map_append,List.map_append];rfl
  ·have ec:=c.at'
   rw [c.pv,List.take_length] at ec
   have s1:=c.same
   clear c
   walk_at "l2"
   refine Ik (SqL.of ec) ?_
   walk_at "l2"
   by_cases hall:∀ y∈xs,mq y m=true
   ·obtain ⟨rs,rfl,hrs⟩:=UU hall
    rw [List.length_map] at hlen
    have hb:(((rs.map nat).map fun x=>mq x m).all id)=true:=by
     rw [List.all_eq_true];intro b hb;obtain ⟨y,hy,rfl⟩:=List.mem_map.mp hb;exact hall y hy
    rw [hb]
    have ma1:=ma.same s1
    have hq1:=Same.seq s1 hq
    have ho1:=s1.get ho
    walk_at "l2"
    refine aH ho1 T.aL T.cj rfl ?_
    walk_at "l2"
    rw [Int.toNat_natCast]
    intro D2 hD2
    refine g5 (fun i ys H2=>∃ ds:List Addr,ys=ds.map V.ref∧Same H' H2∧H2 D2=some (.lst ys)∧ds.length=i∧(∀ d∈ds,d≠D2)∧∀ (w:Nat) (d:Addr),ds[w]? =some d→H2 d=some (.lst ((M.wan (prs nx) (prs os) 0 (M.pulse w rs.length)).map nat))) ⟨[],rfl,bf hD2,av,rfl,fun _ h=>(by cases h),fun w d h=>(by simp at h)⟩ (fun i ys H2 hi ⟨ds,ey,s2,e2,ld,nd,hd⟩=>?_) (fun ys H2 ⟨ds,ey,s2,e2,ld,nd,hd⟩=>?_)
    ·have ho2':=s2.get ho1
     walk_at "l2"
     refine fj ho2' rfl ?_
     have hq2:=Same.seq s2 hq1
     walk_at "l2"
     rw [Int.zero_add,List.length_map]
     refine ⟨p,m,nx,os,nat i,"int",rs.length,rfl,ma1.same s2,g,rfl,by omega,fun i' ei _ D3 H3 f3 s3 e3=>?_,fun h=>?_⟩
     ·have ei:=z9 ei
      subst ei
      have hDD:D3≠D2:=fun z=>by rw [z,e2] at f3;cases f3
      have k3:∀ b ob,b≠D2→H3 b=some ob→upd H3 D2 (.lst (ys++[.ref D3])) b=some ob:=fun b ob n e=>by rw [aB n];exact e
      refine ⟨s3.get e2,by rw [ey,List.length_map];exact aP (by omega),ds++[D3],by rw [ey,List.map_append];rfl,fun b ob e=>k3 _ _ (ai e hD2) (s3.get (s2.get e)),av,by rw [List.length_append,ld];rfl,fun d hd'=>?_,fun w' d hd'=>?_⟩
      ·rcases List.mem_append.mp hd' with h | h
       ·exact nd d h
       ·rw [List.mem_singleton.mp h];exact hDD
      ·by_cases hw:w' < ds.length
       ·rw [List.getElem?_append_left hw] at hd'
        exact k3 _ _ (nd d (List.mem_of_getElem? hd')) (s3.get (hd w' d hd'))
       ·have hl:=(List.getElem?_eq_some_iff.mp hd').1
        rw [List.length_append,List.length_singleton] at hl
        rw [List.getElem?_append_right (by omega),show w' - ds.length=0 by omega] at hd'
        cases hd'
        rw [show w'=i by omega]
        exact k3 _ _ hDD e3
     ·rw [show idxB (nat i) m=true from by show (decide ((0:Int)≤i)&&decide ((i:Int) < (m:Int)))=true;rw [decide_eq_true (by omega),decide_eq_true (by omega)];rfl] at h
      cases h
    ·subst ey
     have sg:Sgl H2 D2 ds (prs nx) (prs os) rs.length m:=⟨e2,ld,hd⟩
     have s02:=s1.trans s2
     have hq2:=Same.seq s02 hq
     have f2:H' D2=none:=hD2
     clear ld nd hd e2 hq1 ho1 ma1
     walk_at "l2"
     intro D3 H3 f3 s3 e3
     have hq3:=Same.seq s3 hq2
     walk_at "l2"
     rw [List.length_map]
     refine adr e3 (by omega) (by omega) (by rw [sizeLine_eq,Int.toNat_natCast];simp;omega) fun D4 H4 f4 s4 e4=>?_
     rw [Int.toNat_natCast,List.flatten_replicate_singleton] at e4
     have e4':H4 D4=some (.lst ((M.wan (prs nx) (prs os) 0 (rs.take 0++List.replicate (rs.length - 0) 0)).map nat)):=by
      rw [e4,List.take_zero,List.nil_append,Nat.sub_zero,M.wan_zeros,List.map_replicate];rfl
     have s04:=s02.trans (s3.trans s4)
     have s24:=s3.trans s4
     have f40:H D4=none:=s02.free (s3.free f4)
     have f42:H2 D4=none:=s3.free f4
     have hq4:=Same.seq s24 hq2
     have sgk:∀ {H5:Hp},Same H2 H5→Sgl H5 D2 ds (prs nx) (prs os) rs.length m:=fun s5=>⟨s5.get sg.d,sg.len,fun w' d h=>s5.get (sg.at' w' d h)⟩
     clear e4 e3 f3
     walk_at "l2"
     refine GW (xs:=rs.map nat) (fun t σ H5=>∃ v4 v5 v6 v7,σ=[some (.ref p),some (.ref rr),some (.ref D2),some (.ref D4),v4,v5,v6,v7]∧Same H2 H5∧H5 D4=some (.lst ((M.wan (prs nx) (prs os) 0 (rs.take t++List.replicate (rs.length - t) 0)).map nat))) ⟨none,none,none,none,rfl,s24,e4'⟩ (fun t σ H5 _ ⟨_,_,_,_,_,s5,_⟩=>Same.seq s5 hq2) ?_ ?_
     ·rintro t y σ H5 pz H6 hy ⟨v4,v5,v6,v7,rfl,s5,e5⟩ fp s6 e6
      obtain ⟨r,hr',rfl⟩:=aC hy
      have hlt:=(List.getElem?_eq_some_iff.mp hr').1
      have hrm:=hrs r (List.mem_of_getElem? hr')
      have hr1000:r < 2 ^ 1000:=gU hrm (by omega)
      have s26:=s5.trans s6
      walk_at "l2"
      refine ⟨r,rfl,hr1000,fun D7 H7 f7 s7 e7=>?_⟩
      have s27:=s26.trans s7
      have e57:=s7.get (s6.get e5)
      have hD47:D4≠D7:=ai (s6.get e5) f7
      walk_at "l2"
      refine jZ (xs:=(M.pl 1000 r).map nat) (fun b σ H8=>∃ v6 v7,σ=[some (.ref p),some (.ref rr),some (.ref D2),some (.ref D4),some (nat t),some (nat r),v6,v7]∧Same H2 H8∧H8 D7=some (.lst ((M.pl 1000 r).map nat))∧H8 D4=some (.lst ((M.wan (prs nx) (prs os) 0 (M.rowU rs t (M.xm ((M.pl 1000 r).take b)))).map nat))) ⟨_,_,rfl,s27,e7,?_⟩ (fun b σ H8 _ ⟨_,_,_,_,e8,_⟩=>SqL.of e8) ?_ ?_
      ·rw [List.take_zero,show M.xm []=0 from rfl,M.rowU_zero rs t hlt];exact e57
      ·rintro b y σ H8 hy ⟨v6,v7,rfl,s8,e78,e8⟩
       obtain ⟨wh,hw,rfl⟩:=aC hy
       have hwm:=M.pl_lt hrm wh (List.mem_of_getElem? hw)
       have hq8:=Same.seq s8 hq2
       have sg8:=sgk s8
       obtain ⟨dw,hdw⟩:∃ d,ds[wh]? =some d:=⟨_,List.getElem?_eq_getElem (by rw [sg.len];exact hwm)⟩
       have edw:=sg8.at' wh dw hdw
       have hdw4:dw≠D4:=ai (sg.at' wh dw hdw) f42
       obtain ⟨A,hA⟩:∃ A,A=M.wan (prs nx) (prs os) 0 (M.rowU rs t (M.xm ((M.pl 1000 r).take b))):=⟨_,rfl⟩
       obtain ⟨S,hS⟩:∃ S,S=M.wan (prs nx) (prs os) 0 (M.pulse wh rs.length):=⟨_,rfl⟩
       have lA:A.length=rs.length:=by rw [hA,M.wan_len,M.rowU_len hlt]
       have lS:S.length=rs.length:=by rw [hS,M.wan_len,M.pulse_len]
       have eall:M.mixl A S t rs.length=M.wan (prs nx) (prs os) 0 (M.rowU rs t (M.xm ((M.pl 1000 r).take (b + 1)))):=by
        rw [hA,hS,M.wan_mixl _ _ (M.rowU_len hlt _) hlt,M.rowU_set hlt,Tb hw]
       rw [← hA] at e8
       rw [← hS] at edw
       have edD:=sg8.d
       walk_at "l2"
       rw [List.length_map]
       refine ⟨(t:Int),(rs.length:Int),rfl,by omega,?_⟩
       rw [show ((rs.length:Int) - (t:Int)).toNat=rs.length - t by omega]
       refine AM (fun j σ H9=>∃ v7,σ=[some (.ref p),some (.ref rr),some (.ref D2),some (.ref D4),some (nat t),some (nat r),some (nat wh),v7]∧(∀ b ob,b≠D4→H8 b=some ob→H9 b=some ob)∧H9 D4=some (.lst ((M.mixl A S t (t + j)).map nat))) ⟨_,rfl,fun _ _ _ e=>e,by rw [Nat.add_zero,M.mixl_zero];exact e8⟩ ?_ ?_
       ·rintro j σ H9 hj ⟨v7,rfl,k9,e9⟩
        have hD2n:D2≠D4:=ai sg.d f42
        have edD9:=k9 _ _ hD2n edD
        have edw9:=k9 _ _ hdw4 edw
        have a1:atI ((M.mixl A S t (t + j)).map nat) ((t:Int) + (j:Int))=some (nat (A.getD (t + j) 0)):=by
         have:((t:Int) + (j:Int))=((t + j:Nat):Int):=by omega
         rw [this]
         refine fO ?_
         rw [List.getElem?_map,M.mixl_at (by omega)];rfl
        have a2:atI (ds.map V.ref) (wh:Int)=some (.ref dw):=fO (by rw [List.getElem?_map,hdw];rfl)
        have a3:atI (S.map nat) ((t:Int) + (j:Int) - (t:Int))=some (nat (S.getD j 0)):=by
         rw [show (t:Int) + (j:Int) - (t:Int)=(j:Int) by omega]
         exact fO (by rw [List.getElem?_map,M.getD_at (by omega),List.getElem?_eq_getElem (by omega)];rfl)
        walk_at "l2"
        rw [jf,show (t:Int) + (j:Int)=((t + j:Nat):Int) by omega]
        refine adG ?_
        walk_at "l2"
        refine ado e9 (by rw [List.length_map,M.mixl_len];omega) fun H10 u10=>?_
        refine ⟨_,rfl,fun b ob n e=>u10.oth _ _ n (k9 _ _ n e),?_⟩
        rw [u10.at',show t + (j + 1)=(t + j) + 1 by omega,← M.mixl_set (by omega) (by omega),Nat.add_sub_cancel_left,List.map_set]
       ·rintro σ H9 ⟨v7,rfl,k9,e9⟩
        rw [show t + (rs.length - t)=rs.length by omega,eall] at e9
        exact ⟨_,_,rfl,fun bb ob e=>k9 _ _ (ai e f42) (s8.get e),k9 _ _ hD47.symm e78,e9⟩
      ·rintro σ H8 ⟨v6,v7,rfl,s8,e78,e8⟩
       rw [List.length_map,List.take_length,Xn hr1000,M.rowU_done hr'] at e8
       exact ⟨_,_,_,_,rfl,s8,e8⟩
     ·rintro σ H5 ⟨v4,v5,v6,v7,rfl,s5,e5⟩
      rw [List.length_map,List.take_length,Nat.sub_self] at e5
      rw [show rs++List.replicate 0 0=rs from List.append_nil _] at e5
      walk_at "l2"
      exact qQ rs rfl hrs D4 H5 f40 (s02.trans s5) e5
   ·have hb:((xs.map fun x=>mq x m).all id)=false:=by
     rw [← Bool.not_eq_true,List.all_eq_true]
     exact fun h=>hall fun y hy=>h _ (List.mem_map.mpr ⟨y,hy,rfl⟩)
    rw [hb]
    walk_at "l2"
    refine ⟨by rw [sizeLine_eq];decide,qE ?_ _ s1⟩
    exact Classical.byContradiction fun h=>hall fun y hy=>Classical.byContradiction fun h'=>h ⟨y,hy,by simpa using h'⟩
end
section
variable {P:Program} {w:World} {K:PySem.W.Frag} {mg:Str→Option Value} {base:Heap} {a:Ad}
local macro_rules | `(tactic| walk_at "l2step") =>`(tactic| first | ((with_reducible refine' fN ?e ?_);(case e=>walk_at "l2kind")) | ((with_reducible refine' jI ?e ?_);(case e=>walk_at "l2kind")) | (with_reducible refine dh ?_) | (with_reducible refine gb ?_))
theorem LE (T:Tx K mg a):FnOk P w K mg base CX0 1 a.eJ a.vw ["row"] Pr:=by
 refine T.py.ok Lc (fun vs H Q E h=>?_) (fun cdv A outer s H vs Q E hr h=>?_)
 ·obtain ⟨z,rfl,_⟩:=h;rfl
 ·obtain ⟨z,rfl,hl,q⟩:=h
  refine ⟨_,((aj (aM (iO (K:=K) rfl PySem.F.plainAttrs_str PySem.F.slot_str_split PySem.F.type_str_split Gu (pv 0) (aa bU ae))))),az (σ':=[some _]) rfl ?_⟩
  walk_at "l2"
  refine Lg (by decide +kernel) (by rw [sizeLine_eq];omega) fun D H2 f2 s2 e2=>?_
  rw [Fu] at e2
  exact q D H2 f2 s2 e2
theorem Qd (T:Tx K mg a):FnOk P w K mg base CX0 1 a.gl a.A3 ["text"] Tv:=by
 refine T.tO.ok PM (fun vs H Q E h=>?_) (fun cdv A outer s H vs Q E hr h=>?_)
 ·obtain ⟨z,rfl,_⟩:=h;rfl
 ·obtain ⟨z,rfl,hl,q⟩:=h
  refine ⟨_,((aj (aM (Yd (bc pN (pv 0) bU (bu _)) (fW ae) (iO (K:=K) rfl PySem.F.plainAttrs_str PySem.F.slot_str_split PySem.F.type_str_split Gu (pv 0) (aa bU ae)))))),az (σ':=[some _]) rfl ?_⟩
  walk_at "l2"
  by_cases hz:z=""
  ·refine rW (decide_eq_true (by rw [hz])) ?_
   rw [if_pos hz] at q
   walk_at "l2"
   intro D H2 f2 s2 e2
   exact q D H2 f2 s2 e2
  ·refine iS (decide_eq_false fun e=>hz (V.str.inj e)) ?_
   rw [if_neg hz] at q
   walk_at "l2"
   refine Lg (by decide +kernel) (by rw [sizeLine_eq];omega) fun D H2 f2 s2 e2=>?_
   rw [KY] at e2
   exact q D H2 f2 s2 e2
theorem LJ (T:Tx K mg a):FnOk P w K mg base CX0 2 a.eQ a.vB ["words"] aa7:=by
 have jN:=@uo P w K mg base a T
 refine T.pF.ok Lf (fun vs H Q E h=>?_) (fun cdv A outer s H vs Q E hr h=>?_)
 ·obtain ⟨l,r,rfl,_⟩:=h;rfl
 ·obtain ⟨l,r,rfl,hl,fm,q⟩:=h
  have a0:∀ (z:Str) (xs:List Str),atI ((z::xs).map V.str) 0=some (.str z):=fun z xs=>fO (j:=0) rfl
  have a1:∀ (y z:Str) (xs:List Str),atI ((y::z::xs).map V.str) 1=some (.str z):=fun y z xs=>fO (j:=1) rfl
  have a2:∀ (x y z:Str) (xs:List Str),atI ((x::y::z::xs).map V.str) 2=some (.str z):=fun x y z xs=>fO (j:=2) rfl
  have i1:inV (V.str "in") [V.str "in",V.str "out"]=true:=by decide +kernel
  have i2:inV (V.str "out") [V.str "in",V.str "out"]=true:=by decide +kernel
  have i3:inV (V.str "sum") [V.str "in",V.str "out"]=false:=by decide +kernel
  have i4:inV (V.str "store") [V.str "in",V.str "out"]=false:=by decide +kernel
  have j3:inV (V.str "sum") [V.str "sum",V.str "store"]=true:=by decide +kernel
  have j4:inV (V.str "store") [V.str "sum",V.str "store"]=true:=by decide +kernel
  have ne1:("sum":Str)≠"store":=by decide +kernel
  refine ⟨_,((af (fJ (bc (aeh (K:=K) rfl) (bC (bv (K:=K) rfl) (pv 0) al (fun _ _=>rfl)) (gJ (aa bU (aa bU ae))) (by rfl)) (aj (aM (wm (iu pN (aD (aK (K:=K) rfl) (by rfl) T.fc PySem.boot_len (aa (pv 0) ae)) al (bu _)) (zk (ar jN (hr.mono (by decide)) (by rfl) T.ou T.oq T.jK .nil aA (aa (bC (bv (K:=K) rfl) (pv 0) al (fun _ _=>rfl)) ae)))))) bR)
   (af (fJ (PW.pt (qI (bc (Us (K:=K) rfl) (bC (bv (K:=K) rfl) (pv 0) al (fun _ _=>rfl)) (gJ (aa bU (aa bU ae))) (by rfl)) (qI (bc Uu (aD (aK (K:=K) rfl) (by rfl) T.fc PySem.boot_len (aa (pv 0) ae)) al (bu _)) (p9 (bc Ut (bC (bv (K:=K) rfl) (pv 0) al (fun _ _=>rfl)) bU (bu _)))))) (aj (aM LA)) bR)
   (af (fJ (PW.pt (Z2 (bc pN (bC (bv (K:=K) rfl) (pv 0) al (fun _ _=>rfl)) bU (bu _)) (Ud (bc Ut (aD (aK (K:=K) rfl) (by rfl) T.fc PySem.boot_len (aa (pv 0) ae)) al (bu _))))) (aj (aM LA)) bR)
   (aj (aM (wm (ar jN (hr.mono (by decide)) (by rfl) T.ou T.oq T.jK .nil aA (aa (bC (bv (K:=K) rfl) (pv 0) al (fun _ _=>rfl)) ae)) (zk (aD (tm (K:=K) rfl rfl) (by rfl) T.Yq PyProof.Rows.boot_all (aa (ci (osc:=ad gP) (ON:=["words"]) (N:=["word"]) (n:=1) (fx:=[]) rfl rfl rfl (by decide +kernel) (aR (K:=K) rfl (o7 (o0 (K:=K) rfl) (pv 0) (qJ al) zb)) (aF (by decide)) (fun _ _ _ _ _=>⟨(ax (i:=0) (show List.Nodup (["word"]:List Str) from by decide +kernel) rfl (by walk_at "o")),bx,(ar jN (hr.mono (by decide)) (by rfl) T.ou T.oq T.jK .nil aA (aa (pv 0) ae))⟩)) ae)))))))))),az (σ':=[some _]) rfl ?_⟩
  cases fm with
  | i z h=>
    have hz:=a0 "in" [z]
    have hz1:=a1 "in" z []
    walk_at "l2"
    intro D1 H1 g1 s1 e1
    refine ⟨D1,_,rfl,.inr (SqT.of e1),rfl,rfl,?_⟩
    rw [if_neg Bool.false_ne_true,i1]
    have hl1:=s1.get hl
    walk_at "l2"
    exact c_nm h fun H3 s3=>q H3 (s1.trans s3)
  | o z h=>
    have hz:=a0 "out" [z]
    have hz1:=a1 "out" z []
    walk_at "l2"
    intro D1 H1 g1 s1 e1
    refine ⟨D1,_,rfl,.inr (SqT.of e1),rfl,rfl,?_⟩
    rw [if_neg Bool.false_ne_true,i2]
    have hl1:=s1.get hl
    walk_at "l2"
    exact c_nm h fun H3 s3=>q H3 (s1.trans s3)
  | s z ws h hw hlw=>
    have hz:=a0 "sum" (z::"="::ws)
    have hz1:=a1 "sum" z ("="::ws)
    have hz2:=a2 "sum" z "=" ws
    walk_at "l2"
    intro D1 H1 g1 s1 e1
    refine ⟨D1,_,rfl,.inr (SqT.of e1),rfl,rfl,?_⟩
    rw [if_neg Bool.false_ne_true,i3]
    have hl1:=s1.get hl
    walk_at "l2"
    intro D2 H2 g2 s2 e2
    refine ⟨D2,_,rfl,.inr (SqT.of e2),rfl,rfl,?_⟩
    rw [if_pos rfl,j3]
    have hl2:=s2.get hl1
    walk_at "l2"
    refine c_nm h fun H3 s3=>?_
    have hl3:=s3.get hl2
    walk_at "l2"
    intro D4 H4 f4 s4 e4
    rw [show cutV ((("sum":Str)::z::("=":Str)::ws).map V.str) (some 3) none=(ws).map V.str from (yH _ 3 (by simp)).trans rfl] at e4
    have s04:=s1.trans (s2.trans (s3.trans s4))
    walk_at "l2"
    intro D5 hD5
    refine aX (xs:=(ws).map V.str) (fun i ys H'=>Cs (fun i ys=>ys=(List.replicate i true).map V.bl) H4 D5 i ys H') (Cs.zero hD5 rfl) (fun i ys H' _ c=>SqL.of (c.same.get e4)) (fun i x ys H' hx c=>?_) (fun ys H5 c=>?_)
    ·obtain ⟨w',hw',rfl⟩:=aC hx
     have hi:=(List.getElem?_eq_some_iff.mp hw').1
     have hll:=hlw
     walk_at "l2"
     refine c_nm (hw w' (List.mem_of_getElem? hw')) fun H6 s6=>?_
     refine Cs.put hD5 (c.same.trans s6) (s6.get c.at') c.len (by omega) ?_
     rw [c.pv,List.replicate_succ',List.map_append];rfl
    ·have e5:=c.at'
     rw [c.pv] at e5
     walk_at "l2"
     refine Ik (SqL.of e5) ?_
     rw [show (List.replicate ((ws).map V.str).length true).all id=true from List.all_eq_true.mpr fun b hb=>(List.mem_replicate.mp hb).2]
     exact q _ (s04.trans c.same)
  | t z y h hy=>
    have hwy:∀ w∈[y],Nm w:=fun w hw=>by rw [List.mem_singleton.mp hw];exact hy
    have hz:=a0 "store" [z,"=",y]
    have hz1:=a1 "store" z ["=",y]
    have hz2:=a2 "store" z "=" [y]
    walk_at "l2"
    intro D1 H1 g1 s1 e1
    refine ⟨D1,_,rfl,.inr (SqT.of e1),rfl,rfl,?_⟩
    rw [if_neg Bool.false_ne_true,i4]
    have hl1:=s1.get hl
    walk_at "l2"
    intro D2 H2 g2 s2 e2
    refine ⟨D2,_,rfl,.inr (SqT.of e2),rfl,rfl,?_⟩
    rw [if_pos rfl,j4]
    have hl2:=s2.get hl1
    walk_at "l2"
    refine c_nm h fun H3 s3=>?_
    have hl3:=s3.get hl2
    walk_at "l2"
    intro D4 H4 f4 s4 e4
    rw [show cutV (([("store":Str),z,("=":Str),y]).map V.str) (some 3) none=([y]).map V.str from (yH _ 3 (by simp)).trans rfl] at e4
    have s04:=s1.trans (s2.trans (s3.trans s4))
    walk_at "l2"
    intro D5 hD5
    refine aX (xs:=([y]).map V.str) (fun i ys H'=>Cs (fun i ys=>ys=(List.replicate i true).map V.bl) H4 D5 i ys H') (Cs.zero hD5 rfl) (fun i ys H' _ c=>SqL.of (c.same.get e4)) (fun i x ys H' hx c=>?_) (fun ys H5 c=>?_)
    ·obtain ⟨w',hw',rfl⟩:=aC hx
     have hi:=(List.getElem?_eq_some_iff.mp hw').1
     have hll:=(show ([y]:List Str).length≤24 by simp)
     walk_at "l2"
     refine c_nm (hwy w' (List.mem_of_getElem? hw')) fun H6 s6=>?_
     refine Cs.put hD5 (c.same.trans s6) (s6.get c.at') c.len (by omega) ?_
     rw [c.pv,List.replicate_succ',List.map_append];rfl
    ·have e5:=c.at'
     rw [c.pv] at e5
     walk_at "l2"
     refine Ik (SqL.of e5) ?_
     rw [show (List.replicate (([y]).map V.str).length true).all id=true from List.all_eq_true.mpr fun b hb=>(List.mem_replicate.mp hb).2]
     exact q _ (s04.trans c.same)
theorem LH (T:Tx K mg a):FnOk P w K mg base CX0 7 a.eM a.vz ["text"] (aaZ (NAof a)):=by
 have SJ:=@LE P w K mg base a T
 have WJ:=@Qd P w K mg base a T
 have SK:=@LJ P w K mg base a T
 have fA:=@jw P w K mg base a T
 refine T.pC.ok dU (fun vs H Q E h=>?_) (fun cdv A outer s H vs Q E hr h=>?_)
 ·obtain ⟨rows,rfl,_⟩:=h;rfl
 ·obtain ⟨rows,rfl,fm,lr,g,q⟩:=h
  have tl:=Xw fm
  have erow:(if txtR rows="" then [] else Txt.split (txtR rows) ⟨#[10]⟩)=rows.map rowT:=by
   by_cases e:rows=[]
   ·subst e;rw [if_pos (show txtR []="" from rfl)];rfl
   ·rw [if_neg (aaS fm e),Pk (fun r hr'=>(fm r hr').wd) e]
  have rl:∀ r∈rows,(rowT r).length≤1000:=fun r hr'=>by
   have b1:=(fm r hr').len
   have b2:=FJ b1.2
   omega
  have gd:∀ (r:List Str) (k:Nat),k < r.length→atI (r.map V.str) (k:Int)=some (.str (r.getD k "")):=fun r k hk=>fO (by rw [List.getElem?_map,List.getElem?_eq_getElem hk,List.getD_eq_getElem?_getD,List.getElem?_eq_getElem hk];rfl)
  have fl:∀ r∈rows,2≤r.length:=fun r hr'=>by cases fm r hr'<;>simp
  have f4:∀ r∈rows,kd "store" r=true→4≤r.length:=fun r hr' hk=>by
   obtain ⟨n1,n2,n3,n4,n5,n6,n7,n8,n9,n10,n11,n12⟩:=w_ne
   cases fm r hr' with
   | i z h=>exact absurd (of_decide_eq_true hk) n2
   | o z h=>exact absurd (of_decide_eq_true hk) n12
   | s z ws h hw hlw=>exact absurd (of_decide_eq_true hk) n5
   | t z y h hy=>simp
  have f3:∀ r∈rows,kd "sum" r=true→3≤r.length:=fun r hr' hk=>by
   obtain ⟨n1,n2,n3,n4,n5,n6,n7,n8,n9,n10,n11,n12⟩:=w_ne
   cases fm r hr' with
   | i z h=>exact absurd (of_decide_eq_true hk) n1
   | o z h=>exact absurd (of_decide_eq_true hk) n11
   | s z ws h hw hlw=>simp
   | t z y h hy=>simp
  have fs:∀ (k:Str) (i:Nat) (r:List Str),rows[i]? =some r→(rows.take (i + 1)).filter (kd k)=(rows.take i).filter (kd k)++(if kd k r=true then [r] else []):=fun k i r h=>by
   rw [take_succ h,List.filter_append,List.filter_cons];rfl
  refine ⟨_,((af (c6 (osc:=ad cT) (ON:=["text","rows","number","words","ins","sums","stores","outs"]) (N:=["row"]) (n:=1) (fx:=[]) (i:=1) dU.nd rfl rfl rfl rfl rfl rfl (by decide +kernel) (aR (K:=K) rfl (ar WJ (hr.mono (by decide)) (by rfl) T.VA T.Vm T.BB .nil aA (aa (pv 0) ae))) (aF (by decide)) (fun _ _ _ _ _=>⟨(ax (i:=0) (show List.Nodup (["row"]:List Str) from by decide +kernel) rfl (by walk_at "o")),bx,(ar SJ (hr.mono (by decide)) (by rfl) T.Rv T.Rn T.vP .nil aA (aa (pv 0) ae))⟩))
   (af (fV PassesOwn.never rfl (Um (K:=K) rfl (by rfl) T.fL (pv 1)) (IA rfl (b5 (ax (i:=2) dU.nd rfl (by walk_at "o")) (b5 (ax (i:=3) dU.nd rfl (by walk_at "o")) jo))) (aj (fJ (jm (gc (ar SK (hr.mono (by decide)) (by rfl) T.Rx T.Ro T.vQ .nil aA (aa (pv 3) ae)))) (aj jn) bR)))
   (af (c6 (osc:=ad cT) (ON:=["text","rows","number","words","ins","sums","stores","outs"]) (N:=["words"]) (n:=1) (fx:=[]) (i:=4) dU.nd rfl rfl rfl rfl rfl rfl (by decide +kernel) (aR (K:=K) rfl (pv 1)) (aF (by decide)) (fun _ _ _ _ _=>⟨(ax (i:=0) (show List.Nodup (["words"]:List Str) from by decide +kernel) rfl (by walk_at "o")),(km (bc pN (bC (bv (K:=K) rfl) (pv 0) al (fun _ _=>rfl)) bU (bu _))),(bC (bv (K:=K) rfl) (pv 0) al (fun _ _=>rfl))⟩))
   (af (c6 (osc:=ad cT) (ON:=["text","rows","number","words","ins","sums","stores","outs"]) (N:=["words"]) (n:=1) (fx:=[]) (i:=5) dU.nd rfl rfl rfl rfl rfl rfl (by decide +kernel) (aR (K:=K) rfl (pv 1)) (aF (by decide)) (fun _ _ _ _ _=>⟨(ax (i:=0) (show List.Nodup (["words"]:List Str) from by decide +kernel) rfl (by walk_at "o")),(km (bc pN (bC (bv (K:=K) rfl) (pv 0) al (fun _ _=>rfl)) bU (bu _))),(gJ (aa (bC (bv (K:=K) rfl) (pv 0) al (fun _ _=>rfl)) (aa (o7 (o0 (K:=K) rfl) (pv 0) (qJ al) zb) ae)))⟩))
   (af (c6 (osc:=ad cT) (ON:=["text","rows","number","words","ins","sums","stores","outs"]) (N:=["words"]) (n:=1) (fx:=[]) (i:=6) dU.nd rfl rfl rfl rfl rfl rfl (by decide +kernel) (aR (K:=K) rfl (pv 1)) (aF (by decide)) (fun _ _ _ _ _=>⟨(ax (i:=0) (show List.Nodup (["words"]:List Str) from by decide +kernel) rfl (by walk_at "o")),(km (bc pN (bC (bv (K:=K) rfl) (pv 0) al (fun _ _=>rfl)) bU (bu _))),(gJ (aa (bC (bv (K:=K) rfl) (pv 0) al (fun _ _=>rfl)) (aa (bC (bv (K:=K) rfl) (pv 0) al (fun _ _=>rfl)) ae)))⟩))
   (af (c6 (osc:=ad cT) (ON:=["text","rows","number","words","ins","sums","stores","outs"]) (N:=["words"]) (n:=1) (fx:=[]) (i:=7) dU.nd rfl rfl rfl rfl rfl rfl (by decide +kernel) (aR (K:=K) rfl (pv 1)) (aF (by decide)) (fun _ _ _ _ _=>⟨(ax (i:=0) (show List.Nodup (["words"]:List Str) from by decide +kernel) rfl (by walk_at "o")),(km (bc pN (bC (bv (K:=K) rfl) (pv 0) al (fun _ _=>rfl)) bU (bu _))),(bC (bv (K:=K) rfl) (pv 0) al (fun _ _=>rfl))⟩))
   (aj (aM (me T.acy fA (hr.mono (by decide)) (by rfl) T.ab9 T.fu .nil aA (aa (pv 4) (aa (pv 5) (aa (pv 6) (aa (pv 7) ae)))))))))))))),az (σ':=[some _,none,none,none,none,none,none,none]) rfl ?_⟩
  walk_at "l2"
  refine ⟨txtR rows,rfl,by omega,fun D1 H1 f1 s1 e1=>?_⟩
  rw [erow] at e1
  walk_at "l2"
  intro D2 hD2
  refine aX (xs:=(rows.map rowT).map V.str) (fun i ys H'=>∃ ds:List Addr,ys=ds.map V.ref∧Same H1 H'∧H' D2=some (.lst ys)∧ds.length=i∧(∀ d∈ds,d≠D2)∧∀ (j:Nat) (d:Addr) (r:List Str),ds[j]? =some d→rows[j]? =some r→H' d=some (.lst (r.map V.str))) ⟨[],rfl,bf hD2,av,rfl,fun _ h=>(by cases h),fun j d r h=>(by simp at h)⟩ (fun i ys H' _ ⟨_,_,s',_⟩=>SqL.of (s'.get e1)) ?_ ?_
  ·rintro i y ys H' hy ⟨ds,rfl,s',e',ld,nd,hd⟩
   obtain ⟨z,hz,rfl⟩:=aC hy
   rw [List.getElem?_map] at hz
   obtain ⟨r,hr',rfl⟩:=Option.map_eq_some_iff.mp hz
   have hlt:=(List.getElem?_eq_some_iff.mp hr').1
   have hm:=List.mem_of_getElem? hr'
   have hrl:=rl r hm
   walk_at "l2"
   refine ⟨rowT r,rfl,by omega,fun D3 H3 f3' s3 e3=>?_⟩
   rw [PV (fm r hm).wd (fm r hm).ne] at e3
   have hDD:D3≠D2:=fun z=>by rw [z,e'] at f3';cases f3'
   have k3:∀ b ob,b≠D2→H3 b=some ob→upd H3 D2 (.lst (ds.map V.ref++[.ref D3])) b=some ob:=fun b ob n e=>by rw [aB n];exact e
   refine ⟨s3.get e',by rw [List.length_map];exact aP (by omega),ds++[D3],by rw [List.map_append];rfl,fun b ob e=>k3 _ _ (ai e hD2) (s3.get (s'.get e)),av,by rw [List.length_append,ld];rfl,fun d hd'=>?_,fun j d r' hj hj'=>?_⟩
   ·rcases List.mem_append.mp hd' with h | h
    ·exact nd d h
    ·rw [List.mem_singleton.mp h];exact hDD
   ·by_cases hjl:j < ds.length
    ·rw [List.getElem?_append_left hjl] at hj
     exact k3 _ _ (nd d (List.mem_of_getElem? hj)) (s3.get (hd j d r' hj hj'))
    ·have hl:=(List.getElem?_eq_some_iff.mp hj).1
     rw [List.length_append,List.length_singleton] at hl
     rw [List.getElem?_append_right (by omega),show j - ds.length=0 by omega] at hj
     cases hj
     rw [show j=i by omega,hr'] at hj'
     cases hj'
     exact k3 _ _ hDD e3
  ·rintro ys H2 ⟨ds,rfl,s2,e2,ld,nd,hd⟩
   rw [List.length_map,List.length_map] at ld
   have hd2:∀ {j:Nat} {d:Addr} {r:List Str},ds[j]? =some d→rows[j]? =some r→H2 d=some (.lst (r.map V.str)):=fun {j d r}=>hd j d r
   have dr:∀ {j:Nat} {d:Addr},ds[j]? =some d→∃ r,rows[j]? =some r∧r∈rows:=fun {j d} h=>by
    have hl:=(List.getElem?_eq_some_iff.mp h).1
    exact ⟨_,List.getElem?_eq_getElem (by omega),List.getElem_mem _⟩
   have s02:=s1.trans s2
   clear hd nd e1 s2 s1 f1
   walk_at "l2"
   refine GW (xs:=ds.map V.ref) (fun i σ H'=>∃ v2 v3 v4 v5 v6 v7,σ=[some (.str (txtR rows)),some (.ref D2),v2,v3,v4,v5,v6,v7]∧Same H2 H') ⟨none,none,none,none,none,none,rfl,Same.refl _⟩ (fun i σ H' _ ⟨_,_,_,_,_,_,_,s'⟩=>SqL.of (s'.get e2)) ?_ ?_
   ·rintro i y σ H' pz H3 hy ⟨v2,v3,v4,v5,v6,v7,rfl,s'⟩ fp s3 e3
    obtain ⟨d,hd',rfl⟩:=aC hy
    obtain ⟨r,hr',hm⟩:=dr hd'
    walk_at "l2"
    refine ⟨d,r,rfl,s3.get (s'.get (hd2 hd' hr')),fm r hm,fun H4 s4=>?_⟩
    walk_at "l2"
    exact ⟨_,_,_,_,_,_,rfl,s'.trans (s3.trans s4)⟩
   ·rintro σ H3 ⟨v2,v3,v4,v5,v6,v7,rfl,s3⟩
    have e23:=s3.get e2
    walk_at "l2"
    intro Di hDi
    refine aX (xs:=ds.map V.ref) (fun i ys H'=>Cs (fun i ys=>ys=(((rows.take i).filter (kd "in")).map fun r=>r.getD 1 "").map V.str) H3 Di i ys H') (Cs.zero hDi rfl) (fun i ys H' _ c=>SqL.of (c.same.get (s3.get e2))) (fun i y ys H' hy c=>?_) (fun ys H4 c=>?_)
    ·obtain ⟨d,hd',rfl⟩:=aC hy
     obtain ⟨r,hr',hm⟩:=dr hd'
     have hlt:=(List.getElem?_eq_some_iff.mp hr').1
     have er:=c.same.get (s3.get (hd2 hd' hr'))
     have l2r:=fl r hm
     have g0:=gd r 0 (by omega)
     have g1:=gd r 1 (by omega)
     walk_at "l2"
     by_cases hk:r.getD 0 ""="in"
     ·refine rW (decide_eq_true (by rw [hk])) ?_
      walk_at "l2"
      refine Cs.put hDi c.same c.at' c.len (by omega) ?_
      rw [c.pv,fs "in" i r hr',if_pos (show kd "in" r=true from decide_eq_true hk),List.map_append,List.map_append];rfl
     ·refine iS (decide_eq_false fun e=>hk (V.str.inj e)) ?_
      refine Cs.skip c.same c.at' c.len ?_
      rw [c.pv,fs "in" i r hr',if_neg (show ¬ kd "in" r=true from fun z=>hk (of_decide_eq_true z)),List.append_nil]
    ·have eDi:=c.at'
     rw [c.pv,List.length_map,ld,List.take_length] at eDi
     have s4':=c.same
     clear c
     have s24:=s3.trans s4'
     walk_at "l2"
     intro Ds hDs
     refine aX (xs:=ds.map V.ref) (fun i ys H'=>∃ rs:List Rw,ys=rs.map (fun r=>V.ref r.1)∧Same H4 H'∧H' Ds=some (.lst ys)∧rs.length≤i∧RwL H' rs∧(∀ r∈rs,r.2.1≠Ds)∧rs.map (·.2.2)=((rows.take i).filter (kd "sum")).map fun r=>(r.getD 1 "",r.drop 3)) ⟨[],rfl,bf hDs,av,Nat.le_refl _,fun _ h=>(by cases h),fun _ h=>(by cases h),rfl⟩ (fun i ys H' _ ⟨_,_,s',_⟩=>SqL.of (s'.get (s24.get e2))) ?_ ?_
     ·rintro i y ys H' hy ⟨rs,ey,s',e',lrs,rk,rd,er0⟩
      obtain ⟨d,hd',rfl⟩:=aC hy
      obtain ⟨r,hr',hm⟩:=dr hd'
      have hlt:=(List.getElem?_eq_some_iff.mp hr').1
      have er:=s'.get (s24.get (hd2 hd' hr'))
      have l2r:=fl r hm
      have g0:=gd r 0 (by omega)
      have g1:=gd r 1 (by omega)
      walk_at "l2"
      by_cases hk:r.getD 0 ""="sum"
      ·have hkd:kd "sum" r=true:=decide_eq_true hk
       refine rW (decide_eq_true (by rw [hk])) ?_
       walk_at "l2"
       intro Dw H5 f5 s5 e5
       rw [show cutV (r.map V.str) (some 3) none=(r.drop 3).map V.str from (yH (r.map V.str) 3 (by rw [List.length_map];exact f3 r hm hkd)).trans (List.map_drop ..).symm] at e5
       walk_at "l2"
       intro tp H6 f6 s6 e6
       have s56:=s5.trans s6
       have e'6:=s56.get e'
       have hDw:Dw≠Ds:=fun z=>by rw [z,e'] at f5;cases f5
       have k6:∀ b ob,b≠Ds→H6 b=some ob→upd H6 Ds (.lst (ys++[.ref tp])) b=some ob:=fun b ob n e=>by rw [aB n];exact e
       refine ⟨e'6,by rw [ey,List.length_map];exact aP (by omega),rs++[(tp,Dw,r.getD 1 "",r.drop 3)],by rw [ey,List.map_append];rfl,fun b ob e=>k6 _ _ (ai e hDs) (s56.get (s'.get e)),av,by rw [List.length_append,List.length_singleton];omega,fun r' hr2=>?_,fun r' hr2=>?_,?_⟩
       ·rcases List.mem_append.mp hr2 with h | h
        ·have t1:=s56.get (rk r' h).1
         exact ⟨k6 _ _ (dB t1 e'6 fun z=>by cases z) t1,k6 _ _ (rd r' h) (s56.get (rk r' h).2)⟩
        ·rw [List.mem_singleton.mp h]
         exact ⟨k6 _ _ (dB e6 e'6 fun z=>by cases z) e6,k6 _ _ hDw (s6.get e5)⟩
       ·rcases List.mem_append.mp hr2 with h | h
        ·exact rd r' h
        ·rw [List.mem_singleton.mp h];exact hDw
       ·rw [List.map_append,er0,fs "sum" i r hr',if_pos hkd,List.map_append];rfl
      ·refine iS (decide_eq_false fun e=>hk (V.str.inj e)) ?_
       exact ⟨rs,ey,s',e',by omega,rk,rd,by rw [er0,fs "sum" i r hr',if_neg (show ¬ kd "sum" r=true from fun z=>hk (of_decide_eq_true z)),List.append_nil]⟩
     ·rintro ys H5 ⟨rs,rfl,s5',eDs,lrs,rk,rd,er0⟩
      rw [List.length_map,ld,List.take_length] at er0
      have s25:=s24.trans s5'
      walk_at "l2"
      intro Dt hDt
      refine aX (xs:=ds.map V.ref) (fun i ys H'=>∃ qs:List Qs,ys=qs.map (fun r=>V.ref r.1)∧Same H5 H'∧H' Dt=some (.lst ys)∧qs.length≤i∧QsK H' qs∧qs.map (·.2)=((rows.take i).filter (kd "store")).map fun r=>(r.getD 1 "",r.getD 3 "")) ⟨[],rfl,bf hDt,av,Nat.le_refl _,fun _ h=>(by cases h),rfl⟩ (fun i ys H' _ ⟨_,_,s',_⟩=>SqL.of (s'.get (s25.get e2))) ?_ ?_
      ·rintro i y ys H' hy ⟨qs,ey,s',e',lqs,qk,eq0⟩
       obtain ⟨d,hd',rfl⟩:=aC hy
       obtain ⟨r,hr',hm⟩:=dr hd'
       have hlt:=(List.getElem?_eq_some_iff.mp hr').1
       have er:=s'.get (s25.get (hd2 hd' hr'))
       have l2r:=fl r hm
       have g0:=gd r 0 (by omega)
       have g1:=gd r 1 (by omega)
       walk_at "l2"
       by_cases hk:r.getD 0 ""="store"
       ·have hkd:kd "store" r=true:=decide_eq_true hk
        have g3:=gd r 3 (by have:=f4 r hm hkd;omega)
        refine rW (decide_eq_true (by rw [hk])) ?_
        walk_at "l2"
        intro tp H6 f6 s6 e6
        have e'6:=s6.get e'
        refine ⟨e'6,by rw [ey,List.length_map];exact aP (by omega),qs++[(tp,r.getD 1 "",r.getD 3 "")],by rw [ey,List.map_append];rfl,fun b ob e=>?_,av,by rw [List.length_append,List.length_singleton];omega,fun q' hq'=>?_,?_⟩
        ·rw [aB (ai e hDt)];exact s6.get (s'.get e)
        ·have:H6 q'.1=some (.tup [.str q'.2.1,.str q'.2.2]):=by
          rcases List.mem_append.mp hq' with h | h
          ·exact s6.get (qk q' h)
          ·rw [List.mem_singleton.mp h];exact e6
         rw [aB (dB this e'6 fun z=>by cases z)];exact this
        ·rw [List.map_append,eq0,fs "store" i r hr',if_pos hkd,List.map_append];rfl
       ·refine iS (decide_eq_false fun e=>hk (V.str.inj e)) ?_
        exact ⟨qs,ey,s',e',by omega,qk,by rw [eq0,fs "store" i r hr',if_neg (show ¬ kd "store" r=true from fun z=>hk (of_decide_eq_true z)),List.append_nil]⟩
      ·rintro ys H6 ⟨qs,rfl,s6',eDt,lqs,qk,eq0⟩
       rw [List.length_map,ld,List.take_length] at eq0
       have s26:=s25.trans s6'
       walk_at "l2"
       intro Do hDo
       refine aX (xs:=ds.map V.ref) (fun i ys H'=>Cs (fun i ys=>ys=(((rows.take i).filter (kd "out")).map fun r=>r.getD 1 "").map V.str) H6 Do i ys H') (Cs.zero hDo rfl) (fun i ys H' _ c=>SqL.of (c.same.get (s26.get e2))) (fun i y ys H' hy c=>?_) (fun ys H7 c=>?_)
       ·obtain ⟨d,hd',rfl⟩:=aC hy
        obtain ⟨r,hr',hm⟩:=dr hd'
        have hlt:=(List.getElem?_eq_some_iff.mp hr').1
        have er:=c.same.get (s26.get (hd2 hd' hr'))
        have l2r:=fl r hm
        have g0:=gd r 0 (by omega)
        have g1:=gd r 1 (by omega)
        walk_at "l2"
        by_cases hk:r.getD 0 ""="out"
        ·refine rW (decide_eq_true (by rw [hk])) ?_
         walk_at "l2"
         refine Cs.put hDo c.same c.at' c.len (by omega) ?_
         rw [c.pv,fs "out" i r hr',if_pos (show kd "out" r=true from decide_eq_true hk),List.map_append,List.map_append];rfl
        ·refine iS (decide_eq_false fun e=>hk (V.str.inj e)) ?_
         refine Cs.skip c.same c.at' c.len ?_
         rw [c.pv,fs "out" i r hr',if_neg (show ¬ kd "out" r=true from fun z=>hk (of_decide_eq_true z)),List.append_nil]
       ·have eDo:=c.at'
        rw [c.pv,List.length_map,ld,List.take_length] at eDo
        have s7':=c.same
        clear c
        walk_at "l2"
        intro x dx8 H8 f8 s8 e8
        have s68:=s7'.trans s8
        have s58:=s6'.trans s68
        have s48:=s5'.trans s58
        refine ⟨x,dx8,Di,Ds,Dt,Do,rs,qs,netR rows,rfl,e8,⟨s48.get eDi,s58.get eDs,rk.same s58,er0,s68.get eDt,fun q' m=>s68.get (qk q' m),eq0,s8.get eDo⟩,g,fun H9 od k9 na=>⟨rfl,?_⟩⟩
        have s79:Same H7 H9:=fun b ob e=>k9 _ _ (ai e f8) (s8.get e)
        have s07:=s02.trans (s26.trans s7')
        exact q x H9 od (s07.free f8) (s07.trans s79) na
end
section
variable {P:Program} {w:World} {K:PySem.W.Frag} {mg:Str→Option Value} {base:Heap} {a:Ad}
local macro_rules | `(tactic| walk_at "l2step") =>`(tactic| first | ((with_reducible refine' fN ?e ?_);(case e=>walk_at "l2kind")) | ((with_reducible refine' jI ?e ?_);(case e=>walk_at "l2kind")) | (with_reducible refine dh ?_) | (with_reducible refine gb ?_))
theorem zw (T:Tx K mg a):FnOk P w K mg base CX0 1 a.bL a.kH ["self"] (aaX (NAof a)):=by
 refine T.ia.ok y3 (fun vs H Q E h=>?_) (fun cdv A outer s H vs Q E hr h=>?_)
 ·obtain ⟨p,N,od,rfl,_⟩:=h;rfl
 ·obtain ⟨p,N,od,rfl,na,q⟩:=h
  obtain ⟨dx,i,s,t,o,d,tq,rs,qs,ws,hp,kp,wi,eq⟩:=na.ho
  have hs:=kp.s
  refine ⟨_,((aj (aM (aQ (cg (K:=K) rfl) (by rfl) T.gh PyProof.Rows.boot_list (aa (aN (K:=K) rfl (pv 0) rfl) ae))))),az (σ':=[some _]) rfl ?_⟩
  walk_at "l2"
  refine aH hp T.de T.lD rfl ?_
  walk_at "l2"
  intro D H2 f2 s2 e2
  exact q D H2 rs f2 s2 e2 (RwK.same kp.sr s2) kp.es
theorem LG (T:Tx K mg a):FnOk P w K mg base CX0 2 a.eL a.vy ["net"] (aaY (NAof a)):=by
 have fz:=@jv P w K mg base a T
 have Ez:=@zw P w K mg base a T
 have dE:=@gX P w K mg base a T
 have d7:=@iD P w K mg base a T
 refine T.pB.ok yW (fun vs H Q E h=>?_) (fun cdv A outer s H vs Q E hr h=>?_)
 ·obtain ⟨p,N,od,rfl,_⟩:=h;rfl
 ·obtain ⟨p,N,od,rfl,na,q⟩:=h
  obtain ⟨dx,i,s,t,o,d,tq,rs,qs,ws,hp,kp,wi,eq⟩:=na.ho
  have g:=na.g
  have li:=g.li
  have ls:=g.ls
  have lt:=g.lt
  have lo:=g.lo
  have fm:=FI g
  have lrw:=za g
  refine ⟨_,((af (c6 (osc:=ad cR) (ON:=["net","rows"]) (N:=["name"]) (n:=1) (fx:=[]) (i:=1) yW.nd rfl rfl rfl rfl rfl rfl (by decide +kernel) (aR (K:=K) rfl (cf (pv 0) T.de T.kD fz (hr.mono (by decide)) T.fq .nil aA)) (aF (by decide)) (fun _ _ _ _ _=>⟨(ax (i:=0) (show List.Nodup (["name"]:List Str) from by decide +kernel) rfl (by walk_at "o")),bx,(fW (aa bU (aa (pv 0) ae)))⟩))
   (af (b8 (iO (K:=K) rfl PySem.F.plainAttrs_list PySem.F.slot_list_extend PySem.F.type_list_extend lE (pv 1) (aa (ci (osc:=ad cR) (ON:=["net","rows"]) (N:=["row"]) (n:=1) (fx:=[]) rfl rfl rfl (by decide +kernel) (aR (K:=K) rfl (cf (pv 0) T.de T.C7 Ez (hr.mono (by decide)) T.kN .nil aA)) (aF (by decide)) (fun _ _ _ _ _=>⟨(ax (i:=0) (show List.Nodup (["row"]:List Str) from by decide +kernel) rfl (by walk_at "o")),bx,(aG lg (fW (aa bU (aa (bC (bg (K:=K) rfl) (pv 0) al (fun _ _=>rfl)) (aa bU ae)))) (aQ (cg (K:=K) rfl) (by rfl) T.gh PyProof.Rows.boot_list (aa (bC (bg (K:=K) rfl) (pv 0) al (fun _ _=>rfl)) ae)))⟩)) ae)))
   (af (b8 (iO (K:=K) rfl PySem.F.plainAttrs_list PySem.F.slot_list_extend PySem.F.type_list_extend lE (pv 1) (aa (ci (osc:=ad cR) (ON:=["net","rows"]) (N:=["row"]) (n:=1) (fx:=[]) rfl rfl rfl (by decide +kernel) (aR (K:=K) rfl (cf (pv 0) T.de T.iF dE (hr.mono (by decide)) T.dD .nil aA)) (aF (by decide)) (fun _ _ _ _ _=>⟨(ax (i:=0) (show List.Nodup (["row"]:List Str) from by decide +kernel) rfl (by walk_at "o")),bx,(fW (aa bU (aa (bC (bg (K:=K) rfl) (pv 0) al (fun _ _=>rfl)) (aa bU (aa (bC (bg (K:=K) rfl) (pv 0) al (fun _ _=>rfl)) ae)))))⟩)) ae)))
   (af (b8 (iO (K:=K) rfl PySem.F.plainAttrs_list PySem.F.slot_list_extend PySem.F.type_list_extend lE (pv 1) (aa (ci (osc:=ad cR) (ON:=["net","rows"]) (N:=["wire"]) (n:=1) (fx:=[]) rfl rfl rfl (by decide +kernel) (aR (K:=K) rfl (cf (pv 0) T.de T.jA d7 (hr.mono (by decide)) T.d5 .nil aA)) (aF (by decide)) (fun _ _ _ _ _=>⟨(ax (i:=0) (show List.Nodup (["wire"]:List Str) from by decide +kernel) rfl (by walk_at "o")),bx,(fW (aa bU (aa (pv 0) ae)))⟩)) ae)))
   (aj (aM (iO (K:=K) rfl PySem.F.plainAttrs_str PySem.F.slot_str_join PySem.F.type_str_join (OP (K:=K) rfl) bU (aa (ci (osc:=ad cR) (ON:=["net","rows"]) (N:=["words"]) (n:=1) (fx:=[]) rfl rfl rfl (by decide +kernel) (aR (K:=K) rfl (pv 1)) (aF (by decide)) (fun _ _ _ _ _=>⟨(ax (i:=0) (show List.Nodup (["words"]:List Str) from by decide +kernel) rfl (by walk_at "o")),bx,(iO (K:=K) rfl PySem.F.plainAttrs_str PySem.F.slot_str_join PySem.F.type_str_join (OP (K:=K) rfl) bU (aa (pv 0) ae))⟩)) ae))))))))),az (σ':=[some _,none]) rfl ?_⟩
  walk_at "l2"
  refine aV hp rfl ?_
  walk_at "l2"
  refine ⟨p,N,od,rfl,na,fun D1 H1 f1 s1 e1=>?_⟩
  walk_at "l2"
  intro D2 hD2
  refine aX (xs:=N.ins.map V.str) (fun i ys H'=>Same H1 H'∧H' D2=some (.lst ys)∧Lrw H1 H' D2 ys ((N.ins.take i).map fun z=>[("in":Str),z])) ⟨bf hD2,av,Lrw.nil⟩ (fun i ys H' _ ⟨s',_⟩=>SqL.of (s'.get e1)) ?_ ?_
  ·rintro i y ys H' hy ⟨s',e',lr⟩
   obtain ⟨z,hz,rfl⟩:=aC hy
   have hlt:=(List.getElem?_eq_some_iff.mp hz).1
   walk_at "l2"
   intro D3 H3 f3 s3 e3
   have hlen:=lr.len
   rw [List.length_map,List.length_take] at hlen
   refine ⟨s3.get e',aP (by omega),fun b ob e=>?_,av,?_⟩
   ·rw [aB (ai e hD2)];exact s3.get (s'.get e)
   ·rw [take_succ hz,List.map_append]
    exact lr.put (s'.free f3) e' f3 s3 e3
  ·rintro ys H2 ⟨s2,e2,lr2⟩
   rw [List.length_map,List.take_length] at lr2
   have s02:=s1.trans s2
   have l2:=lr2.len
   rw [List.length_map] at l2
   walk_at "l2"
   refine aV (s02.get hp) rfl ?_
   walk_at "l2"
   refine ⟨p,N,od,rfl,na.same s02,fun D3 H3 rs3 f3 s3 e3 rk es=>?_⟩
   have lrs:rs3.length=N.sums.length:=by rw [← es,List.length_map]
   walk_at "l2"
   intro D4 hD4
   refine aX (xs:=rs3.map fun r=>V.ref r.1) (fun i ys H'=>Same H3 H'∧H' D4=some (.lst ys)∧Lrw H3 H' D4 ys ((N.sums.take i).map fun r=>("sum":Str)::r.1::("=":Str)::r.2)) ⟨bf hD4,av,Lrw.nil⟩ (fun i ys H' _ ⟨s',_⟩=>SqL.of (s'.get e3)) ?_ ?_
   ·rintro i y ys H' hy ⟨s',e',lr⟩
    obtain ⟨r,hr',rfl⟩:=aC hy
    have hlt:=(List.getElem?_eq_some_iff.mp hr').1
    obtain ⟨er1,er2⟩:=rk r (List.mem_of_getElem? hr')
    have er1':=s'.get er1
    have hsm:N.sums[i]? =some r.2.2:=by rw [← es,List.getElem?_map,hr'];rfl
    have hlw:=g.lw _ (List.mem_of_getElem? hsm)
    walk_at "l2"
    intro D5 H5 f5 s5 e5
    have er1'':=s5.get er1'
    have er2'':=s5.get (s'.get er2)
    walk_at "l2"
    intro D6 H6 f6 s6 e6
    refine ud (s6.get e5) e6 (by rw [List.length_map,sizeLine_eq];simp;omega) fun D7 H7 f7 s7 e7=>?_
    have s57:=s5.trans (s6.trans s7)
    have hlen:=lr.len
    rw [List.length_map,List.length_take] at hlen
    have f7':H' D7=none:=s5.free (s6.free f7)
    refine ⟨s57.get e',aP (by omega),fun b ob e=>?_,av,?_⟩
    ·rw [aB (ai e hD4)];exact s57.get (s'.get e)
    ·rw [take_succ hsm,List.map_append]
     exact lr.put (s'.free f7') e' f7' s57 e7
   ·rintro ys3 H4 ⟨s4,e4,lr4⟩
    rw [List.length_map,lrs,List.take_length] at lr4
    have l4:=lr4.len
    rw [List.length_map] at l4
    have s24:=s3.trans s4
    have lr4':Lrw H2 H4 D4 ys3 _:=lr4.base s3
    walk_at "l2"
    refine o6 (s24.get e2) e4 (by rw [sizeLine_eq];omega) fun H5 u5=>?_
    have lr5:=lr2.join e2 s2 s24 lr4' u5
    have s15:Same H1 H5:=fun b ob e=>u5.oth _ _ (ai e hD2) (s24.get (s2.get e))
    have s05:=s1.trans s15
    have l5:=lr5.len
    clear lr2 lr4 lr4' e4 e3 rk es f3
    have e5:=u5.at'
    walk_at "l2"
    refine aV (s05.get hp) rfl ?_
    walk_at "l2"
    refine ⟨p,N,od,rfl,na.same s05,fun D6 H6 qs6 f6 s6 e6 qk et=>?_⟩
    have lqs:qs6.length=N.sts.length:=by rw [← et,List.length_map]
    walk_at "l2"
    intro D7 hD7
    refine aX (xs:=qs6.map fun r=>V.ref r.1) (fun i ys H'=>Same H6 H'∧H' D7=some (.lst ys)∧Lrw H6 H' D7 ys ((N.sts.take i).map fun r=>[("store":Str),r.1,("=":Str),r.2])) ⟨bf hD7,av,Lrw.nil⟩ (fun i ys H' _ ⟨s',_⟩=>SqL.of (s'.get e6)) ?_ ?_
    ·rintro i y ys H' hy ⟨s',e',lr⟩
     obtain ⟨r,hr',rfl⟩:=aC hy
     have hlt:=(List.getElem?_eq_some_iff.mp hr').1
     have er1':=s'.get (qk r (List.mem_of_getElem? hr'))
     have hsm:N.sts[i]? =some r.2:=by rw [← et,List.getElem?_map,hr'];rfl
     walk_at "l2"
     intro D8 H8 f8 s8 e8
     have hlen:=lr.len
     rw [List.length_map,List.length_take] at hlen
     refine ⟨s8.get e',aP (by omega),fun b ob e=>?_,av,?_⟩
     ·rw [aB (ai e hD7)];exact s8.get (s'.get e)
     ·rw [take_succ hsm,List.map_append]
      exact lr.put (s'.free f8) e' f8 s8 e8
    ·rintro ys7 H7 ⟨s7,e7,lr7⟩
     rw [List.length_map,lqs,List.take_length] at lr7
     have l7:=lr7.len
     rw [List.length_map] at l7
     have s57:=s6.trans s7
     simp only [List.length_append,List.length_map] at l5
     walk_at "l2"
     refine o6 (s57.get e5) e7 (by rw [sizeLine_eq];simp only [List.length_append];omega) fun H8 u8=>?_
     have lr8:=lr5.join e5 s15 s57 (lr7.base s6) u8
     have s18:Same H1 H8:=fun b ob e=>u8.oth _ _ (ai e hD2) (s57.get (s15.get e))
     have s08:=s1.trans s18
     have l8:=lr8.len
     clear lr5 lr7 e7 e6 qk et f6 e5
     have e8:=u8.at'
     walk_at "l2"
     refine aV (s08.get hp) rfl ?_
     walk_at "l2"
     refine ⟨p,N,od,rfl,na.same s08,fun D9 H9 f9 s9 e9=>?_⟩
     walk_at "l2"
     intro D10 hD10
     refine aX (xs:=N.outs.map V.str) (fun i ys H'=>Same H9 H'∧H' D10=some (.lst ys)∧Lrw H9 H' D10 ys ((N.outs.take i).map fun z=>[("out":Str),z])) ⟨bf hD10,av,Lrw.nil⟩ (fun i ys H' _ ⟨s',_⟩=>SqL.of (s'.get e9)) ?_ ?_
     ·rintro i y ys H' hy ⟨s',e',lr⟩
      obtain ⟨z,hz,rfl⟩:=aC hy
      have hlt:=(List.getElem?_eq_some_iff.mp hz).1
      walk_at "l2"
      intro D11 H11 f11 s11 e11
      have hlen:=lr.len
      rw [List.length_map,List.length_take] at hlen
      refine ⟨s11.get e',aP (by omega),fun b ob e=>?_,av,?_⟩
      ·rw [aB (ai e hD10)];exact s11.get (s'.get e)
      ·rw [take_succ hz,List.map_append]
       exact lr.put (s'.free f11) e' f11 s11 e11
     ·rintro ys10 H10 ⟨s10,e10,lr10⟩
      rw [List.length_map,List.take_length] at lr10
      have l10:=lr10.len
      rw [List.length_map] at l10
      have s810:=s9.trans s10
      simp only [List.length_append,List.length_map] at l8
      walk_at "l2"
      refine o6 (s810.get e8) e10 (by rw [sizeLine_eq];simp only [List.length_append];omega) fun H11 u11=>?_
      have lr11:Lrw H1 H11 D2 _ (rY N):=lr8.join e8 s18 s810 (lr10.base s9) u11
      have s111:Same H1 H11:=fun b ob e=>u11.oth _ _ (ai e hD2) (s810.get (s18.get e))
      have s011:=s1.trans s111
      have e11:=u11.at'
      clear lr8 lr10 e10 e9 f9 e8 u11
      generalize ys++ys3++ys7++ys10=Y at lr11 e11
      obtain ⟨ds,rfl,ld,_,_,hd⟩:=lr11
      walk_at "l2"
      intro D12 hD12
      refine aX (xs:=ds.map V.ref) (fun i ys H'=>Cs (fun i ys=>ys=(((rY N).take i).map rowT).map V.str) H11 D12 i ys H') (Cs.zero hD12 rfl) (fun i ys H' _ c=>SqL.of (c.same.get e11)) (fun i y ys H' hy c=>?_) (fun ys H12 c=>?_)
      ·obtain ⟨d,hd',rfl⟩:=aC hy
       have hlt:=(List.getElem?_eq_some_iff.mp hd').1
       obtain ⟨r,hr'⟩:∃ r,(rY N)[i]? =some r:=⟨_,List.getElem?_eq_getElem (by omega)⟩
       have hm:=List.mem_of_getElem? hr'
       have er:=c.same.get (hd i d r hd' hr')
       have b1:=(fm r hm).len
       have hsum:∀ (l:List Str),(∀ w∈l,w.length≤6)→(l.map (·.length)).sum≤l.length * 6:=fun l=>by
        induction l with
        | nil=>intro _;simp
        | cons x l ih=>intro h;have:=ih fun w hw=>h w (List.mem_cons_of_mem _ hw);have:=h x List.mem_cons_self;simp only [List.map_cons,List.sum_cons,List.length_cons];omega
       have hs:=hsum r b1.2
       walk_at "l2"
       refine ZM (SqL.of er) (by rw [Fu];show _ + r.length * 1≤_;omega) ?_
       rw [Oj,Fu]
       refine Cs.put hD12 c.same c.at' c.len (by omega) ?_
       rw [c.pv,take_succ hr',List.map_append,List.map_append];rfl
      ·have e12:=c.at'
       rw [c.pv,List.length_map,ld,List.take_length] at e12
       have hsum:∀ (l:List (List Str)),(∀ r∈l,Fm r)→((l.map rowT).map (·.length)).sum≤l.length * 189:=fun l=>by
        induction l with
        | nil=>intro _;simp
        | cons x l ih=>
          intro h
          have:=ih fun w hw=>h w (List.mem_cons_of_mem _ hw)
          have b1:=(h x List.mem_cons_self).len
          have b2:=FJ b1.2
          have b3:x.length * 7≤27 * 7:=Nat.mul_le_mul_right 7 b1.1
          simp only [List.map_cons,List.sum_cons,List.length_cons];omega
       have hs:=hsum (rY N) fm
       walk_at "l2"
       refine ZM (SqL.of e12) (by rw [KY,List.length_map];show _ + (rY N).length * 1≤_;omega) ?_
       rw [Oj,KY]
       exact q _ (s011.trans c.same)
end
section
variable {P:Program} {w:World} {K:PySem.W.Frag} {mg:Str→Option Value} {base:Heap} {a:Ad}
theorem wv (T:Tx K mg a):FnOk P w K mg base CX0 1 a.dq a.rD ["_law_script","_law_k"] (Op K):=by
 refine T.mU.ok Ii (fun vs H Q E h=>?_) (fun cdv A outer s H vs Q E hr h=>?_)
 ·obtain ⟨a,ns,k,rfl,_⟩:=h;rfl
 ·obtain ⟨p,ns,k,rfl,hS,h0,q⟩:=h
  refine ⟨_,((af (fJ (bc Uu (pv 1) (aD (aK (K:=K) rfl) (by rfl) T.fc PySem.boot_len (aa (pv 0) ae)) (bu _)) (aj (aM (bC (bv (K:=K) rfl) (pv 0) (pv 1) (fun _ _=>rfl)))) bR)
   (aj (aM (aG dP (aG zr al (pv 1)) al))))),az (σ':=[some _,some _]) rfl ?_⟩
  walk_at "l2"
  rw [List.length_map]
  unfold cell at q
  refine ite2 (fun hc=>?_) (fun hc=>?_)
  ·have hc:=of_decide_eq_true hc
   have ha:atI (ns.map V.int) k=some (.int (ns.getD k.toNat 0)):=by
    obtain ⟨j,rfl⟩:=Int.eq_ofNat_of_zero_le h0
    have hj:j < ns.length:=by omega
    exact fO (by rw [List.getElem?_map,List.getElem?_eq_getElem hj,List.getD_eq_getElem?_getD,Int.toNat_natCast,List.getElem?_eq_getElem hj];rfl)
   rw [if_pos hc] at q
   walk_at "l2"
   exact q
  ·have hc:¬ k < ns.length:=fun z=>hc (decide_eq_true z)
   rw [if_neg hc] at q
   walk_at "l2"
   exact q
theorem OZ {H:Hp} {Q:VK} {E:XK} {c k:Int} (h0:0≤k) (h1:k < 100000) (q:Q (.int (mixV c k)) H):Ty [.int c,.int k] H Q E:=⟨c,k,rfl,h0,h1,q⟩
local macro_rules | `(tactic| walk_at "l2step") =>`(tactic| first | ((with_reducible refine' OZ ?a ?b ?_);(case a=>walk_at "l2side");(case b=>walk_at "l2side")) | ((with_reducible refine' Ho ?e ?a ?_);(case e=>walk_at "l2hp");(case a=>walk_at "l2side")))
theorem qP (T:Tx K mg a):FnOk P w K mg base CX0 1 a.eU a.vE ["_law_cell_here","_law_k"] Ty:=by
 refine T.pI.ok qC (fun vs H Q E h=>?_) (fun cdv A outer s H vs Q E hr h=>?_)
 ·obtain ⟨c,k,rfl,_⟩:=h;rfl
 ·obtain ⟨c,k,rfl,h0,h1,q⟩:=h
  refine ⟨_,((af (aW (i:=2) qC.nd rfl (by walk_at "o") (aG d0 (aG dP (aG dP (aG zr (aG d0 (pv 0) al) al) (aG zr al (pv 1))) al) al))
   (af (aW (i:=2) qC.nd rfl (by walk_at "o") (aG d0 (aG zr (pv 2) (pv 2)) al))
   (aj (aM (aG d0 (aG zr (pv 2) (aG dP (aG dP (pv 2) (aG zr al (pv 1))) al)) al)))))),az (σ':=[some _,some _,none]) rfl ?_⟩
  walk_at "l2"
  exact q
theorem IO (T:Tx K mg a):FnOk P w K mg base CX0 2 a.dn a.rC ["_law_cell_here","_law_k"] ED:=by
 have b7:=@qP P w K mg base a T
 refine T.mT.ok jQ (fun vs H Q E h=>?_) (fun cdv A outer s H vs Q E hr h=>?_)
 ·obtain ⟨c,k,rfl,_⟩:=h;rfl
 ·obtain ⟨c,k,rfl,h0,h1,q⟩:=h
  have hk:decide (k < 40)=true:=decide_eq_true h1
  refine ⟨_,((af (aW (i:=2) jQ.nd rfl (by walk_at "o") bU)
   (af (aW (i:=3) jQ.nd rfl (by walk_at "o") bU)
   (af (aW (i:=3) jQ.nd rfl (by walk_at "o") (aG lh (pv 3) bU))
   (af (fJ (PW.pt (Z2 (bc Uu (pv 1) al (bu _)) (Ud (bc pN (aG d0 (ar b7 (hr.mono (by decide)) (by rfl) T.cx T.cw T.b6 .nil aA (aa (pv 0) (aa al ae))) al) al (bu _))))) (aj (aM (bC (bv (K:=K) rfl) (iO (K:=K) rfl PySem.F.plainAttrs_str PySem.F.slot_str_split PySem.F.type_str_split Gu (pv 3) (aa bU ae)) (aG d0 (aG dP (pv 1) (ar b7 (hr.mono (by decide)) (by rfl) T.cx T.cw T.b6 .nil aA (aa (pv 0) (aa al ae)))) al) (fun _ _=>rfl)))) bR)
   (aj (aM (aG lh (bC aap (pv 2) (aG d0 (ar b7 (hr.mono (by decide)) (by rfl) T.cx T.cw T.b6 .nil aA (aa (pv 0) (aa al ae))) al) (fun _ _=>rfl)) (aQ j7 (by rfl) T.UV PyProof.Rows.boot_str (aa (aG dP (aG d0 (ar b7 (hr.mono (by decide)) (by rfl) T.cx T.cw T.b6 .nil aA (aa (pv 0) (aa al ae))) al) (aG zr al (pv 1))) ae)))))))))),az (σ':=[some _,some _,none,none]) rfl ?_⟩
  walk_at "l2"
  refine ⟨by decide +kernel,?_⟩
  walk_at "l2"
  generalize hw:((_:Str)++_)=words
  have hw:words=Th:=hw.symm
  by_cases h2:mixV c 402 % 2=0
  ·refine rW (decide_eq_true (by rw [h2])) ?_
   walk_at "l2"
   refine Lg (by decide +kernel) (by rw [hw];decide +kernel) fun D H2 f2 s2 e2=>?_
   have hm:=Int.emod_lt_of_pos (k + mixV c 403) (show (0:Int) < 40 by decide)
   have hm':=Int.emod_nonneg (k + mixV c 403) (show (40:Int)≠0 by decide)
   rw [hw] at e2
   have hat:atI (W40.map V.str) ((k + mixV c 403) % 40)=some (.str (nmf c k)):=by
    obtain ⟨j,hj⟩:=Int.eq_ofNat_of_zero_le hm'
    have lj:j < W40.length:=by rw [HI];omega
    unfold nmf
    rw [if_pos h2,hj]
    refine fO ?_
    rw [List.getElem?_map,List.getD_eq_getElem?_getD,Int.toNat_natCast,List.getElem?_eq_getElem lj];rfl
   have e2:H2 D=some (.lst (W40.map V.str)):=e2
   walk_at "l2"
   exact q H2 s2
  ·refine iS (decide_eq_false fun z=>h2 (V.int.inj z)) ?_
   have hm:=Int.emod_lt_of_pos (mixV c 400) (show (0:Int) < 26 by decide)
   have hm':=Int.emod_nonneg (mixV c 400) (show (26:Int)≠0 by decide)
   have hr1:=Int.emod_lt_of_pos (mixV c 401) (show (0:Int) < 1000 by decide)
   have hr0:=Int.emod_nonneg (mixV c 401) (show (1000:Int)≠0 by decide)
   walk_at "l2"
   refine adC (by decide +kernel) (QZ _ hm' hm) ?_
   walk_at "l2"
   have hn:(mixV c 401 % 1000 + 37 * k).natAbs < 10 ^ 4:=by omega
   have hlog:(mixV c 401 % 1000 + 37 * k).natAbs.log2 < 1920:=by
    rcases Nat.eq_zero_or_pos (mixV c 401 % 1000 + 37 * k).natAbs with z | z
    ·rw [z];decide
    ·exact (Nat.log2_lt (by omega)).mpr (Nat.lt_of_lt_of_le hn (Nat.le_trans (by decide:10 ^ 4≤2 ^ 14) (Nat.pow_le_pow_right (by decide) (by decide))))
   have hlen:=PyProof.Rows.int_text_len_1921 hlog
   refine ⟨hlog,?_⟩
   walk_at "l2"
   refine ⟨by rw [sizeLine_eq];have:(⟨#[97 + (mixV c 400 % 26).toNat]⟩:Str).length=1:=rfl
              omega,?_⟩
   have e:(mixV c 401 % 1000 + 37 * k)=(((mixV c 401 % 1000).toNat + 37 * k.toNat:Nat):Int):=by omega
   have q':=q H (Same.refl _)
   unfold nmf at q'
   rw [if_neg h2] at q'
   rw [e]
   exact q'
end
section
variable {P:Program} {w:World} {K:PySem.W.Frag} {mg:Str→Option Value} {base:Heap} {a:Ad}
local macro_rules | `(tactic| walk_at "l2step") =>`(tactic| first | ((with_reducible refine' OZ ?a ?b ?_);(case a=>walk_at "l2side");(case b=>walk_at "l2side")) | ((with_reducible refine' Ho ?e ?a ?_);(case e=>walk_at "l2hp");(case a=>walk_at "l2side")))
theorem yD {K:PySem.W.Frag} {H:Hp} {D:Addr} {ws:List Str} (h:H D=some (.lst (ws.map V.str))):Rep K H (.ref D) (.lst (ws.map Dt.str)):= .lst (SqL.of h) (by rw [List.length_map,List.length_map]) (T1 V.str Dt.str (fun z=> .str z) ws)
theorem GZ:∀ ws:List Str,yb (ws.map Dt.str)=0
 | []=>rfl
 | w::ws=>by rw [List.map_cons,yb,GZ ws];rfl
theorem VO (ws:List Str):eqD (.lst (ws.map Dt.str)) (.lst [])=decide (ws=[]):=by
 cases ws with
 | nil=>rfl
 | cons w l=>rw [decide_eq_false (by simp)];rfl
theorem FT (T:Tx K mg a):FnOk P w K mg base CX0 2 a.cL a.oC ["_law_cell_here","_law_start","_law_names","_law_digits"] TC:=by
 have b7:=@qP P w K mg base a T
 refine T.ke.ok eg (fun vs H Q E h=>?_) (fun cdv A outer s H vs Q E hr h=>?_)
 ·obtain ⟨c,st,l,zs,dg,rfl,_⟩:=h;rfl
 ·obtain ⟨c,st,l,zs,dg,rfl,st0,st1,hl,ll,q⟩:=h
  have hu1:=Lh hr
  have elen:(((zs.map V.str).length:Nat):Int)=(zs.length:Int):=by rw [List.length_map]
  refine ⟨_,((af (fJ (gc (pv 3)) (af (aW (i:=4) eg.nd rfl (by walk_at "o") (aG d0 (pv 0) (aG aef (aG dP (aD (aK (K:=K) rfl) (by rfl) T.fc PySem.boot_len (aa (pv 2) ae)) al) al)))
   (af (aW (i:=5) eg.nd rfl (by walk_at "o") (fW ae))
   (af (fV PassesOwn.never rfl (ge (by rfl) T.kC (aa al ae)) (ax (i:=6) eg.nd rfl (by walk_at "o")) (Ue (fJ (bc xc (aG d0 (pv 4) (aG dP (aD (aK (K:=K) rfl) (by rfl) T.fc PySem.boot_len (aa (pv 2) ae)) al)) al (bu _)) (aj (b8 (iO (K:=K) rfl PySem.F.plainAttrs_list PySem.F.slot_list_append PySem.F.type_list_append lF (pv 5) (aa (bC (bv (K:=K) rfl) (pv 2) (aG Ur (aG d0 (pv 4) (aG dP (aD (aK (K:=K) rfl) (by rfl) T.fc PySem.boot_len (aa (pv 2) ae)) al)) al) (fun _ _=>rfl)) ae)))) bR)
   (aj (aW (i:=4) eg.nd rfl (by walk_at "o") (aG Uw (pv 4) (aG dP (aD (aK (K:=K) rfl) (by rfl) T.fc PySem.boot_len (aa (pv 2) ae)) al))))))
   (aj (aM (pv 5)))))) bR)
   (af (aW (i:=7) eg.nd rfl (by walk_at "o") (aG d0 (ar b7 (hr.mono (by decide)) (by rfl) T.cx T.cw T.b6 .nil aA (aa (pv 0) (aa (pv 1) ae))) al))
   (aj (aM (ci (osc:=ad dY) (ON:=["_law_cell_here","_law_start","_law_names","_law_digits","_law_left","_law_found","_law_k","_law_many"]) (N:=["_law_k","_law_names","_law_cell_here","_law_start"]) (n:=1) (fx:=[2,0,1]) rfl rfl rfl (by decide +kernel) (ge (by rfl) T.kC (aa (pv 7) ae)) (aF (by decide)) (fun _ _ _ _ _=>⟨(ax (i:=0) (show List.Nodup (["_law_k","_law_names","_law_cell_here","_law_start"]:List Str) from by decide +kernel) rfl (by walk_at "o")),(km (bc (LD (K:=K) rfl hu1) (pv 1) (fW ae) (bu _))),(bC (bv (K:=K) rfl) (pv 1) (aG d0 (ar b7 (hr.mono (by decide)) (by rfl) T.cx T.cw T.b6 .nil aA (aa (pv 2) (aa (aG dP (aG dP (pv 3) al) (pv 0)) ae))) (aD (aK (K:=K) rfl) (by rfl) T.fc PySem.boot_len (aa (pv 1) ae))) (fun _ _=>rfl))⟩))))))),az (σ':=[some _,some _,some _,some _,none,none,none,none]) rfl ?_⟩
  have hpow:(0:Int) < ((((zs.map V.str).length:Nat):Int) + 1) ^ (4:Int).toNat:=Int.pow_pos (by omega)
  have hn1:(0:Int) < (((zs.map V.str).length:Nat):Int) + 1:=by omega
  walk_at "l2"
  cases dg with
  | true=>
    walk_at "l2"
    generalize c % ((((zs.map V.str).length:Nat):Int) + 1) ^ (4:Int).toNat=left
    clear hpow
    intro D H1 f1 s1 e1
    have hl1:=s1.get hl
    walk_at "l2"
    refine AM (fun i σ H'=>∃ (v:Option V) (left:Int) (ws:List Str),σ=[some (V.int c),some (V.int st),some (V.ref l),some (V.bl true),some (V.int left),some (V.ref D),v,none]∧Same H H'∧H' D=some (.lst (ws.map V.str))∧ws.length≤i∧∀ w∈ws,w∈zs) ⟨none,left,[],rfl,s1,e1,Nat.le_refl _,fun _ h=>absurd h (by simp)⟩ ?_ ?_
    ·rintro i σ H' hi ⟨v,left,ws,rfl,s',eD,lw,hw⟩
     have hl':=s'.get hl
     have hi4:i < 4:=hi
     walk_at "l2"
     refine adN (fun σ H2=>∃ ws':List Str,σ=[some (V.int c),some (V.int st),some (V.ref l),some (V.bl true),some (V.int left),some (V.ref D),some (V.int (0 + (i:Int))),none]∧Same H H2∧H2 D=some (.lst (ws'.map V.str))∧ws'.length≤i + 1∧∀ w∈ws',w∈zs) ?_ ?_
     ·have r0:=Int.emod_nonneg left (Int.ne_of_gt hn1)
      have r1:=Int.emod_lt_of_pos left hn1
      walk_at "l2"
      by_cases hr0:0 < left % ((((zs.map V.str).length:Nat):Int) + 1)
      ·refine rW (decide_eq_true hr0) ?_
       obtain ⟨j,hj⟩:=Int.eq_ofNat_of_zero_le (show 0≤left % ((((zs.map V.str).length:Nat):Int) + 1) - 1 by omega)
       have hjl:j < zs.length:=by omega
       have hat:atI (zs.map V.str) (left % ((((zs.map V.str).length:Nat):Int) + 1) - 1)=some (.str zs[j]):=by
        rw [hj]
        exact fO (by rw [List.getElem?_map,List.getElem?_eq_getElem hjl];rfl)
       walk_at "l2"
       refine rX eD (by rw [List.length_map,sizeLine_eq];omega) fun H3 u3=>?_
       walk_at "l2"
       refine ⟨ws++[zs[j]],rfl,fun b o e=>u3.oth _ _ (ai e f1) (s'.get e),by rw [u3.at',List.map_append];rfl,by rw [List.length_append];show _ + 1≤_;omega,fun w hw'=>?_⟩
       rcases List.mem_append.mp hw' with h | h
       ·exact hw w h
       ·rw [List.mem_singleton.mp h];exact List.getElem_mem hjl
      ·refine iS (decide_eq_false hr0) ?_
       walk_at "l2"
       exact ⟨ws,rfl,s',eD,by omega,hw⟩
     ·rintro σ H2 ⟨ws',rfl,s2,eD2,lw',hw'⟩
      have hl2:=s2.get hl
      walk_at "l2"
      exact ⟨_,_,ws',rfl,s2,eD2,lw',hw'⟩
    ·rintro σ H' ⟨v,left,ws,rfl,s',eD,lw,hw⟩
     walk_at "l2"
     exact q D H' ws f1 s' eD lw hw
  | false=>
    have m0:=Int.emod_nonneg (mixV c st) (show (5:Int)≠0 by decide)
    have m1:=Int.emod_lt_of_pos (mixV c st) (show (0:Int) < 5 by decide)
    walk_at "l2"
    intro D hD
    refine g5 (fun i ys H'=>∃ ws:List Str,ys=ws.map V.str∧Same H H'∧H' D=some (.lst ys)∧ws.length≤i∧∀ w∈ws,w∈zs) ⟨[],rfl,bf hD,av,Nat.le_refl _,fun _ h=>absurd h (by simp)⟩ ?_ ?_
    ·rintro i ys H' hi ⟨ws,rfl,s',eD,lw,hw⟩
     have hl':=s'.get hl
     walk_at "l2"
     intro L2 H2 f2 s2 e2
     have hl2:=s2.get hl'
     have eD2:=s2.get eD
     refine abp (yD hl2) (yD (ws:=[]) e2) (by rw [depD,GZ];decide) ?_
     rw [show (List.map Dt.str [])=[] from rfl,VO]
     by_cases hz:zs=[]
     ·rw [decide_eq_true hz]
      walk_at "l2"
      exact ⟨s'.trans s2,eD2,by omega,hw⟩
     ·rw [decide_eq_false hz]
      have hzl:0 < zs.length:=List.length_pos_iff.mpr hz
      have hzp:(0:Int) < (((zs.map V.str).length:Nat):Int):=by omega
      walk_at "l2"
      obtain ⟨j,hj,hjl⟩:=j2 (c:=mixV c (st + 1 + (0 + (i:Int)))) hzp
      have hjl:j < zs.length:=by omega
      have hat:atI (zs.map V.str) (mixV c (st + 1 + (0 + (i:Int))) % (((zs.map V.str).length:Nat):Int))=some (.str zs[j]):=by
       rw [hj]
       exact fO (by rw [List.getElem?_map,List.getElem?_eq_getElem hjl];rfl)
      walk_at "l2"
      refine ⟨eD2,by rw [List.length_map];exact aP (by omega),ws++[zs[j]],by rw [List.map_append];rfl,fun b o e=>?_,av,by rw [List.length_append];show _ + 1≤_;omega,fun w hw'=>?_⟩
      ·rw [aB (ai e hD)];exact s2.get (s'.get e)
      ·rcases List.mem_append.mp hw' with h | h
       ·exact hw w h
       ·rw [List.mem_singleton.mp h];exact List.getElem_mem hjl
    ·rintro ys H' ⟨ws,rfl,s',eD,lw,hw⟩
     exact q D H' ws hD s' eD (by omega) hw
end
section
variable {P:Program} {w:World} {K:PySem.W.Frag} {mg:Str→Option Value} {base:Heap} {a:Ad}
theorem Hj {H:Hp} {Q:VK} {E:XK} {c k:Int} (h0:0≤k) (h1:k < 40) (q:∀ H2,Same H H2→Q (.str (nmf c k)) H2):ED [.int c,.int k] H Q E:=⟨c,k,rfl,h0,h1,q⟩
local macro_rules | `(tactic| walk_at "l2step") =>`(tactic| first | (with_reducible refine dh ?_) | ((with_reducible refine' OZ ?a ?b ?_);(case a=>omega);(case b=>omega)) | ((with_reducible refine' Ho ?e ?a ?_);(case e=>walk_at "l2hp");(case a=>walk_at "l2side")))
theorem LL (T:Tx K mg a):FnOk P w K mg base CX0 3 a.eS a.vD ["_law_script","_law_start","_law_most"] (TD K):=by
 have mQ:=@wv P w K mg base a T
 have b7:=@qP P w K mg base a T
 have mP:=@IO P w K mg base a T
 have KG:=@FT P w K mg base a T
 refine T.pH.ok bw (fun vs H Q E h=>?_) (fun cdv A outer s H vs Q E hr h=>?_)
 ·obtain ⟨p,ns,st,mo,rfl,_⟩:=h;rfl
 ·obtain ⟨p,ns,st,mo,rfl,hS,hst,hmo,q⟩:=h
  have hu1:=Lh hr
  refine ⟨_,((af (aW (i:=3) bw.nd rfl (by walk_at "o") (ar mQ (hr.mono (by decide)) (by rfl) T.rp T.rm T.jL .nil aA (aa (pv 0) (aa (pv 1) ae))))
   (af (aW (i:=4) bw.nd rfl (by walk_at "o") (fW (aa (aG d0 (ar b7 (hr.mono (by decide)) (by rfl) T.cx T.cw T.b6 .nil aA (aa (pv 3) (aa al ae))) al) (aa (aG d0 (ar b7 (hr.mono (by decide)) (by rfl) T.cx T.cw T.b6 .nil aA (aa (pv 3) (aa al ae))) (aG dP (pv 2) al)) (aa (aG d0 (ar b7 (hr.mono (by decide)) (by rfl) T.cx T.cw T.b6 .nil aA (aa (pv 3) (aa al ae))) (aG dP (pv 2) al)) ae)))))
   (af (c6 (osc:=ad eB) (ON:=["_law_script","_law_start","_law_most","_law_cell_here","_law_sizes","_law_ins","_law_stores","_law_known","_law_sums","_law_k","_law_wires_here","_law_at","_law_ends","_law_name_here","_law_outs"]) (N:=["_law_k","_law_cell_here"]) (n:=1) (fx:=[3]) (i:=5) bw.nd rfl rfl rfl rfl rfl rfl (by decide +kernel) (ge (by rfl) T.kC (aa (bC (bv (K:=K) rfl) (pv 4) al (fun _ _=>rfl)) ae)) (aF (by decide)) (fun _ _ _ _ _=>⟨(ax (i:=0) (show List.Nodup (["_law_k","_law_cell_here"]:List Str) from by decide +kernel) rfl (by walk_at "o")),bx,(ar mP (hr.mono (by decide)) (by rfl) T.mw T.mt T.g6 .nil aA (aa (pv 1) (aa (pv 0) ae)))⟩))
   (af (c6 (osc:=ad eB) (ON:=["_law_script","_law_start","_law_most","_law_cell_here","_law_sizes","_law_ins","_law_stores","_law_known","_law_sums","_law_k","_law_wires_here","_law_at","_law_ends","_law_name_here","_law_outs"]) (N:=["_law_k","_law_cell_here"]) (n:=1) (fx:=[3]) (i:=6) bw.nd rfl rfl rfl rfl rfl rfl (by decide +kernel) (ge (by rfl) T.kC (aa (bC (bv (K:=K) rfl) (pv 4) al (fun _ _=>rfl)) ae)) (aF (by decide)) (fun _ _ _ _ _=>⟨(ax (i:=0) (show List.Nodup (["_law_k","_law_cell_here"]:List Str) from by decide +kernel) rfl (by walk_at "o")),bx,(ar mP (hr.mono (by decide)) (by rfl) T.mw T.mt T.g6 .nil aA (aa (pv 1) (aa (aG dP al (pv 0)) ae)))⟩))
   (af (aW (i:=7) bw.nd rfl (by walk_at "o") (aG lg (pv 5) (pv 6)))
   (af (aW (i:=8) bw.nd rfl (by walk_at "o") (fW ae))
   (af (fV PassesOwn.never rfl (ge (by rfl) T.kC (aa (bC (bv (K:=K) rfl) (pv 4) al (fun _ _=>rfl)) ae)) (ax (i:=9) bw.nd rfl (by walk_at "o")) (af (aW (i:=10) bw.nd rfl (by walk_at "o") (ar KG (hr.mono (by decide)) (by rfl) T.JN T.JI T.oR .nil aA (aa (ar mQ (hr.mono (by decide)) (by rfl) T.rp T.rm T.jL .nil aA (aa (pv 0) (aa (aG dP (aG dP (pv 1) al) (pv 9)) ae))) (aa al (aa (pv 7) (aa (iu pN (aG d0 (pv 3) al) al (bu _)) ae))))))
   (af (b8 (iO (K:=K) rfl PySem.F.plainAttrs_list PySem.F.slot_list_append PySem.F.type_list_append lF (pv 8) (aa (gJ (aa (ar mP (hr.mono (by decide)) (by rfl) T.mw T.mt T.g6 .nil aA (aa (pv 3) (aa (aG dP al (pv 9)) ae))) (aa (pv 10) ae))) ae)))
   (aj (aW (i:=7) bw.nd rfl (by walk_at "o") (aG lg (pv 7) (fW (aa (ar mP (hr.mono (by decide)) (by rfl) T.mw T.mt T.g6 .nil aA (aa (pv 3) (aa (aG dP al (pv 9)) ae))) ae))))))))
   (af (aW (i:=11) bw.nd rfl (by walk_at "o") (aG d0 (ar b7 (hr.mono (by decide)) (by rfl) T.cx T.cw T.b6 .nil aA (aa (pv 3) (aa al ae))) (aG dP (aD (aK (K:=K) rfl) (by rfl) T.fc PySem.boot_len (aa (pv 8) ae)) al)))
   (af (aW (i:=8) bw.nd rfl (by walk_at "o") (aG lg (o7 (o0 (K:=K) rfl) (pv 8) (qJ (pv 11)) zb) (EN (by rfl) (by rfl) T.gh T.E5 rfl (o7 (o0 (K:=K) rfl) (pv 8) zb (qJ (pv 11))))))
   (af (aW (i:=12) bw.nd rfl (by walk_at "o") (fW ae))
   (af (fV PassesOwn.never rfl (r9 (K:=K) rfl (by rfl) T.fL (pv 6)) (IA rfl (b5 (ax (i:=9) bw.nd rfl (by walk_at "o")) (b5 (ax (i:=13) bw.nd rfl (by walk_at "o")) jo))) (aj (b8 (iO (K:=K) rfl PySem.F.plainAttrs_list PySem.F.slot_list_append PySem.F.type_list_append lF (pv 12) (aa (gJ (aa (pv 13) (aa (bC (bv (K:=K) rfl) (pv 7) (aG d0 (ar b7 (hr.mono (by decide)) (by rfl) T.cx T.cw T.b6 .nil aA (aa (pv 3) (aa (aG dP al (pv 9)) ae))) (aD (aK (K:=K) rfl) (by rfl) T.fc PySem.boot_len (aa (pv 7) ae))) (fun _ _=>rfl)) ae))) ae)))))
   (af (aW (i:=14) bw.nd rfl (by walk_at "o") (fW ae))
   (Ue (fJ (bc (LD (K:=K) rfl hu1) (pv 7) (fW ae) (bu _)) (aj (c6 (osc:=ad eB) (ON:=["_law_script","_law_start","_law_most","_law_cell_here","_law_sizes","_law_ins","_law_stores","_law_known","_law_sums","_law_k","_law_wires_here","_law_at","_law_ends","_law_name_here","_law_outs"]) (N:=["_law_k","_law_known","_law_cell_here"]) (n:=1) (fx:=[7,3]) (i:=14) bw.nd rfl rfl rfl rfl rfl rfl (by decide +kernel) (ge (by rfl) T.kC (aa (aG d0 (ar b7 (hr.mono (by decide)) (by rfl) T.cx T.cw T.b6 .nil aA (aa (pv 3) (aa al ae))) al) ae)) (aF (by decide)) (fun _ _ _ _ _=>⟨(ax (i:=0) (show List.Nodup (["_law_k","_law_known","_law_cell_here"]:List Str) from by decide +kernel) rfl (by walk_at "o")),bx,(bC (bv (K:=K) rfl) (pv 1) (aG d0 (ar b7 (hr.mono (by decide)) (by rfl) T.cx T.cw T.b6 .nil aA (aa (pv 2) (aa (aG dP al (pv 0)) ae))) (aD (aK (K:=K) rfl) (by rfl) T.fc PySem.boot_len (aa (pv 1) ae))) (fun _ _=>rfl))⟩))) bR)
   (aj (aM (gJ (aa (pv 5) (aa (pv 8) (aa (pv 12) (aa (pv 14) ae))))))))))))))))))))),az (σ':=[some _,some _,some _,none,none,none,none,none,none,none,none,none,none,none,none]) rfl ?_⟩
  walk_at "l2"
  generalize cell ns ((st:Nat):Int)=c
  intro Z H1 f1 s1 e1
  obtain ⟨ni,hni,lni⟩:=j2 (c:=mixV c 1) (m:=4) (by decide)
  obtain ⟨nt,hnt,lnt⟩:=j2 (c:=mixV c 2) (m:=(mo:Int) + 1) (by omega)
  obtain ⟨nz,hnz,lnz⟩:=j2 (c:=mixV c 3) (m:=(mo:Int) + 1) (by omega)
  rw [hni,hnt,hnz] at e1
  have hni3:ni≤3:=by omega
  have hnt6:nt≤12:=by omega
  have hnz6:nz≤12:=by omega
  have hnzo:nz≤mo:=by omega
  have hS1:=Same.seq s1 hS
  clear hni hnt hnz lni lnt lnz
  walk_at "l2"
  intro D2 hD2
  refine g5 (fun i ys H'=>Cs (fun i ys=>ys=(nms c 0 i).map V.str) H1 D2 i ys H') (Cs.zero hD2 rfl) (fun i ys H' hi cs=>?_) (fun ys H2 cs=>?_)
  ·have hi3:i < 3:=by omega
   walk_at "l2"
   refine Hj (by omega) (by omega) fun H3 s3=>?_
   refine Cs.put hD2 (cs.same.trans s3) (s3.get cs.at') cs.len (by omega) ?_
   rw [cs.pv,sC,List.map_append,show (0:Int) + (i:Int)=((0 + i:Nat):Int) by push_cast;rfl];rfl
  ·have e2:=cs.at'
   rw [cs.pv,Int.toNat_natCast] at e2
   have s12:=cs.same
   clear cs
   have e12:=s12.get e1
   walk_at "l2"
   intro D3 hD3
   refine g5 (fun i ys H'=>Cs (fun i ys=>ys=(nms c 6 i).map V.str) H2 D3 i ys H') (Cs.zero hD3 rfl) (fun i ys H' hi cs=>?_) (fun ys H3 cs=>?_)
   ·have hi6:i < 12:=by omega
    walk_at "l2"
    refine Hj (by omega) (by omega) fun H4 s4=>?_
    refine Cs.put hD3 (cs.same.trans s4) (s4.get cs.at') cs.len (by omega) ?_
    rw [cs.pv,sC,List.map_append,show (6:Int) + (0 + (i:Int))=((6 + i:Nat):Int) by push_cast;omega];rfl
   ·have e3:=cs.at'
    rw [cs.pv,Int.toNat_natCast] at e3
    have s23:=cs.same
    clear cs
    walk_at "l2"
    refine ud (s23.get e2) e3 (by rw [List.length_map,List.length_map,d2,d2,sizeLine_eq];omega) fun D4 H4 f4 s4 e4=>?_
    rw [← List.map_append] at e4
    have s14:=s12.trans (s23.trans s4)
    have e14:=s14.get e1
    have e24:=s4.get (s23.get e2)
    have e34:=s4.get e3
    have hS4:=Same.seq s14 hS1
    have s04:=s1.trans s14
    clear e12 hD2 hD3 f1 f4 s12 s23 s4 s14 e1 e2 e3 hS1 s1
    walk_at "l2"
    intro D5 H5 f5 s5 e5
    have e15:=s5.get e14
    have s05:=s04.trans s5
    have f50:H D5=none:=s04.free f5
    walk_at "l2"
    refine AM (fun i σ H'=>∃ (v9 v10:Option V) (Dk:Addr) (rs:List Rw),σ=[some (V.ref p),some (nat st),some (nat mo),some (V.int c),some (V.ref Z),some (V.ref D2),some (V.ref D3),some (V.ref Dk),some (V.ref D5),v9,v10,none,none,none,none]∧Same H4 H'∧H' Dk=some (.lst ((nms c 0 ni++nms c 6 nt++nms c 22 i).map V.str))∧Dk≠D5∧H' D5=some (.lst (rs.map fun r=>V.ref r.1))∧RwL H' rs∧(∀ r∈rs,r.2.1≠D5)∧Mk c ni nt (rs.map (·.2.2))∧rs.length=i) ⟨none,none,D4,[],rfl,s5,by rw [show nms c 22 0=[] from rfl,List.append_nil];exact s5.get e4,ai e4 f5,e5,fun _ h=>absurd h (by simp),fun _ h=>absurd h (by simp),Mk.nil ..,rfl⟩ ?_ ?_
    ·rintro i σ H' hi ⟨v9,v10,Dk,rs,rfl,s',ek,nk,eD,rl,nr,mk,lr⟩
     have hi6:i < 12:=by omega
     have hS':=Same.seq s' hS4
     walk_at "l2"
     refine ⟨_,10,Dk,_,_,rfl,by decide,by decide,ek,by rw [List.length_append,List.length_append,d2,d2,d2];omega,fun Dw H6 ws f6 s6 e6 l4 hw=>?_⟩
     have eD6:=s6.get eD
     walk_at "l2"
     refine Hj (by omega) (by omega) fun H7 s7=>?_
     walk_at "l2"
     intro tr H8 f8 s8 e8
     have s78:=s7.trans s8
     have eD8:=s78.get eD6
     have ek8:=s78.get (s6.get ek)
     have ew8:=s78.get e6
     walk_at "l2"
     refine rX eD8 (by rw [List.length_map,sizeLine_eq];omega) fun H9 u9=>?_
     have nw:Dw≠D5:=(ai eD f6).symm
     have s'9:Same H4 H9:=fun b o e=>u9.oth _ _ (ai e f5) (s78.get (s6.get (s'.get e)))
     have ek9:=u9.oth _ _ nk ek8
     have et9:=u9.oth _ _ (dB e8 eD8 fun z=>by cases z) e8
     have ew9:=u9.oth _ _ nw ew8
     have rl9:RwL H9 rs:=fun r hr=>⟨u9.oth _ _ (dB ((rl.same s6).same s78 r hr).1 eD8 fun z=>by cases z) ((rl.same s6).same s78 r hr).1,u9.oth _ _ (nr r hr) ((rl.same s6).same s78 r hr).2⟩
     have eD9:=u9.at'
     clear u9 e8 ew8 ek8 eD8 s78 s7 s8 f8 eD6 e6 hS'
     walk_at "l2"
     refine Hj (by omega) (by omega) fun H10 s10=>?_
     walk_at "l2"
     intro D11 H11 f11 s11 e11
     have s911:=s10.trans s11
     refine ud (s911.get ek9) e11 (by rw [List.length_map,List.length_append,List.length_append,d2,d2,d2,sizeLine_eq];show _ + 1≤_;omega) fun D12 H12 f12 s12 e12=>?_
     have s912:=s911.trans s12
     have ei:(22:Int) + (0 + (i:Int))=((22 + i:Nat):Int):=by push_cast;omega
     rw [ei] at e12 et9
     have ekn:(nms c 0 ni++nms c 6 nt++nms c 22 i).map V.str++[V.str (nmf c ((22 + i:Nat):Int))]=(nms c 0 ni++nms c 6 nt++nms c 22 (i + 1)).map V.str:=by
      rw [sC,← List.append_assoc,List.map_append (l₂:=[_])];rfl
     rw [ekn] at e12
     walk_at "l2"
     refine ⟨_,_,D12,rs++[(tr,Dw,nmf c ((22 + i:Nat):Int),ws)],rfl,s'9.trans s912,e12,(ai (s911.get eD9) f12).symm,by rw [s912.get eD9,List.map_append];rfl,fun r hr=>?_,fun r hr=>?_,?_,by rw [List.length_append,lr];rfl⟩
     ·rcases List.mem_append.mp hr with h | h
      ·exact rl9.same s912 r h
      ·rw [List.mem_singleton] at h;subst h
       exact ⟨s912.get et9,s912.get ew9⟩
     ·rcases List.mem_append.mp hr with h | h
      ·exact nr r h
      ·rw [List.mem_singleton] at h;subst h;exact nw
     ·have lm:(rs.map (·.2.2)).length=i:=by rw [List.length_map,lr]
      have:=mk.put (ws:=ws) l4 (by rw [lm];exact hw)
      rw [lm] at this
      rw [List.map_append]
      exact this
    ·rintro σ H' ⟨v9,v10,Dk,rs,rfl,s',ek,nk,eD,rl,nr,mk,lr⟩
     rw [Int.toNat_natCast] at lr
     rw [Int.toNat_natCast] at ek
     have e2':=s'.get e24
     have e3':=s'.get e34
     have hS':=Same.seq s' hS4
     have s0':=s04.trans s'
     obtain ⟨j,hj,hjl⟩:=j2 (c:=mixV c 4) (m:=(((rs.map fun r=>V.ref r.1).length:Nat):Int) + 1) (by omega)
     have lrm:(rs.map fun r=>V.ref r.1).length=rs.length:=List.length_map ..
     have hjr:j≤rs.length:=by omega
     clear e14 e24 e34 e4 e5 hS4 s04 s05 s5 f5 f50 e15
     walk_at "l2"
     rw [hj]
     intro D6 H6 f6 s6 e6
     rw [yH _ j (by rw [lrm];exact hjr),← List.map_drop] at e6
     have eD6:=s6.get eD
     walk_at "l2"
     refine ZL ?_
     walk_at "l2"
     intro D7 H7 f7 s7 e7
     rw [OU _ j (by rw [lrm];exact hjr),← List.map_take] at e7
     refine ⟨D7,_,rfl,SqL.of e7,fun D8 f8=>?_⟩
     rw [← List.map_reverse]
     have s8:=bf (o:=HO.lst ((rs.take j).reverse.map fun r=>V.ref r.1)) f8
     have e8:upd H7 D8 (HO.lst ((rs.take j).reverse.map fun r=>V.ref r.1)) D8=some (HO.lst ((rs.take j).reverse.map fun r=>V.ref r.1)):=av
     generalize upd H7 D8 (HO.lst ((rs.take j).reverse.map fun r=>V.ref r.1))=H8 at s8 e8 ⊢
     refine ud (s8.get (s7.get e6)) e8 (by rw [List.length_map,List.length_map,List.length_reverse,List.length_drop,List.length_take,sizeLine_eq];omega) fun D9 H9 f9 s9 e9=>?_
     rw [← List.map_append] at e9
     have s'9:=s6.trans (s7.trans (s8.trans s9))
     have e29:=s'9.get e2'
     have e39:=s'9.get e3'
     have ek9:=s'9.get ek
     have rl9:=rl.same s'9
     have s09:=s0'.trans s'9
     have perm:(rs.drop j++(rs.take j).reverse).Perm rs:=by
      refine List.Perm.trans (List.Perm.append_left _ (List.reverse_perm _)) ?_
      refine List.Perm.trans List.perm_append_comm ?_
      rw [List.take_append_drop]
     generalize hrs':rs.drop j++(rs.take j).reverse=rs' at e9 perm
     have rl':RwL H9 rs':=fun r hr=>rl9 r (perm.mem_iff.mp hr)
     clear rl9 rl s8 e8 e7 f7 f8 s7 e6 f6 s6 s9 f9 s'9 e2' e3' eD eD6 nr nk s' s0' hS' ek hrs'
     walk_at "l2"
     intro D10 H10 f10 s10 e10
     have e310:=s10.get e39
     walk_at "l2"
     refine .inl ⟨⟨_,SqL.of e310⟩,?_⟩
     have lk:(nms c 0 ni++nms c 6 nt++nms c 22 nz).length=ni + nt + nz:=by rw [List.length_append,List.length_append,d2,d2,d2]
     generalize hkn:nms c 0 ni++nms c 6 nt++nms c 22 nz=kn at ek9 lk
     refine GW (xs:=(nms c 6 nt).map V.str) (fun i σ H'=>∃ (v9 v13:Option V) (qs:List Qs),σ=[some (V.ref p),some (nat st),some (nat mo),some (V.int c),some (V.ref Z),some (V.ref D2),some (V.ref D3),some (V.ref Dk),some (V.ref D9),v9,v10,some (V.int j),some (V.ref D10),v13,none]∧Same H9 H'∧H' D10=some (.lst (qs.map fun q=>V.ref q.1))∧QsK H' qs∧qs.map (·.2.1)=nms c 6 i∧∀ q∈qs,q.2.2∈kn) ⟨_,none,[],rfl,s10,e10,fun _ h=>absurd h (by simp),rfl,fun _ h=>absurd h (by simp)⟩ (fun i σ H' _ ⟨_,_,_,_,s',_⟩=>SqL.of (s'.get e39)) ?_ ?_
     ·rintro i y σ H' pz H7 hy ⟨v9,v13,qs,rfl,s',eq,qk,qn,qw⟩ fp s7 e7
      obtain ⟨z,hz,rfl⟩:=aC hy
      have hlt:=(List.getElem?_eq_some_iff.mp hz).1
      rw [d2] at hlt
      have ez:z=nmf c ((6 + i:Nat):Int):=by
       unfold nms at hz
       rw [List.getElem?_map,List.getElem?_range hlt] at hz
       exact (Option.some.inj hz).symm
      have lq:qs.length=i:=by have:=congrArg List.length qn;rw [List.length_map,d2] at this;exact this
      have ek7:=s7.get (s'.get ek9)
      have elen:(kn.map V.str).length=ni + nt + nz:=by rw [List.length_map,lk]
      have eq7:=s7.get eq
      walk_at "l2"
      obtain ⟨m,hm,hml⟩:=j2 (c:=mixV c (50 + (i:Int))) (m:=(((kn.map V.str).length:Nat):Int)) (by omega)
      have hml:m < kn.length:=by rw [List.length_map] at hml;omega
      have hat:atI (kn.map V.str) (mixV c (50 + (i:Int)) % (((kn.map V.str).length:Nat):Int))=some (.str kn[m]):=by
       rw [hm]
       exact fO (by rw [List.getElem?_map,List.getElem?_eq_getElem hml];rfl)
      walk_at "l2"
      intro tq H8 f8 s8 e8
      walk_at "l2"
      refine rX (s8.get eq7) (by rw [List.length_map,sizeLine_eq];omega) fun H9' u9=>?_
      walk_at "l2"
      refine ⟨_,_,qs++[(tq,z,kn[m])],rfl,fun b o e=>u9.oth _ _ (ai e f10) (s8.get (s7.get (s'.get e))),by rw [u9.at',List.map_append];rfl,?_,?_,fun q' hq'=>?_⟩
      ·intro q' hq'
       rcases List.mem_append.mp hq' with h | h
       ·exact ((qk.same s7).same s8).updL (s8.get eq7) u9.oth q' h
       ·rw [List.mem_singleton] at h;subst h
        exact u9.oth _ _ (dB e8 (s8.get eq7) fun z=>by cases z) e8
      ·rw [List.map_append,qn,sC,ez];rfl
      ·rcases List.mem_append.mp hq' with h | h
       ·exact qw q' h
       ·rw [List.mem_singleton] at h;subst h;exact List.getElem_mem hml
     ·rintro σ H' ⟨v9,v13,qs,rfl,s',eq,qk,qn,qw⟩
      rw [List.length_map,d2] at qn
      have ek':=s'.get ek9
      have e2':=s'.get e29
      have e9':=s'.get e9
      have rl2:=rl'.same s'
      walk_at "l2"
      intro D11 H11 f11 s11 e11
      walk_at "l2"
      refine adN (fun σ H2=>∃ (Do:Addr) (outs:List Str),σ=[some (V.ref p),some (nat st),some (nat mo),some (V.int c),some (V.ref Z),some (V.ref D2),some (V.ref D3),some (V.ref Dk),some (V.ref D9),v9,v10,some (V.int j),some (V.ref D10),v13,some (V.ref Do)]∧Same H' H2∧H2 Do=some (.lst (outs.map V.str))∧outs.length≤3∧∀ z∈outs,z∈kn) ?_ ?_
      ·have ek11:=s11.get ek'
       walk_at "l2"
       intro L12 H12 f12 s12 e12
       have ek12:=s12.get ek11
       refine abp (yD ek12) (yD (ws:=[]) e12) (by rw [depD,GZ];decide) ?_
       rw [show (List.map Dt.str [])=[] from rfl,VO]
       have s'12:=s11.trans s12
       have e1112:=s12.get e11
       by_cases hz:kn=[]
       ·rw [decide_eq_true hz]
        walk_at "l2"
        exact ⟨D11,[],rfl,s'12,e1112,Nat.zero_le _,fun _ h=>absurd h (by simp)⟩
       ·rw [decide_eq_false hz]
        have m0:=Int.emod_nonneg (mixV c 5) (show (4:Int)≠0 by decide)
        have m1:=Int.emod_lt_of_pos (mixV c 5) (show (0:Int) < 4 by decide)
        have hzl:1≤kn.length:=List.length_pos_iff.mpr hz
        have elen:(kn.map V.str).length=kn.length:=List.length_map ..
        walk_at "l2"
        intro D13 hD13
        refine g5 (fun i ys H2=>∃ ws:List Str,ys=ws.map V.str∧Same H12 H2∧H2 D13=some (.lst ys)∧ws.length=i∧∀ w∈ws,w∈kn) ⟨[],rfl,bf hD13,av,rfl,fun _ h=>absurd h (by simp)⟩ ?_ ?_
        ·rintro i ys H2 hi ⟨ws,rfl,s2,eD,lw,hw⟩
         have ek2:=s2.get ek12
         have hi4:i < 4:=by omega
         walk_at "l2"
         obtain ⟨m,hm,hml⟩:=j2 (c:=mixV c (80 + (0 + (i:Int)))) (m:=(((kn.map V.str).length:Nat):Int)) (by omega)
         have hml:m < kn.length:=by omega
         have hat:atI (kn.map V.str) (mixV c (80 + (0 + (i:Int))) % (((kn.map V.str).length:Nat):Int))=some (.str kn[m]):=by
          rw [hm]
          exact fO (by rw [List.getElem?_map,List.getElem?_eq_getElem hml];rfl)
         walk_at "l2"
         refine ⟨eD,by rw [List.length_map];exact aP (by omega),ws++[kn[m]],by rw [List.map_append];rfl,fun b o e=>?_,av,by rw [List.length_append,lw];rfl,fun w hw'=>?_⟩
         ·rw [aB (ai e hD13)];exact s2.get e
         ·rcases List.mem_append.mp hw' with h | h
          ·exact hw w h
          ·rw [List.mem_singleton.mp h];exact List.getElem_mem hml
        ·rintro ys H2 ⟨ws,rfl,s2,eD,lw,hw⟩
         walk_at "l2"
         exact ⟨D13,ws,rfl,s'12.trans s2,eD,by omega,hw⟩
      ·rintro σ H12 ⟨Do,outs,rfl,s12,e12,lo,ho⟩
       have e212:=s12.get e2'
       walk_at "l2"
       intro tt H13 f13 s13 e13
       have s'13:=s12.trans s13
       have hzl:(rs.map (·.2.2)).length=nz:=by rw [List.length_map,lr]
       subst hkn
       refine q tt D2 D9 D10 Do H13 rs' qs ⟨nms c 0 ni,rs'.map (·.2.2),qs.map (·.2),outs⟩ (s09.trans (s'.trans s'13)) e13 ⟨s13.get e212,s'13.get e9',fun r hr=>rl2.same s'13 r hr,rfl,s'13.get eq,fun q' hq'=>qk.same s'13 q' hq',rfl,s13.get e12⟩ (U4 mk hni3 hnt6 (by rw [hzl];exact hnz6) (perm.map _) (by rw [List.map_map];exact qn) (by omega) (fun q' hq'=>?_) (by rw [hzl];exact ho)) (by show (nms c 0 ni).length≤3;rw [d2];exact hni3) (by show (rs'.map (·.2.2)).length≤mo;rw [(perm.map _).length_eq,hzl];exact hnzo)
       obtain ⟨q'',hq'',rfl⟩:=List.mem_map.mp hq'
       rw [hzl]
       exact qw q'' hq''
end
section
variable {P:Program} {w:World} {K:PySem.W.Frag} {mg:Str→Option Value} {base:Heap} {a:Ad}
local macro_rules | `(tactic| walk_at "l2step") =>`(tactic| first | ((with_reducible refine' fN ?e ?_);(case e=>walk_at "l2kind")) | ((with_reducible refine' jI ?e ?_);(case e=>walk_at "l2kind")) | (with_reducible refine dh ?_) | (with_reducible refine gb ?_))
theorem Ow {l:List Pr3} {ps:List (Nat×Nat)} (h:prs l=ps):l.map LB=ps.map fun q=>Dt.tup [.int q.1,.int q.2]:=by rw [← h,List.map_map];rfl
theorem aaT {m:Nat} {nx os nx2 os2:List Pr3} (h1:prs nx2=prs nx) (h2:prs os2=prs os):tabD m nx2 os2=tabD m nx os:=by
 unfold tabD
 rw [Ow h1,Ow h2,Ow (l:=nx) rfl,Ow (l:=os) rfl]
local macro_rules | `(tactic| walk_at "l2step") =>`(tactic| first | ((with_reducible refine' OZ ?a ?b ?_);(case a=>omega);(case b=>omega)) | ((with_reducible refine' Ho ?e ?a ?_);(case e=>walk_at "l2hp");(case a=>walk_at "l2side")) | (with_reducible refine ZN ?_))
theorem aek (T:Tx K mg a):FnOk P w K mg base CX0 10 a.JT a.ack ["_law_script"] (Oo K):=by
 have mQ:=@wv P w K mg base a T
 have SM:=@LL P w K mg base a T
 have SL:=@LK P w K mg base a T
 have fA:=@jw P w K mg base a T
 have vY:=@LG P w K mg base a T
 have Fr:=@LH P w K mg base a T
 have Fq:=@LF P w K mg base a T
 have Zv:=@UA P w K mg base a T
 have Zu:=@Uz P w K mg base a T
 have wI:=@FS P w K mg base a T
 have iY:=@qf P w K mg base a T
 have BR:=@xi P w K mg base a T
 have qv:=@zy P w K mg base a T
 refine T.Zx.ok mY (fun vs H Q E h=>?_) (fun cdv A outer s H vs Q E hr h=>?_)
 ·obtain ⟨p,ns,rfl,_⟩:=h;rfl
 ·obtain ⟨p0,ns,rfl,hS,hlen,q⟩:=h
  have hu0:=aeJ hr
  have hu1:=Lh hr
  refine ⟨_,((af (aW (i:=1) mY.nd rfl (by walk_at "o") (ar SM (hr.mono (by decide)) (by rfl) T.Rz T.Rq T.vS .nil aA (aa (pv 0) (aa al (aa (bC (bv (K:=K) rfl) (fW (aa al (aa al ae))) (aQ Wa (by rfl) T.aes PyProof.Rows.boot_int (aa (iu pN (aG d0 (ar mQ (hr.mono (by decide)) (by rfl) T.rp T.rm T.jL .nil aA (aa (pv 0) (aa al ae))) al) al (bu _)) ae)) (fun _ _=>rfl)) ae)))))
   (af (aW (i:=2) mY.nd rfl (by walk_at "o") (ar vY (hr.mono (by decide)) (by rfl) T.vk T.vh T.lU .nil aA (aa (me T.acy fA (hr.mono (by decide)) (by rfl) T.ab9 T.fu .nil aA (aa (bC (bg (K:=K) rfl) (pv 1) al (fun _ _=>rfl)) (aa (bC (bg (K:=K) rfl) (pv 1) al (fun _ _=>rfl)) (aa (bC (bg (K:=K) rfl) (pv 1) al (fun _ _=>rfl)) (aa (bC (bg (K:=K) rfl) (pv 1) al (fun _ _=>rfl)) ae))))) ae)))
   (af (aW (i:=3) mY.nd rfl (by walk_at "o") (ar Fr (hr.mono (by decide)) (by rfl) T.Fb T.E9 T.pj .nil aA (aa (pv 2) ae)))
   (af (aW (i:=4) mY.nd rfl (by walk_at "o") (ar Fq (hr.mono (by decide)) (by rfl) T.Fa T.E8 T.pi .nil aA (aa (pv 3) ae)))
   (af (c6 (osc:=ad FG) (ON:=["_law_script","_law_net_here","_law_text","_law_net_one","_law_machine","_law_rows","_law_answers","_law_state","_law_other","_law_turned","_law_both","_law_due"]) (N:=["_law_cell_here","_law_net_here"]) (n:=1) (fx:=[1]) (i:=5) mY.nd rfl rfl rfl rfl rfl rfl (by decide +kernel) (aR (K:=K) rfl (o7 (o0 (K:=K) rfl) (pv 0) (qJ al) (qJ al))) (aF (by decide)) (fun _ _ _ _ _=>⟨(ax (i:=0) (show List.Nodup (["_law_cell_here","_law_net_here"]:List Str) from by decide +kernel) rfl (by walk_at "o")),bx,(aG d0 (pv 0) (aG EZ al (aD (aK (K:=K) rfl) (by rfl) T.fc PySem.boot_len (aa (bC (bg (K:=K) rfl) (pv 1) al (fun _ _=>rfl)) ae))))⟩))
   (af (Z4 (ar SL (hr.mono (by decide)) (by rfl) T.Ry T.Rp T.vR .nil aA (aa (pv 3) (aa (pv 5) ae))) (IA rfl (b5 (ax (i:=6) mY.nd rfl (by walk_at "o")) (b5 (ax (i:=7) mY.nd rfl (by walk_at "o")) jo))))
   (af (fJ (PW.pt (qI (bc (LC (K:=K) rfl hu0) (hU (dvs:=[.int 0]) (pv 4) T.aL T.mr iY (hr.mono (by decide)) T.gH (.cons T.lY .nil) thr0 (aa (pv 5) ae)) (pv 6) (bu _)) (qI (bc Ut (hU (dvs:=[.int 0]) (pv 4) T.aL T.Ab BR (hr.mono (by decide)) T.jP (.cons T.yM .nil) thr0 (aa (pv 5) ae)) (pv 7) (bu _)) (p9 (bc (LC (K:=K) rfl hu0) (Ye Zu (hr.mono (by decide)) (by rfl) T.Y2 T.YN T.Hv .nil thr0 (aa (pv 4) (aa (pv 5) ae))) (pv 6) (bu _)))))) (aj (aM LA)) bR)
   (af (aW (i:=8) mY.nd rfl (by walk_at "o") (ar Fr (hr.mono (by decide)) (by rfl) T.Fb T.E9 T.pj .nil aA (aa (ar vY (hr.mono (by decide)) (by rfl) T.vk T.vh T.lU .nil aA (aa (ar Zv (hr.mono (by decide)) (by rfl) T.Y3 T.YO T.Hw .nil aA (aa (pv 4) ae)) ae)) ae)))
   (af (fJ (PW.pt (qI (bc (LC (K:=K) rfl hu0) (ar wI (hr.mono (by decide)) (by rfl) T.wA T.wx T.j9 .nil aA (aa (pv 8) (aa (pv 5) ae))) (pv 6) (bu _)) (p9 (bc (LD (K:=K) rfl hu1) (cf (ar Fq (hr.mono (by decide)) (by rfl) T.Fa T.E8 T.pi .nil aA (aa (pv 8) ae)) T.aL T.qi qv (hr.mono (by decide)) T.hZ .nil aA) (cf (pv 4) T.aL T.qi qv (hr.mono (by decide)) T.hZ .nil aA) (bu _))))) (aj (aM LA)) bR)
   (af (aW (i:=9) mY.nd rfl (by walk_at "o") (EN (by rfl) (by rfl) T.gh T.E5 rfl (pv 5)))
   (af (c6 (osc:=ad FG) (ON:=["_law_script","_law_net_here","_law_text","_law_net_one","_law_machine","_law_rows","_law_answers","_law_state","_law_other","_law_turned","_law_both","_law_due"]) (N:=["_law_left","_law_right"]) (n:=2) (fx:=[]) (i:=10) mY.nd rfl rfl rfl rfl rfl rfl (by decide +kernel) (Uk (K:=K) rfl (by rfl) T.Yp (pv 5) (pv 9)) (AJ (dQ (aF (by decide)) (dQ (aF (by decide)) rn))) (fun _ _ _ _ _=>⟨(qM (K:=K) (n:=2) rfl rfl (b5 (ax (i:=0) (show List.Nodup (["_law_left","_law_right"]:List Str) from by decide +kernel) rfl (by walk_at "o")) (b5 (ax (i:=1) (show List.Nodup (["_law_left","_law_right"]:List Str) from by decide +kernel) rfl (by walk_at "o")) jo))),bx,(aG wu (pv 0) (pv 1))⟩))
   (af (c6 (osc:=ad FG) (ON:=["_law_script","_law_net_here","_law_text","_law_net_one","_law_machine","_law_rows","_law_answers","_law_state","_law_other","_law_turned","_law_both","_law_due"]) (N:=["_law_left","_law_right"]) (n:=2) (fx:=[]) (i:=11) mY.nd rfl rfl rfl rfl rfl rfl (by decide +kernel) (Uk (K:=K) rfl (by rfl) T.Yp (pv 6) (hU (dvs:=[.int 0]) (pv 4) T.aL T.mr iY (hr.mono (by decide)) T.gH (.cons T.lY .nil) thr0 (aa (pv 9) ae))) (AJ (dQ (aF (by decide)) (dQ (aF (by decide)) rn))) (fun _ _ _ _ _=>⟨(qM (K:=K) (n:=2) rfl rfl (b5 (ax (i:=0) (show List.Nodup (["_law_left","_law_right"]:List Str) from by decide +kernel) rfl (by walk_at "o")) (b5 (ax (i:=1) (show List.Nodup (["_law_left","_law_right"]:List Str) from by decide +kernel) rfl (by walk_at "o")) jo))),bx,(aG wu (pv 0) (pv 1))⟩))
   (aj (aM (wm (iu (abD (K:=K) rfl hu0) (ar wI (hr.mono (by decide)) (by rfl) T.wA T.wx T.j9 .nil aA (aa (pv 3) (aa (pv 10) ae))) (pv 11) (bu _)) (zk (iu pN (ar vY (hr.mono (by decide)) (by rfl) T.vk T.vh T.lU .nil aA (aa (pv 3) ae)) (pv 2) (bu _))))))))))))))))))),az (σ':=[some _,none,none,none,none,none,none,none,none,none,none,none]) rfl ?_⟩
  walk_at "l2"
  intro Dm H0 f0 s0 e0
  have hS0:=Same.seq s0 hS
  walk_at "l2"
  obtain ⟨mo,hmo,hat⟩:∃ mo:Nat,mo≤12∧atI [V.int 6,V.int 12] (if decide (V.int (cell ns 1 % 8)=V.int 1)=true then 1 else 0)=some (nat mo):=by
   by_cases hc:V.int (cell ns 1 % 8)=V.int 1
   ·exact ⟨12,by decide,by rw [if_pos (decide_eq_true hc)];rfl⟩
   ·exact ⟨6,by decide,by rw [if_neg (by simpa using hc)];rfl⟩
  walk_at "l2"
  refine ⟨p0,ns,2,mo,rfl,hS0,by decide,hmo,fun t i s u o H1 rs qs N s1 et hn g li _=>?_⟩
  have hS1:=Same.seq s1 hS0
  walk_at "l2"
  intro x dx H2 f2 s2 e2
  refine ⟨x,dx,i,s,u,o,rs,qs,N,rfl,e2,hn.same s2,g,fun H3 od0 k3 na0=>⟨rfl,?_⟩⟩
  have s13:Same H1 H3:=fun b ob e=>k3 _ _ (ai e f2) (s2.get e)
  have hS3:=Same.seq s13 hS1
  have et3:=s13.get et
  have hi3:=s13.get hn.i
  clear k3 e2 s2 f2 hn et hS1 s1 hS s13 hS0 e0 s0 f0
  have fm:=FI g
  have lrw:=za g
  have eN:=E4 N
  walk_at "l2"
  refine ⟨x,N,od0,rfl,na0,fun H4 s4=>?_⟩
  walk_at "l2"
  refine ⟨rY N,rfl,fm,by omega,by rw [eN];exact g,fun n1 H5 od f5 s5 na=>?_⟩
  rw [eN] at na
  have tp:=na.tp
  have s35:=s4.trans s5
  walk_at "l2"
  refine ⟨n1,N,od,rfl,na,fun xm H6 nx os f6 s6 ma gm en eo=>?_⟩
  have s36:=s35.trans s6
  have hS6:=Same.seq s36 hS3
  have et6:=s36.get et3
  have hi6:=s36.get hi3
  have na6:=na.same s6
  have lnx:nx.length=N.sts.length:=by have:=congrArg List.length en;rw [eZ,List.length_map,List.length_map] at this;exact this
  have los:os.length=N.outs.length:=by have:=congrArg List.length eo;rw [eZ,List.length_map] at this;exact this
  have sl:Sml N.ins.length (prs nx) (prs os):=⟨by omega,by rw [eZ,lnx];exact g.lt,by rw [eZ,los];exact g.lo,fun q' hq'=>by
   rw [show prs nx++prs os=prs (nx++os) from (List.map_append ..).symm] at hq'
   obtain ⟨r,hr',rfl⟩:=List.mem_map.mp hq'
   rw [eZ];exact gm.bn r hr'⟩
  have hh:=M3 g tp
  have era:∀ rs st,ran N st rs=M.wan (prs nx) (prs os) st rs:=fun rs st=>by rw [en,eo];exact T3 g tp hh rs st
  have ers:∀ rs st,rst N st rs=M.wst (prs nx) st rs:=fun rs st=>by rw [en];exact ZR g tp hh rs st
  have bd0:0 < 2 ^ nx.length:=Nat.two_pow_pos _
  have hp0:=Nat.two_pow_pos N.ins.length
  clear s36 s35 s4 s5 s6 f5 f6 et3 hi3 na0 na hS3
  walk_at "l2"
  intro Ds H7 f7 s7 e7
  obtain ⟨cs,ecs,lcs⟩:=Zc ns (some 15) (some 63)
  rw [ecs] at e7
  have et7:=s7.get et6
  have hi7:=s7.get hi6
  walk_at "l2"
  intro Dr hDr
  refine aX (xs:=cs.map V.int) (fun i ys H'=>∃ rs:List Nat,ys=rs.map nat∧Same H7 H'∧H' Dr=some (.lst ys)∧rs.length=i∧∀ r∈rs,r < 2 ^ N.ins.length) ⟨[],rfl,bf hDr,av,rfl,fun _ h=>absurd h (by simp)⟩ (fun i ys H' _ ⟨_,_,s',_⟩=>SqL.of (s'.get e7)) ?_ ?_
  ·rintro i y ys H' hy ⟨rw',rfl,s',eD,lr,hb⟩
   obtain ⟨cc,hc,rfl⟩:=aC hy
   have hlt:=(List.getElem?_eq_some_iff.mp hc).1
   have et':=s'.get et7
   have hi':=s'.get hi7
   walk_at "l2"
   rw [List.length_map]
   walk_at "l2"
   rw [shl1]
   walk_at "l2"
   obtain ⟨m,hm,hml⟩:=j2 (c:=cc) (m:=((2 ^ N.ins.length:Nat):Int)) (by omega)
   rw [hm]
   refine ⟨eD,by rw [List.length_map];exact aP (by omega),rw'++[m],by rw [List.map_append];rfl,fun b ob e=>?_,av,by rw [List.length_append,lr];rfl,fun r hr'=>?_⟩
   ·rw [aB (ai e hDr)];exact s'.get e
   ·rcases List.mem_append.mp hr' with h | h
    ·exact hb r h
    ·rw [List.mem_singleton.mp h];omega
  ·rintro ys H8 ⟨rs2,rfl,s8,er,lr,hrs⟩
   rw [List.length_map] at lr
   have l63:rs2.length≤63:=by omega
   have s68:=s7.trans s8
   have na8:=na6.same s68
   have ma8:=ma.same s68
   clear e7 et7 hi7 ecs lcs lr s7 s8 f7 hDr et6 hi6 na6 ma hS6 s68
   obtain ⟨dxm,tn,to,hm,_⟩:=ma8.ho
   walk_at "l2"
   refine ⟨n1,Dr,N,od,rs2,rfl,na8,er,by omega,hrs,fun t9 Da H9 s9 et9 ea=>?_⟩
   rw [ers] at et9
   rw [era] at ea
   have er9:=s9.get er
   have ak:∀ {H':Hp} {D:Addr} {rr:List Nat},Same H8 H'→H' D=some (.lst (rr.map nat))→rr.length≤63→Zy K H' a.ag xm D N.ins.length nx os (nat 0) (rr.map nat):=fun s' e' l'=>⟨ma8.same s',gm,⟨"int",rfl⟩,SqL.of e',Ob.nats _ _ _,by rw [List.length_map];omega⟩
   walk_at "l2"
   refine fj (s9.get hm) rfl ?_
   walk_at "l2"
   refine ⟨xm,Dr,N.ins.length,nx,os,nat 0,rs2.map nat,rfl,ak s9 er9 l63,fun a1 rs1 gd D10 H10 f10 s10 e10=>?_,fun bad=>False.elim (Mq bd0 hrs bad)⟩
   obtain ⟨rfl,rfl⟩:=sN gd
   have s810:=s9.trans s10
   walk_at "l2"
   refine Oq (SqL.of e10) (SqL.of (s10.get ea)) ?_
   walk_at "l2"
   refine fj (s810.get hm) rfl ?_
   walk_at "l2"
   refine ⟨xm,Dr,N.ins.length,nx,os,nat 0,rs2.map nat,rfl,ak s810 (s810.get er) l63,fun a1 rs1 gd H11 s11=>?_,fun bad=>False.elim (Mq bd0 hrs bad)⟩
   obtain ⟨rfl,rfl⟩:=sN gd
   have s811:=s810.trans s11
   walk_at "l2"
   refine iS (by simp) ?_
   walk_at "l2"
   refine ⟨xm,Dr,N.ins.length,nx,os,rs2.map nat,rfl,ma8.same s811,gm,SqL.of (s811.get er),Ob.nats _ _ _,by rw [List.length_map];omega,fun rs1 e1 hb1 D12 H12 f12 s12 e12=>?_,fun bad=>?_⟩
   rotate_left
   ·obtain ⟨y,hy,hb⟩:=bad
    obtain ⟨r,hr',rfl⟩:=List.mem_map.mp hy
    rw [gj (hrs r hr')] at hb;cases hb
   have e1:rs2=rs1:=(sN (m:=N.ins.length) (nx:=nx) (a:=0) (a':=0) ⟨rfl,e1,bd0,hb1⟩).2
   subst e1
   have s812:=s811.trans s12
   have ea12:=s12.get (s11.get (s10.get ea))
   walk_at "l2"
   refine Oq (SqL.of e12) (SqL.of ea12) ?_
   clear e12 e10 f10 f12 s810 s811 s10 s11 s12 er9 et9 ea
   walk_at "l2"
   refine ⟨xm,N.ins.length,nx,os,rfl,ma8.same s812,sl,fun n2 H13 od2 f13 s13 na2=>?_⟩
   obtain ⟨N2,hN2⟩:∃ N2,N2=iE N.ins.length (prs nx) (prs os):=⟨_,rfl⟩
   rw [← hN2] at na2
   have g2:Gn N2:=by rw [hN2];exact uN sl
   have eN2:=E4 N2
   have lrw2:=za g2
   walk_at "l2"
   refine ⟨n2,N2,od2,rfl,na2,fun H14 s14=>?_⟩
   walk_at "l2"
   refine ⟨rY N2,rfl,FI g2,by omega,by rw [eN2];exact g2,fun n3 H15 od3 f15 s15 na3=>?_⟩
   rw [eN2] at na3
   have s1215:=s13.trans (s14.trans s15)
   have s815:=s812.trans s1215
   have mlen:N2.ins.length=N.ins.length:=by rw [hN2];exact bF _ _
   have tab2:(N2.sts.map (·.2)).map (hgp N2)=prs nx∧N2.outs.map (hgp N2)=prs os:=by
    have tp3:=na3.tp
    rw [hN2] at tp3 ⊢
    exact US sl tp3
   clear na2 hN2
   walk_at "l2"
   refine ⟨n3,Dr,N2,od3,rs2,rfl,na3,s815.get er,by omega,by rw [mlen];exact hrs,fun D16 H16 f16 s16 e16=>?_⟩
   rw [T3 na3.g na3.tp (M3 na3.g na3.tp),tab2.1,tab2.2] at e16
   have ea16:=s16.get (s1215.get ea12)
   walk_at "l2"
   refine Oq (SqL.of e16) (SqL.of ea16) ?_
   have s816:=s815.trans s16
   walk_at "l2"
   refine ⟨n3,N2,od3,rfl,na3.same s16,fun x3 H17 nx2 os2 f17 s17 ma2 gm2 en2 eo2=>?_⟩
   rw [tab2.1] at en2
   rw [tab2.2] at eo2
   rw [mlen] at ma2 gm2
   obtain ⟨dxm2,tn2,to2,hm2,_⟩:=ma2.ho
   walk_at "l2"
   refine aV hm2 rfl ?_
   walk_at "l2"
   refine ⟨x3,N.ins.length,nx2,os2,rfl,ma2,gm2,fun t18 F1 F2 H18 _ _ _ s18 et18 eF1 eF2=>?_⟩
   have s818:=s816.trans (s17.trans s18)
   walk_at "l2"
   refine aV (s818.get hm) rfl ?_
   walk_at "l2"
   refine ⟨xm,N.ins.length,nx,os,rfl,ma8.same s818,gm,fun t19 G1 G2 H19 _ _ _ s19 et19 eG1 eG2=>?_⟩
   have s819:=s818.trans s19
   have ma219:=(ma2.same s18).same s19
   have ma19:=ma8.same s819
   refine abp (T0 (s19.get et18) (s19.get eF1) (s19.get eF2) ma219.hn ma219.hs) (T0 et19 eG1 eG2 ma19.hn ma19.hs) (ace _ _ _) ?_
   rw [aaT en2 eo2,OT]
   have ea19:=s19.get (s18.get (s17.get ea16))
   have er19:=s819.get er
   clear et18 eF1 eF2 et19 eG1 eG2 ma219 ma2 gm2 en2 eo2 hm2 s17 s18 s19 s818 s816 ea16 e16 s16 s815 s1215 na3 s13 s14 s15 ea12 s812 ma19
   walk_at "l2"
   refine ZL ?_
   walk_at "l2"
   refine ⟨Dr,_,rfl,SqL.of er19,fun Dv f20=>?_⟩
   rw [← List.map_reverse]
   have s20:=bf (o:=HO.lst (rs2.reverse.map nat)) f20
   have ev:upd H19 Dv (HO.lst (rs2.reverse.map nat)) Dv=some (HO.lst (rs2.reverse.map nat)):=av
   generalize upd H19 Dv (HO.lst (rs2.reverse.map nat))=H20 at s20 ev ⊢
   have lrev:rs2.reverse.length=rs2.length:=List.length_reverse
   have hrv:∀ r∈rs2.reverse,r < 2 ^ N.ins.length:=fun r h=>hrs r (List.mem_reverse.mp h)
   obtain ⟨RV,hRV⟩:∃ RV,RV=rs2.reverse:=⟨_,rfl⟩
   rw [← hRV] at ev lrev hrv
   clear hRV
   have er20:=s20.get er19
   walk_at "l2"
   refine ⟨Dr,Dv,rs2.map nat,RV.map nat,rfl,rfl,SqL.of er20,SqL.of ev,by rw [List.length_map,List.length_map];omega,?_⟩
   intro Db hDb
   have lC:(List.zipWith (·^^^·) rs2 RV).length=rs2.length:=by rw [List.length_zipWith];omega
   have hC:∀ r∈List.zipWith (·^^^·) rs2 RV,r < 2 ^ N.ins.length:=fun z hz=>by
    obtain ⟨j,hj⟩:=List.mem_iff_getElem?.mp hz
    rw [List.getElem?_zipWith] at hj
    cases h1:rs2[j]? with
    | none=>rw [h1] at hj;cases hj
    | some r=>
      cases h2:RV[j]? with
      | none=>rw [h1,h2] at hj;cases hj
      | some l=>
        rw [h1,h2] at hj
        cases hj
        exact M.xor_lt_pow (hrs r (List.mem_of_getElem? h1)) (hrv l (List.mem_of_getElem? h2))
   refine Hf (xs:=rs2.map nat) (ys:=RV.map nat) (by rw [List.length_map,List.length_map];omega) (fun i zs H'=>Cs (fun i zs=>zs=((List.zipWith (·^^^·) rs2 RV).take i).map nat) H20 Db i zs H') (Cs.zero hDb rfl) (fun i zs H' _ c=>⟨SqL.of (c.same.get er20),SqL.of (c.same.get ev)⟩) (fun i u v zs H8 pz H9 hu' hv c' fp s9 e9'=>?_) (fun zs H21 c'=>?_)
   ·obtain ⟨r,hr',rfl⟩:=aC hu'
    obtain ⟨l,hl',rfl⟩:=aC hv
    have hlt:=(List.getElem?_eq_some_iff.mp hr').1
    walk_at "l2"
    rw [jf]
    refine Cs.put hDb (c'.same.trans s9) (s9.get c'.at') c'.len (by omega) ?_
    have hz:(List.zipWith (·^^^·) rs2 RV)[i]? =some (r^^^l):=by rw [List.getElem?_zipWith,hr',hl']
    rw [c'.pv,take_succ hz,List.map_append];rfl
   ·have eb:=c'.at'
    rw [c'.pv,List.length_map,← lC,List.take_length] at eb
    have s21:=c'.same
    clear c'
    have s821:=s819.trans (s20.trans s21)
    walk_at "l2"
    refine fj (s821.get hm) rfl ?_
    walk_at "l2"
    refine ⟨xm,Dv,N.ins.length,nx,os,nat 0,RV.map nat,rfl,ak s821 (s21.get ev) (by omega),fun a1 rs1 gd D22 H22 f22 s22 e22=>?_,fun bad=>False.elim (Mq bd0 hrv bad)⟩
    obtain ⟨rfl,rfl⟩:=sN gd
    have ea22:=s22.get (s21.get (s20.get ea19))
    have lA:(M.wan (prs nx) (prs os) 0 rs2).length=rs2.length:=M.wan_len ..
    have lB:(M.wan (prs nx) (prs os) 0 RV).length=rs2.length:=by rw [M.wan_len];omega
    obtain ⟨A1,hA1⟩:∃ A1,A1=M.wan (prs nx) (prs os) 0 rs2:=⟨_,rfl⟩
    obtain ⟨A2,hA2⟩:∃ A2,A2=M.wan (prs nx) (prs os) 0 RV:=⟨_,rfl⟩
    rw [← hA1] at lA ea22
    rw [← hA2] at lB e22
    walk_at "l2"
    refine ⟨Da,D22,A1.map nat,A2.map nat,rfl,rfl,SqL.of ea22,SqL.of e22,by rw [List.length_map,List.length_map];omega,?_⟩
    intro Dc hDc
    have lR:(List.zipWith (·^^^·) A1 A2).length=rs2.length:=by rw [List.length_zipWith];omega
    refine Hf (xs:=A1.map nat) (ys:=A2.map nat) (by rw [List.length_map,List.length_map];omega) (fun i zs H'=>Cs (fun i zs=>zs=((List.zipWith (·^^^·) A1 A2).take i).map nat) H22 Dc i zs H') (Cs.zero hDc rfl) (fun i zs H' _ c=>⟨SqL.of (c.same.get ea22),SqL.of (c.same.get e22)⟩) (fun i u v zs H8 pz H9 hu' hv c' fp s9 e9'=>?_) (fun zs H23 c'=>?_)
    ·obtain ⟨r,hr',rfl⟩:=aC hu'
     obtain ⟨l,hl',rfl⟩:=aC hv
     have hlt:=(List.getElem?_eq_some_iff.mp hr').1
     walk_at "l2"
     rw [jf]
     refine Cs.put hDc (c'.same.trans s9) (s9.get c'.at') c'.len (by omega) ?_
     have hz:(List.zipWith (·^^^·) A1 A2)[i]? =some (r^^^l):=by rw [List.getElem?_zipWith,hr',hl']
     rw [c'.pv,take_succ hz,List.map_append];rfl
    ·have ec:=c'.at'
     rw [c'.pv,List.length_map,lA,← lR,List.take_length] at ec
     have s2123:=s22.trans c'.same
     clear c'
     have s823:=s821.trans s2123
     walk_at "l2"
     refine ⟨n1,Db,N,od,_,rfl,na8.same s823,s2123.get eb,by omega,hC,fun D24 H24 f24 s24 e24=>?_⟩
     have rx:=(T2 g tp (Xt g tp) rs2 RV 0 0 (by omega)).1
     rw [Nat.xor_self,era,era,era,← hA1,← hA2] at rx
     rw [era,rx] at e24
     walk_at "l2"
     refine Oq (SqL.of e24) (SqL.of (s24.get ec)) ?_
     walk_at "l2"
     refine ⟨n1,N,od,rfl,na8.same (s823.trans s24),fun H25 s25=>?_⟩
     walk_at "l2"
     rw [decide_eq_true rfl]
     exact q _
end
open PySem.W in
theorem all_mk {l:OpenLaw} {w:World} {K:Frag} {h:Heap} {mg:Str→Option Value} {fa:Addr} (X:K.In h) (G:h.Ns mainGlobals mg) (hfa:mg "law"=some (.ref fa))
  {LR NW:Option Addr} {K5:Array (Option Value)} {L4 MQ Nh Lr Bn Nz:Value} {c9:Addr}
  {Qn Sq:Option Addr} {PJ:Array (Option Value)} {Qw Rj RQ P9 Fl R1:Value} {fo:Addr}
  {Qm So:Option Addr} {PH:Array (Option Value)} {Qv Ri RP P8 Fk RZ:Value} {gu:Addr}
  {abG acq:Option Addr} {abf:Array (Option Value)} {abH ab1 aci abA V9 acl:Value} {sQ:Addr}
  {Qo Sr:Option Addr} {PK:Array (Option Value)} {Qx Rk RS Qa Fn R3:Value} {gv:Addr}
  {Qj Sl:Option Addr} {PB:Array (Option Value)} {Qr Rf RM P5 Fh RW:Value} {gp:Addr}
  {LM NR:Option Addr} {KZ:Array (Option Value)} {LY ML Nb Lm Bi Nu:Value} {eJ:Addr}
  {Ql Sn:Option Addr} {PF:Array (Option Value)} {Qu Rh RO P7 Fj RY:Value} {gt:Addr}
  {Co Ep:Option Addr} {BX:Array (Option Value)} {Cz DH DR Ca qm DZ:Value} {cn:Addr}
  {UF Wr:Option Addr} {TQ:Array (Option Value)} {UJ Vi V1 Uj Kf V8:Value} {iW:Addr}
  {FV Hy:Option Addr} {Fw:Array (Option Value)} {F0 GI G0 FL sX Ha:Value} {cI:Addr}
  {qU rO:Option Addr} {qA:Array (Option Value)} {qW rh rz qL jH rG:Value} {aU:Addr}
  {ux vW:Option Addr} {t5:Array (Option Value)} {uC vf vt uh lN vJ:Value} {bo:Addr}
  {so tH:Option Addr} {rS:Array (Option Value)} {sv sL sR r6 j5 sU:Value} {a9:Addr}
  {zG BL:Option Addr} {yU:Array (Option Value)} {zO AD AY zi oN Bg:Value} {bO:Addr}
  {nE nM:Option Addr} {nA:Array (Option Value)} {nF nI nK nC gL nL:Value} {aE:Addr}
  {zH BM:Option Addr} {yV:Array (Option Value)} {zP AE AZ zj oO Bh:Value} {bP:Addr}
  {uw vV:Option Addr} {t4:Array (Option Value)} {uB ve vq ug lM vI:Value} {bj:Addr}
  {tK:Addr} {BV:Value} {BU:Option Addr} {BT:Nat} {BS:Array (Option Value)} {qj:Tok}
  {Cv Ev:Option Addr} {B2:Array (Option Value)} {CF DM DW Cf qt Ed:Value} {bZ:Addr}
  {oX:Addr} {wP:Value} {wO:Option Addr} {wN:Nat} {wM:Array (Option Value)} {ng:Tok}
  {xp yw:Option Addr} {wU:Array (Option Value)} {xv x9 yg xa nv yl:Value} {bB:Addr}
  {uy vX:Option Addr} {t6:Array (Option Value)} {uD vg vv ui lO vK:Value} {bp:Addr}
  {xk yt:Option Addr} {wR:Array (Option Value)} {xr x5 yd w6 nn yi:Value} {bH:Addr}
  {su tI:Option Addr} {rT:Array (Option Value)} {sw sM sS r8 j6 sV:Value} {ba:Addr}
  {FZ HC:Option Addr} {FA:Array (Option Value)} {F6 GM G6 FP tj He:Value} {b9:Addr}
  {Cw Ew:Option Addr} {B3:Array (Option Value)} {CG DN DX Cg qu Ee:Value} {b0:Addr}
  {qT rN:Option Addr} {qz:Array (Option Value)} {qV rg rq qK jG rF:Value} {aT:Addr}
  {Ct Et:Option Addr} {B0:Array (Option Value)} {CC DK DU Cd qq Eb:Value} {bX:Addr}
  {zA BF:Option Addr} {yO:Array (Option Value)} {zI Ax AS zc oG Ba:Value} {bI:Addr}
  {nZ oW:Option Addr} {nQ:Array (Option Value)} {n0 oo oy nT io oF:Value} {aJ:Addr}
  {xl yu:Option Addr} {wS:Array (Option Value)} {xt x6 ye w8 nq yj:Value} {bz:Addr}
  {uu vT:Option Addr} {tZ:Array (Option Value)} {uz vc vo ue lK vG:Value} {bh:Addr}
  {Cp Er:Option Addr} {BY:Array (Option Value)} {CA DI DS Cb qo D0:Value} {cq:Addr}
  {Cq Es:Option Addr} {BZ:Array (Option Value)} {CB DJ DT Cc qp Ea:Value} {cr:Addr}
  {FW Hz:Option Addr} {Fx:Array (Option Value)} {F3 GJ G3 FM sY Hb:Value} {cJ:Addr}
  {Cn Eo:Option Addr} {BW:Array (Option Value)} {Cy DG DQ B9 ql DY:Value} {ck:Addr}
  {xj yr:Option Addr} {wQ:Array (Option Value)} {xq x4 yc w4 nj yh:Value} {bW:Addr}
  {Yh Zn:Option Addr} {X0:Array (Option Value)} {Yk YL Za Ya OX Zd:Value} {mx:Addr}
  {Qi Sk:Option Addr} {Pz:Array (Option Value)} {Qq Re RL P4 Fg RU:Value} {gn:Addr}
  {zF BK:Option Addr} {yT:Array (Option Value)} {zN AC AX zh oM Bf:Value} {bN:Addr}
  {zE BJ:Option Addr} {yS:Array (Option Value)} {zM AB AW zg oK Be:Value} {bM:Addr}
  {zD BI:Option Addr} {yR:Array (Option Value)} {zL AA AV zf oJ Bd:Value} {bL:Addr}
  {uv vU:Option Addr} {t3:Array (Option Value)} {uA vd vp uf lL vH:Value} {bi:Addr}
  {xn yv:Option Addr} {wT:Array (Option Value)} {xu x8 yf w9 nu yk:Value} {bA:Addr}
  {LX N3:Option Addr} {Lb:Array (Option Value)} {Ma MW No Ly Bu NG:Value} {dN:Addr}
  {Cu Eu:Option Addr} {B1:Array (Option Value)} {CD DL DV Ce qr Ec:Value} {bY:Addr}
  {pO p6:Option Addr} {pK:Array (Option Value)} {pP pW pZ pM iR p3:Value} {aO:Addr}
  {Yj Zo:Option Addr} {X1:Array (Option Value)} {Yl YM Zb Yb OY Ze:Value} {my:Addr}
  {LN NS:Option Addr} {K0:Array (Option Value)} {LZ MM Nc Ln Bj Nv:Value} {eK:Addr}
  {LQ NV:Option Addr} {K4:Array (Option Value)} {L3 MP Ng Lq Bm Ny:Value} {eP:Addr}
  {IR Kt:Option Addr} {Id:Array (Option Value)} {IW JA JZ Iv wC J4:Value} {dm:Addr}
  {UE Wq:Option Addr} {TN:Array (Option Value)} {UI Vh V0 Ui Ke V7:Value} {iV:Addr}
  {UD Wp:Option Addr} {TM:Array (Option Value)} {UH Vg VZ Uh Kd V6:Value} {iU:Addr}
  {LS NX:Option Addr} {K6:Array (Option Value)} {L5 MR Ni Ls Bo NB:Value} {eQ:Addr}
  {Qh Sj:Option Addr} {Py:Array (Option Value)} {Qp Rc RK P3 Ff RT:Value} {gl:Addr}
  {LP NU:Option Addr} {K3:Array (Option Value)} {L1 MO Nf Lp Bl Nx:Value} {eM:Addr}
  {LO NT:Option Addr} {K1:Array (Option Value)} {L0 MN Nd Lo Bk Nw:Value} {eL:Addr}
  {IQ Ks:Option Addr} {Ic:Array (Option Value)} {IV Jz JY Iu wB J3:Value} {dl:Addr}
  {Qk Sm:Option Addr} {PD:Array (Option Value)} {Qt Rg RN P6 Fi RX:Value} {gq:Addr}
  {zC BH:Option Addr} {yQ:Array (Option Value)} {zK Az AU ze oI Bc:Value} {bK:Addr}
  {LW N1:Option Addr} {La:Array (Option Value)} {L9 MV Nn Lx Bs NF:Value} {da:Addr}
  {IU Kw:Option Addr} {Ih:Array (Option Value)} {IZ JD J2 Iy wF J7:Value} {cB:Addr}
  {zB BG:Option Addr} {yP:Array (Option Value)} {zJ Ay AT zd oH Bb:Value} {bJ:Addr}
  {FX HA:Option Addr} {Fy:Array (Option Value)} {F4 GK G4 FN sZ Hc:Value} {cK:Addr}
  {IT Kv:Option Addr} {Ig:Array (Option Value)} {IY JC J1 Ix wE J6:Value} {dq:Addr}
  {LV N0:Option Addr} {K9:Array (Option Value)} {L8 MU Nl Lw Br NE:Value} {eU:Addr}
  {IS Ku:Option Addr} {Ie:Array (Option Value)} {IX JB J0 Iw wD J5:Value} {dn:Addr}
  {FY HB:Option Addr} {Fz:Array (Option Value)} {F5 GL G5 FO tf Hd:Value} {cL:Addr}
  {LU NZ:Option Addr} {K8:Array (Option Value)} {L7 MT Nk Lv Bq ND:Value} {eS:Addr}
  {LT NY:Option Addr} {K7:Array (Option Value)} {L6 MS Nj Lu Bp NC:Value} {eR:Addr}
  {aem ae8:Option Addr} {adj:Array (Option Value)} {aen aeA ae1 ad5 aaB ae2:Value} {JT:Addr}
  {ag:Addr} (WC:nsIn K mainGlobals "Machine"=some (some (.ref ag)))
  {be:Addr} (afc:nsIn K mainGlobals "Wire"=some (some (.ref be)))
  {aq:Addr} (Zs:nsIn K mainGlobals "InWire"=some (some (.ref aq)))
  {am:Addr} (WB:nsIn K mainGlobals "SumWire"=some (some (.ref am)))
  {ah:Addr} (N8:nsIn K mainGlobals "StoreWire"=some (some (.ref ah)))
  {br:Addr} (af5:nsIn K mainGlobals "Net"=some (some (.ref br)))
  {bD:Addr} (af4:nsIn K mainGlobals "Run"=some (some (.ref bD)))
  (SA:nsIn K mainGlobals "is_whole"=some (some (.ref c9)))
  (Q5:K.lookup c9=some ⟨L4,LR,.func (fnOf "is_whole" "is_whole" (aw jc) (au jc) (ad jc) .none MQ Nh Lr NW Bn Nz),K5⟩)
  (Sc:codeIn K Bn "is_whole"=true)
  (EU:keepIn K (.ref c9)=true)
  (Wy:nsIn K mainGlobals "is_mask"=some (some (.ref fo)))
  (Ve:K.lookup fo=some ⟨Qw,Qn,.func (fnOf "is_mask" "is_mask" (aw kZ) (au kZ) (ad kZ) .none Rj RQ P9 Sq Fl R1),PJ⟩)
  (Wj:codeIn K Fl "is_mask"=true)
  (II:keepIn K (.ref fo)=true)
  (Wx:nsIn K mainGlobals "is_name"=some (some (.ref gu)))
  (Vd:K.lookup gu=some ⟨Qv,Qm,.func (fnOf "is_name" "is_name" (aw jj) (au jj) (ad jj) .none Ri RP P8 So Fk RZ),PH⟩)
  (Wi:codeIn K Fk "is_name"=true)
  (IH:keepIn K (.ref gu)=true)
  (afb:nsIn K mainGlobals "even"=some (some (.ref sQ)))
  (aez:K.lookup sQ=some ⟨abH,abG,.func (fnOf "even" "even" (aw EE) (au EE) (ad EE) .none ab1 aci abA acq V9 acl),abf⟩)
  (ae3:codeIn K V9 "even"=true)
  (Z8:keepIn K (.ref sQ)=true)
  (Wz:nsIn K mainGlobals "bits_of"=some (some (.ref gv)))
  (Vf:K.lookup gv=some ⟨Qx,Qo,.func (fnOf "bits_of" "bits_of" (aw jk) (au jk) (ad jk) .none Rk RS Qa Sr Fn R3),PK⟩)
  (Wk:codeIn K Fn "bits_of"=true)
  (IJ:keepIn K (.ref gv)=true)
  (Wu:nsIn K mainGlobals "mask_of"=some (some (.ref gp)))
  (Va:K.lookup gp=some ⟨Qr,Qj,.func (fnOf "mask_of" "mask_of" (aw kW) (au kW) (ad kW) .none Rf RM P5 Sl Fh RW),PB⟩)
  (Wf:codeIn K Fh "mask_of"=true)
  (IE:keepIn K (.ref gp)=true)
  (Ss:nsIn K mainGlobals "words_of"=some (some (.ref eJ)))
  (Q0:K.lookup eJ=some ⟨LY,LM,.func (fnOf "words_of" "words_of" (aw jb) (au jb) (ad jb) .none ML Nb Lm NR Bi Nu),KZ⟩)
  (R7:codeIn K Bi "words_of"=true)
  (EO:keepIn K (.ref eJ)=true)
  (Ww:nsIn K mainGlobals "is_pair"=some (some (.ref gt)))
  (Vc:K.lookup gt=some ⟨Qu,Ql,.func (fnOf "is_pair" "is_pair" (aw kX) (au kX) (ad kX) .none Rh RO P7 Sn Fj RY),PF⟩)
  (Wh:codeIn K Fj "is_pair"=true)
  (IG:keepIn K (.ref gt)=true)
  (HE:nsIn K mainGlobals "check_table"=some (some (.ref cn)))
  (GB:K.lookup cn=some ⟨Cz,Co,.func (fnOf "check_table" "check_table" (aw di) (au di) (ad di) .none DH DR Ca Ep qm DZ),BX⟩)
  (Hl:codeIn K qm "check_table"=true)
  (se:keepIn K (.ref cn)=true)
  (Zr:nsIn K mainGlobals "is_odd"=some (some (.ref iW)))
  (YK:K.lookup iW=some ⟨UJ,UF,.func (fnOf "is_odd" "is_odd" (aw o5) (au o5) (ad o5) .none Vi V1 Uj Wr Kf V8),TQ⟩)
  (Zm:codeIn K Kf "is_odd"=true)
  (OC:keepIn K (.ref iW)=true)
  (Ky:nsIn K mainGlobals "odd_places"=some (some (.ref cI)))
  (Ju:K.lookup cI=some ⟨F0,FV,.func (fnOf "odd_places" "odd_places" (aw dW) (au dW) (ad dW) .none GI G0 FL Hy sX Ha),Fw⟩)
  (Ki:codeIn K sX "odd_places"=true)
  (wn:keepIn K (.ref cI)=true)
  (Oh:findIn K (.ref ag) "__init__"=some (some (.ref aU)))
  (sK:K.lookup aU=some ⟨qW,qU,.func (fnOf "__init__" "Machine.__init__" (aw cb) (au cb) (ad cb) .none rh rz qL rO jH rG),qA⟩)
  (tD:codeIn K jH "Machine.__init__"=true)
  (jV:keepIn K (.ref aU)=true)
  (SS:findIn K (.ref ag) "stores"=some (some (.ref bo)))
  (xZ:K.lookup bo=some ⟨uC,ux,.func (fnOf "stores" "Machine.stores" (aw cG) (au cG) (ad cG) .none vf vt uh vW lN vJ),t5⟩)
  (yp:codeIn K lN "Machine.stores"=true)
  (iA:keepIn K (.ref bo)=true)
  (Pi:findIn K (.ref ag) "outputs"=some (some (.ref a9)))
  (va:K.lookup a9=some ⟨sv,so,.func (fnOf "outputs" "Machine.outputs" (aw cu) (au cu) (ad cu) .none sL sR r6 tH j5 sU),rS⟩)
  (vN:codeIn K j5 "Machine.outputs"=true)
  (gW:keepIn K (.ref a9)=true)
  (WU:findIn K (.ref ag) "told"=some (some (.ref bO)))
  (DE:K.lookup bO=some ⟨zO,zG,.func (fnOf "told" "Machine.told" (aw dL) (au dL) (ad dL) .none AD AY zi BL oN Bg),yU⟩)
  (El:codeIn K oN "Machine.told"=true)
  (ku:keepIn K (.ref bO)=true)
  (HU:findIn K (.ref ag) "check_state"=some (some (.ref aE)))
  (on:K.lookup aE=some ⟨nF,nE,.func (fnOf "check_state" "Machine.check_state" (aw bS) (au bS) (ad bS) .none nI nK nC nM gL nL),nA⟩)
  (oP:codeIn K gL "Machine.check_state"=true)
  (dZ:keepIn K (.ref aE)=true)
  (WV:findIn K (.ref ag) "step"=some (some (.ref bP)))
  (DF:K.lookup bP=some ⟨zP,zH,.func (fnOf "step" "Machine.step" (aw dM) (au dM) (ad dM) .none AE AZ zj BM oO Bh),yV⟩)
  (Em:codeIn K oO "Machine.step"=true)
  (kz:keepIn K (.ref bP)=true)
  (SR:findIn K (.ref ag) "walked"=some (some (.ref bj)))
  (xX:K.lookup bj=some ⟨uB,uw,.func (fnOf "walked" "Machine.walked" (aw cF) (au cF) (ad cF) .none ve vq ug vV lM vI),t4⟩)
  (yo:codeIn K lM "Machine.walked"=true)
  (iz:keepIn K (.ref bj)=true)
  (Xq:findIn K (.ref ag) "run"=some (some (.ref bZ)))
  (GG:K.lookup bZ=some ⟨CF,Cv,.func (fnOf "run" "Machine.run" (aw eF) (au eF) (ad eF) (.ref tK) DM DW Cf Ev qt Ed),B2⟩)
  (Du:K.lookup tK=some ⟨BV,BU,.seq #[.int 0 qj] BT,BS⟩)
  (Hs:codeIn K qt "Machine.run"=true)
  (mj:keepIn K (.ref bZ)=true)
  (Tf:findIn K (.ref ag) "after"=some (some (.ref bB)))
  (Aw:K.lookup bB=some ⟨xv,xp,.func (fnOf "after" "Machine.after" (aw cX) (au cX) (ad cX) (.ref oX) x9 yg xa yw nv yl),wU⟩)
  (xU:K.lookup oX=some ⟨wP,wO,.seq #[.int 0 ng] wN,wM⟩)
  (BA:codeIn K nv "Machine.after"=true)
  (ju:keepIn K (.ref bB)=true)
  (ST:findIn K (.ref ag) "single"=some (some (.ref bp)))
  (x0:K.lookup bp=some ⟨uD,uy,.func (fnOf "single" "Machine.single" (aw cH) (au cH) (ad cH) .none vg vv ui vX lO vK),t6⟩)
  (yq:codeIn K lO "Machine.single"=true)
  (iB:keepIn K (.ref bp)=true)
  (Tc:findIn K (.ref be) "__init__"=some (some (.ref bH)))
  (At:K.lookup bH=some ⟨xr,xk,.func (fnOf "__init__" "Wire.__init__" (aw cU) (au cU) (ad cU) .none x5 yd w6 yt nn yi),wR⟩)
  (Bx:codeIn K nn "Wire.__init__"=true)
  (jq:keepIn K (.ref bH)=true)
  (Pj:findIn K (.ref aq) "__init__"=some (some (.ref ba)))
  (vb:K.lookup ba=some ⟨sw,su,.func (fnOf "__init__" "InWire.__init__" (aw cv) (au cv) (ad cv) .none sM sS r8 tI j6 sV),rT⟩)
  (vO:codeIn K j6 "InWire.__init__"=true)
  (lc:keepIn K (.ref ba)=true)
  (ZF:findIn K (.ref aq) "bit"=some (some (.ref b9)))
  (Jy:K.lookup b9=some ⟨F6,FZ,.func (fnOf "bit" "InWire.bit" (aw fU) (au fU) (ad fU) .none GM G6 FP HC tj He),FA⟩)
  (Km:codeIn K tj "InWire.bit"=true)
  (nV:keepIn K (.ref b9)=true)
  (Xr:findIn K (.ref aq) "hang"=some (some (.ref b0)))
  (GH:K.lookup b0=some ⟨CG,Cw,.func (fnOf "hang" "InWire.hang" (aw eG) (au eG) (ad eG) .none DN DX Cg Ew qu Ee),B3⟩)
  (Ht:codeIn K qu "InWire.hang"=true)
  (ml:keepIn K (.ref b0)=true)
  (Og:findIn K (.ref am) "__init__"=some (some (.ref aT)))
  (sJ:K.lookup aT=some ⟨qV,qT,.func (fnOf "__init__" "SumWire.__init__" (aw ca) (au ca) (ad ca) .none rg rq qK rN jG rF),qz⟩)
  (tz:codeIn K jG "SumWire.__init__"=true)
  (jU:keepIn K (.ref aT)=true)
  (Xo:findIn K (.ref am) "bit"=some (some (.ref bX)))
  (GE:K.lookup bX=some ⟨CC,Ct,.func (fnOf "bit" "SumWire.bit" (aw eC) (au eC) (ad eC) .none DK DU Cd Et qq Eb),B0⟩)
  (Hq:codeIn K qq "SumWire.bit"=true)
  (mh:keepIn K (.ref bX)=true)
  (WO:findIn K (.ref am) "hang"=some (some (.ref bI)))
  (Dx:K.lookup bI=some ⟨zI,zA,.func (fnOf "hang" "SumWire.hang" (aw dF) (au dF) (ad dF) .none Ax AS zc BF oG Ba),yO⟩)
  (Ef:codeIn K oG "SumWire.hang"=true)
  (ko:keepIn K (.ref bI)=true)
  (KI:findIn K (.ref ah) "__init__"=some (some (.ref aJ)))
  (pV:K.lookup aJ=some ⟨n0,nZ,.func (fnOf "__init__" "StoreWire.__init__" (aw b4) (au b4) (ad b4) .none oo oy nT oW io oF),nQ⟩)
  (p5:codeIn K io "StoreWire.__init__"=true)
  (iP:keepIn K (.ref aJ)=true)
  (Td:findIn K (.ref ah) "bit"=some (some (.ref bz)))
  (Au:K.lookup bz=some ⟨xt,xl,.func (fnOf "bit" "StoreWire.bit" (aw cV) (au cV) (ad cV) .none x6 ye w8 yu nq yj),wS⟩)
  (By:codeIn K nq "StoreWire.bit"=true)
  (jr:keepIn K (.ref bz)=true)
  (SO:findIn K (.ref ah) "hang"=some (some (.ref bh)))
  (xV:K.lookup bh=some ⟨uz,uu,.func (fnOf "hang" "StoreWire.hang" (aw cD) (au cD) (ad cD) .none vc vo ue vT lK vG),tZ⟩)
  (ym:codeIn K lK "StoreWire.hang"=true)
  (iw:keepIn K (.ref bh)=true)
  (HF:nsIn K mainGlobals "check_sizes"=some (some (.ref cq)))
  (GC:K.lookup cq=some ⟨CA,Cp,.func (fnOf "check_sizes" "check_sizes" (aw dj) (au dj) (ad dj) .none DI DS Cb Er qo D0),BY⟩)
  (Hm:codeIn K qo "check_sizes"=true)
  (sf:keepIn K (.ref cq)=true)
  (HG:nsIn K mainGlobals "check_names"=some (some (.ref cr)))
  (GD:K.lookup cr=some ⟨CB,Cq,.func (fnOf "check_names" "check_names" (aw eA) (au eA) (ad eA) .none DJ DT Cc Es qp Ea),BZ⟩)
  (Hn:codeIn K qp "check_names"=true)
  (sh:keepIn K (.ref cr)=true)
  (Kz:nsIn K mainGlobals "check_wire"=some (some (.ref cJ)))
  (Jv:K.lookup cJ=some ⟨F3,FW,.func (fnOf "check_wire" "check_wire" (aw fS) (au fS) (ad fS) .none GJ G3 FM Hz sY Hb),Fx⟩)
  (Kj:codeIn K sY "check_wire"=true)
  (wo:keepIn K (.ref cJ)=true)
  (HD:nsIn K mainGlobals "check_wires"=some (some (.ref ck)))
  (GA:K.lookup ck=some ⟨Cy,Cn,.func (fnOf "check_wires" "check_wires" (aw eh) (au eh) (ad eh) .none DG DQ B9 Eo ql DY),BW⟩)
  (Hk:codeIn K ql "check_wires"=true)
  (sd:keepIn K (.ref ck)=true)
  (BN:nsIn K mainGlobals "wires_by_name"=some (some (.ref bW)))
  (As:K.lookup bW=some ⟨xq,xj,.func (fnOf "wires_by_name" "wires_by_name" (aw bE) (au bE) (ad bE) .none x4 yc w4 yr nj yh),wQ⟩)
  (Bw:codeIn K nj "wires_by_name"=true)
  (nU:keepIn K (.ref bW)=true)
  (acs:nsIn K mainGlobals "waits"=some (some (.ref mx)))
  (abZ:K.lookup mx=some ⟨Yk,Yh,.func (fnOf "waits" "waits" (aw qG) (au qG) (ad qG) .none YL Za Ya Zn OX Zd),X0⟩)
  (acm:codeIn K OX "waits"=true)
  (Up:keepIn K (.ref mx)=true)
  (Wt:nsIn K mainGlobals "ordered"=some (some (.ref gn)))
  (U9:K.lookup gn=some ⟨Qq,Qi,.func (fnOf "ordered" "ordered" (aw il) (au il) (ad il) .none Re RL P4 Sk Fg RU),Pz⟩)
  (We:codeIn K Fg "ordered"=true)
  (ID:keepIn K (.ref gn)=true)
  (WT:findIn K (.ref br) "__init__"=some (some (.ref bN)))
  (DC:K.lookup bN=some ⟨zN,zF,.func (fnOf "__init__" "Net.__init__" (aw bV) (au bV) (ad bV) .none AC AX zh BK oM Bf),yT⟩)
  (Ek:codeIn K oM "Net.__init__"=true)
  (qd:keepIn K (.ref bN)=true)
  (WS:findIn K (.ref br) "in_names"=some (some (.ref bM)))
  (DB:K.lookup bM=some ⟨zM,zE,.func (fnOf "in_names" "Net.in_names" (aw dJ) (au dJ) (ad dJ) .none AB AW zg BJ oK Be),yS⟩)
  (Ej:codeIn K oK "Net.in_names"=true)
  (kt:keepIn K (.ref bM)=true)
  (WR:findIn K (.ref br) "sum_rows"=some (some (.ref bL)))
  (DA:K.lookup bL=some ⟨zL,zD,.func (fnOf "sum_rows" "Net.sum_rows" (aw dI) (au dI) (ad dI) .none AA AV zf BI oJ Bd),yR⟩)
  (Ei:codeIn K oJ "Net.sum_rows"=true)
  (kr:keepIn K (.ref bL)=true)
  (SQ:findIn K (.ref br) "store_rows"=some (some (.ref bi)))
  (xW:K.lookup bi=some ⟨uA,uv,.func (fnOf "store_rows" "Net.store_rows" (aw cE) (au cE) (ad cE) .none vd vp uf vU lL vH),t3⟩)
  (yn:codeIn K lL "Net.store_rows"=true)
  (iy:keepIn K (.ref bi)=true)
  (Te:findIn K (.ref br) "out_wires"=some (some (.ref bA)))
  (Av:K.lookup bA=some ⟨xu,xn,.func (fnOf "out_wires" "Net.out_wires" (aw cW) (au cW) (ad cW) .none x8 yf w9 yv nu yk),wT⟩)
  (Bz:codeIn K nu "Net.out_wires"=true)
  (jt:keepIn K (.ref bA)=true)
  (acE:findIn K (.ref br) "told"=some (some (.ref dN)))
  (Rb:K.lookup dN=some ⟨Ma,LX,.func (fnOf "told" "Net.told" (aw k4) (au k4) (ad k4) .none MW No Ly N3 Bu NG),Lb⟩)
  (Si:codeIn K Bu "Net.told"=true)
  (um:keepIn K (.ref dN)=true)
  (Xp:findIn K (.ref br) "wire_of"=some (some (.ref bY)))
  (GF:K.lookup bY=some ⟨CD,Cu,.func (fnOf "wire_of" "Net.wire_of" (aw eE) (au eE) (ad eE) .none DL DV Ce Eu qr Ec),B1⟩)
  (Hr:codeIn K qr "Net.wire_of"=true)
  (mi:keepIn K (.ref bY)=true)
  (KS:findIn K (.ref br) "names_by_need"=some (some (.ref aO)))
  (rf:K.lookup aO=some ⟨pP,pO,.func (fnOf "names_by_need" "Net.names_by_need" (aw bQ) (au bQ) (ad bQ) .none pW pZ pM p6 iR p3),pK⟩)
  (rJ:codeIn K iR "Net.names_by_need"=true)
  (fK:keepIn K (.ref aO)=true)
  (acu:nsIn K mainGlobals "hangs"=some (some (.ref my)))
  (ab0:K.lookup my=some ⟨Yl,Yj,.func (fnOf "hangs" "hangs" (aw ub) (au ub) (ad ub) .none YM Zb Yb Zo OY Ze),X1⟩)
  (acn:codeIn K OY "hangs"=true)
  (Uq:keepIn K (.ref my)=true)
  (Su:nsIn K mainGlobals "table_of"=some (some (.ref eK)))
  (Q1:K.lookup eK=some ⟨LZ,LN,.func (fnOf "table_of" "table_of" (aw fR) (au fR) (ad fR) .none MM Nc Ln NS Bj Nv),K0⟩)
  (R8:codeIn K Bj "table_of"=true)
  (EQ:keepIn K (.ref eK)=true)
  (Sy:nsIn K mainGlobals "numbered"=some (some (.ref eP)))
  (Q4:K.lookup eP=some ⟨L3,LQ,.func (fnOf "numbered" "numbered" (aw gO) (au gO) (ad gO) .none MP Ng Lq NV Bm Ny),K4⟩)
  (Sb:codeIn K Bm "numbered"=true)
  (ET:keepIn K (.ref eP)=true)
  (N5:nsIn K mainGlobals "named_sum"=some (some (.ref dm)))
  (MH:K.lookup dm=some ⟨IW,IR,.func (fnOf "named_sum" "named_sum" (aw dX) (au dX) (ad dX) .none JA JZ Iv Kt wC J4),Id⟩)
  (NI:codeIn K wC "named_sum"=true)
  (zn:keepIn K (.ref dm)=true)
  (Zq:nsIn K mainGlobals "net_of"=some (some (.ref iV)))
  (YJ:K.lookup iV=some ⟨UI,UE,.func (fnOf "net_of" "net_of" (aw l9) (au l9) (ad l9) .none Vh V0 Ui Wq Ke V7),TN⟩)
  (Zk:codeIn K Ke "net_of"=true)
  (OB:keepIn K (.ref iV)=true)
  (Zp:nsIn K mainGlobals "summed"=some (some (.ref iU)))
  (YI:K.lookup iU=some ⟨UH,UD,.func (fnOf "summed" "summed" (aw jR) (au jR) (ad jR) .none Vg VZ Uh Wp Kd V6),TM⟩)
  (Zj:codeIn K Kd "summed"=true)
  (OA:keepIn K (.ref iU)=true)
  (SB:nsIn K mainGlobals "has_form"=some (some (.ref eQ)))
  (Q6:K.lookup eQ=some ⟨L5,LS,.func (fnOf "has_form" "has_form" (aw gP) (au gP) (ad gP) .none MR Ni Ls NX Bo NB),K6⟩)
  (Sd:codeIn K Bo "has_form"=true)
  (EV:keepIn K (.ref eQ)=true)
  (Ws:nsIn K mainGlobals "rows_of"=some (some (.ref gl)))
  (U8:K.lookup gl=some ⟨Qp,Qh,.func (fnOf "rows_of" "rows_of" (aw kU) (au kU) (ad kU) .none Rc RK P3 Sj Ff RT),Py⟩)
  (Wc:codeIn K Ff "rows_of"=true)
  (IC:keepIn K (.ref gl)=true)
  (Sw:nsIn K mainGlobals "read_net"=some (some (.ref eM)))
  (Q3:K.lookup eM=some ⟨L1,LP,.func (fnOf "read_net" "read_net" (aw cT) (au cT) (ad cT) .none MO Nf Lp NU Bl Nx),K3⟩)
  (Sa:codeIn K Bl "read_net"=true)
  (ES:keepIn K (.ref eM)=true)
  (Sv:nsIn K mainGlobals "show_net"=some (some (.ref eL)))
  (Q2:K.lookup eL=some ⟨L0,LO,.func (fnOf "show_net" "show_net" (aw cR) (au cR) (ad cR) .none MN Nd Lo NT Bk Nw),K1⟩)
  (R9:codeIn K Bk "show_net"=true)
  (ER:keepIn K (.ref eL)=true)
  (N4:nsIn K mainGlobals "turn_bits"=some (some (.ref dl)))
  (MG:K.lookup dl=some ⟨IV,IQ,.func (fnOf "turn_bits" "turn_bits" (aw gN) (au gN) (ad gN) .none Jz JY Iu Ks wB J3),Ic⟩)
  (NH:codeIn K wB "turn_bits"=true)
  (zm:keepIn K (.ref dl)=true)
  (Wv:nsIn K mainGlobals "mask_at"=some (some (.ref gq)))
  (Vb:K.lookup gq=some ⟨Qt,Qk,.func (fnOf "mask_at" "mask_at" (aw ji) (au ji) (ad ji) .none Rg RN P6 Sm Fi RX),PD⟩)
  (Wg:codeIn K Fi "mask_at"=true)
  (IF:keepIn K (.ref gq)=true)
  (WQ:findIn K (.ref bD) "__init__"=some (some (.ref bK)))
  (Dz:K.lookup bK=some ⟨zK,zC,.func (fnOf "__init__" "Run.__init__" (aw dH) (au dH) (ad dH) .none Az AU ze BH oI Bc),yQ⟩)
  (Eh:codeIn K oI "Run.__init__"=true)
  (qc:keepIn K (.ref bK)=true)
  (acD:findIn K (.ref bD) "step"=some (some (.ref da)))
  (Ra:K.lookup da=some ⟨L9,LW,.func (fnOf "step" "Run.step" (aw gS) (au gS) (ad gS) .none MV Nn Lx N1 Bs NF),La⟩)
  (Sh:codeIn K Bs "Run.step"=true)
  (ul:keepIn K (.ref da)=true)
  (aaP:findIn K (.ref bD) "state"=some (some (.ref cB)))
  (MK:K.lookup cB=some ⟨IZ,IU,.func (fnOf "state" "Run.state" (aw gT) (au gT) (ad gT) .none JD J2 Iy Kw wF J7),Ih⟩)
  (NL:codeIn K wF "Run.state"=true)
  (qN:keepIn K (.ref cB)=true)
  (WP:findIn K (.ref bD) "answered"=some (some (.ref bJ)))
  (Dy:K.lookup bJ=some ⟨zJ,zB,.func (fnOf "answered" "Run.answered" (aw dG) (au dG) (ad dG) .none Ay AT zd BG oH Bb),yP⟩)
  (Eg:codeIn K oH "Run.answered"=true)
  (kq:keepIn K (.ref bJ)=true)
  (KA:nsIn K mainGlobals "answers_of"=some (some (.ref cK)))
  (Jw:K.lookup cK=some ⟨F4,FX,.func (fnOf "answers_of" "answers_of" (aw fT) (au fT) (ad fT) .none GK G4 FN HA sZ Hc),Fy⟩)
  (Kk:codeIn K sZ "answers_of"=true)
  (wp:keepIn K (.ref cK)=true)
  (N7:nsIn K mainGlobals "_law_cell"=some (some (.ref dq)))
  (MJ:K.lookup dq=some ⟨IY,IT,.func (fnOf "_law_cell" "_law_cell" (aw gR) (au gR) (ad gR) .none JC J1 Ix Kv wE J6),Ig⟩)
  (NK:codeIn K wE "_law_cell"=true)
  (zq:keepIn K (.ref dq)=true)
  (SE:nsIn K mainGlobals "_law_mix"=some (some (.ref eU)))
  (Q9:K.lookup eU=some ⟨L8,LV,.func (fnOf "_law_mix" "_law_mix" (aw je) (au je) (ad je) .none MU Nl Lw N0 Br NE),K9⟩)
  (Sg:codeIn K Br "_law_mix"=true)
  (EY:keepIn K (.ref eU)=true)
  (N6:nsIn K mainGlobals "_law_name"=some (some (.ref dn)))
  (MI:K.lookup dn=some ⟨IX,IS,.func (fnOf "_law_name" "_law_name" (aw gQ) (au gQ) (ad gQ) .none JB J0 Iw Ku wD J5),Ie⟩)
  (NJ:codeIn K wD "_law_name"=true)
  (zo:keepIn K (.ref dn)=true)
  (KB:nsIn K mainGlobals "_law_wires"=some (some (.ref cL)))
  (Jx:K.lookup cL=some ⟨F5,FY,.func (fnOf "_law_wires" "_law_wires" (aw dY) (au dY) (ad dY) .none GL G5 FO HB tf Hd),Fz⟩)
  (Kl:codeIn K tf "_law_wires"=true)
  (wt:keepIn K (.ref cL)=true)
  (SD:nsIn K mainGlobals "_law_net"=some (some (.ref eS)))
  (Q8:K.lookup eS=some ⟨L7,LU,.func (fnOf "_law_net" "_law_net" (aw eB) (au eB) (ad eB) .none MT Nk Lv NZ Bq ND),K8⟩)
  (Sf:codeIn K Bq "_law_net"=true)
  (EX:keepIn K (.ref eS)=true)
  (SC:nsIn K mainGlobals "_law_run"=some (some (.ref eR)))
  (Q7:K.lookup eR=some ⟨L6,LT,.func (fnOf "_law_run" "_law_run" (aw jd) (au jd) (ad jd) .none MS Nj Lu NY Bp NC),K7⟩)
  (Se:codeIn K Bp "_law_run"=true)
  (EW:keepIn K (.ref eR)=true)
  (afa:nsIn K mainGlobals "law"=some (some (.ref JT)))
  (afZ:K.lookup JT=some ⟨aen,aem,.func (fnOf "law" "law" (aw FG) (au FG) (ad FG) .none aeA ae1 ad5 ae8 aaB ae2),adj⟩)
  (af3:codeIn K aaB "law"=true)
  (aee:keepIn K (.ref JT)=true)
  (EM:plainGet K ag Str.empty=true)
  (EK:hasDictIn K ag=true)
  (EI:plainOver K ag=true)
  (EG:findIn K (.ref ag) "__setattr__"=some (some (.builtin "object.__setattr__")))
  (P1:findIn K (.ref ag) "__class__"=some (some (.builtin "object.__class__")))
  (PY:mroIn K ag (.type "object")=some true)
  (RJ:makesIn K ag=true)
  (RH:findIn K (.ref ag) "__init__"=some (some (.ref aU)))
  (RF:isFn K (.ref aU)=true)
  (RD:keepIn K (.ref ag)=true)
  (uY:findIn K (.ref ag) "stores"=some (some (.ref bo)))
  (uT:isFn K (.ref bo)=true)
  (sI:findIn K (.ref ag) "outputs"=some (some (.ref a9)))
  (sH:isFn K (.ref a9)=true)
  (An:findIn K (.ref ag) "told"=some (some (.ref bO)))
  (Ah:isFn K (.ref bO)=true)
  (nH:findIn K (.ref ag) "check_state"=some (some (.ref aE)))
  (nG:isFn K (.ref aE)=true)
  (Ao:findIn K (.ref ag) "step"=some (some (.ref bP)))
  (Ai:isFn K (.ref bP)=true)
  (uX:findIn K (.ref ag) "walked"=some (some (.ref bj)))
  (uS:isFn K (.ref bj)=true)
  (Dp:findIn K (.ref ag) "run"=some (some (.ref bZ)))
  (Df:isFn K (.ref bZ)=true)
  (xT:findIn K (.ref ag) "after"=some (some (.ref bB)))
  (xQ:isFn K (.ref bB)=true)
  (uZ:findIn K (.ref ag) "single"=some (some (.ref bp)))
  (uU:isFn K (.ref bp)=true)
  (C2:findIn K (.ref ag) "bits"=some none)
  (uK:findIn K (.ref ag) "by_name"=some none)
  (zZ:findIn K (.ref ag) "given"=some none)
  (C1:findIn K (.ref ag) "held"=some none)
  (xI:findIn K (.ref ag) "inputs"=some none)
  (Ge:findIn K (.ref ag) "ins"=some none)
  (oh:findIn K (.ref ag) "kept_stores"=some none)
  (C0:findIn K (.ref ag) "line"=some none)
  (CZ:findIn K (.ref ag) "name"=some none)
  (Gd:findIn K (.ref ag) "net"=some none)
  (zY:findIn K (.ref ag) "nexts"=some none)
  (xH:findIn K (.ref ag) "number"=some none)
  (CY:findIn K (.ref ag) "outs"=some none)
  (CW:findIn K (.ref ag) "ring"=some none)
  (qZ:findIn K (.ref ag) "sum_order"=some none)
  (CV:findIn K (.ref ag) "sums"=some none)
  (CU:findIn K (.ref ag) "wire"=some none)
  (zX:findIn K (.ref ag) "wires"=some none)
  (Uc:plainGet K be Str.empty=true)
  (Ub:hasDictIn K be=true)
  (Ua:plainOver K be=true)
  (T9:findIn K (.ref be) "__setattr__"=some (some (.builtin "object.__setattr__")))
  (abx:findIn K (.ref be) "__class__"=some (some (.builtin "object.__class__")))
  (abw:mroIn K be (.type "object")=some true)
  (Mi:findIn K (.ref be) "bits"=some none)
  (CH:findIn K (.ref be) "by_name"=some none)
  (Jc:findIn K (.ref be) "given"=some none)
  (Mh:findIn K (.ref be) "held"=some none)
  (F8:findIn K (.ref be) "inputs"=some none)
  (Qz:findIn K (.ref be) "ins"=some none)
  (sx:findIn K (.ref be) "kept_stores"=some none)
  (Mg:findIn K (.ref be) "line"=some none)
  (Mf:findIn K (.ref be) "name"=some none)
  (Qy:findIn K (.ref be) "net"=some none)
  (Jb:findIn K (.ref be) "nexts"=some none)
  (F7:findIn K (.ref be) "number"=some none)
  (Me:findIn K (.ref be) "outs"=some none)
  (Md:findIn K (.ref be) "ring"=some none)
  (xw:findIn K (.ref be) "sum_order"=some none)
  (Mc:findIn K (.ref be) "sums"=some none)
  (Mb:findIn K (.ref be) "wire"=some none)
  (Ja:findIn K (.ref be) "wires"=some none)
  (Is:plainGet K aq Str.empty=true)
  (Ir:hasDictIn K aq=true)
  (Iq:plainOver K aq=true)
  (Ip:findIn K (.ref aq) "__setattr__"=some (some (.builtin "object.__setattr__")))
  (T8:findIn K (.ref aq) "__class__"=some (some (.builtin "object.__class__")))
  (T7:mroIn K aq (.type "object")=some true)
  (VS:makesIn K aq=true)
  (VR:findIn K (.ref aq) "__init__"=some (some (.ref ba)))
  (VQ:isFn K (.ref ba)=true)
  (VP:keepIn K (.ref aq)=true)
  (Gz:findIn K (.ref aq) "bit"=some (some (.ref b9)))
  (Gy:isFn K (.ref b9)=true)
  (Dq:findIn K (.ref aq) "hang"=some (some (.ref b0)))
  (Dg:isFn K (.ref b0)=true)
  (Go:findIn K (.ref aq) "bits"=some none)
  (xJ:findIn K (.ref aq) "by_name"=some none)
  (C5:findIn K (.ref aq) "given"=some none)
  (Gm:findIn K (.ref aq) "held"=some none)
  (z6:findIn K (.ref aq) "inputs"=some none)
  (Ji:findIn K (.ref aq) "ins"=some none)
  (pQ:findIn K (.ref aq) "kept_stores"=some none)
  (Gk:findIn K (.ref aq) "line"=some none)
  (Gj:findIn K (.ref aq) "name"=some none)
  (Jh:findIn K (.ref aq) "net"=some none)
  (C4:findIn K (.ref aq) "nexts"=some none)
  (z0:findIn K (.ref aq) "number"=some none)
  (Gi:findIn K (.ref aq) "outs"=some none)
  (Gh:findIn K (.ref aq) "ring"=some none)
  (sB:findIn K (.ref aq) "sum_order"=some none)
  (Gg:findIn K (.ref aq) "sums"=some none)
  (Gf:findIn K (.ref aq) "wire"=some none)
  (C3:findIn K (.ref aq) "wires"=some none)
  (EL:plainGet K am Str.empty=true)
  (EJ:hasDictIn K am=true)
  (EH:plainOver K am=true)
  (EF:findIn K (.ref am) "__setattr__"=some (some (.builtin "object.__setattr__")))
  (PZ:findIn K (.ref am) "__class__"=some (some (.builtin "object.__class__")))
  (PX:mroIn K am (.type "object")=some true)
  (RI:makesIn K am=true)
  (RG:findIn K (.ref am) "__init__"=some (some (.ref aT)))
  (RE:isFn K (.ref aT)=true)
  (RC:keepIn K (.ref am)=true)
  (Dh:findIn K (.ref am) "bit"=some (some (.ref bX)))
  (C9:isFn K (.ref bX)=true)
  (Aj:findIn K (.ref am) "hang"=some (some (.ref bI)))
  (Ac:isFn K (.ref bI)=true)
  (CQ:findIn K (.ref am) "bits"=some none)
  (uE:findIn K (.ref am) "by_name"=some none)
  (zS:findIn K (.ref am) "given"=some none)
  (CP:findIn K (.ref am) "held"=some none)
  (xy:findIn K (.ref am) "inputs"=some none)
  (Ga:findIn K (.ref am) "ins"=some none)
  (oa:findIn K (.ref am) "kept_stores"=some none)
  (CO:findIn K (.ref am) "line"=some none)
  (CN:findIn K (.ref am) "name"=some none)
  (F9:findIn K (.ref am) "net"=some none)
  (zR:findIn K (.ref am) "nexts"=some none)
  (xx:findIn K (.ref am) "number"=some none)
  (CM:findIn K (.ref am) "outs"=some none)
  (CL:findIn K (.ref am) "ring"=some none)
  (qX:findIn K (.ref am) "sum_order"=some none)
  (CK:findIn K (.ref am) "sums"=some none)
  (CJ:findIn K (.ref am) "wire"=some none)
  (zQ:findIn K (.ref am) "wires"=some none)
  (wk:plainGet K ah Str.empty=true)
  (wj:hasDictIn K ah=true)
  (wg:plainOver K ah=true)
  (wf:findIn K (.ref ah) "__setattr__"=some (some (.builtin "object.__setattr__")))
  (Io:findIn K (.ref ah) "__class__"=some (some (.builtin "object.__class__")))
  (Im:mroIn K ah (.type "object")=some true)
  (JX:makesIn K ah=true)
  (JW:findIn K (.ref ah) "__init__"=some (some (.ref aJ)))
  (JV:isFn K (.ref aJ)=true)
  (JU:keepIn K (.ref ah)=true)
  (xR:findIn K (.ref ah) "bit"=some (some (.ref bz)))
  (xO:isFn K (.ref bz)=true)
  (uV:findIn K (.ref ah) "hang"=some (some (.ref bh)))
  (uQ:isFn K (.ref bh)=true)
  (xG:findIn K (.ref ah) "bits"=some none)
  (qY:findIn K (.ref ah) "by_name"=some none)
  (uH:findIn K (.ref ah) "given"=some none)
  (xF:findIn K (.ref ah) "held"=some none)
  (sA:findIn K (.ref ah) "inputs"=some none)
  (zU:findIn K (.ref ah) "ins"=some none)
  (mm:findIn K (.ref ah) "kept_stores"=some none)
  (xE:findIn K (.ref ah) "line"=some none)
  (xD:findIn K (.ref ah) "name"=some none)
  (zT:findIn K (.ref ah) "net"=some none)
  (uG:findIn K (.ref ah) "nexts"=some none)
  (sy:findIn K (.ref ah) "number"=some none)
  (xC:findIn K (.ref ah) "outs"=some none)
  (xB:findIn K (.ref ah) "ring"=some none)
  (og:findIn K (.ref ah) "sum_order"=some none)
  (xA:findIn K (.ref ah) "sums"=some none)
  (xz:findIn K (.ref ah) "wire"=some none)
  (uF:findIn K (.ref ah) "wires"=some none)
  (Z1:plainGet K br Str.empty=true)
  (ZZ:hasDictIn K br=true)
  (ZX:plainOver K br=true)
  (ZV:findIn K (.ref br) "__setattr__"=some (some (.builtin "object.__setattr__")))
  (ad3:findIn K (.ref br) "__class__"=some (some (.builtin "object.__class__")))
  (ad1:mroIn K br (.type "object")=some true)
  (aeX:makesIn K br=true)
  (aeV:findIn K (.ref br) "__init__"=some (some (.ref bN)))
  (aeT:isFn K (.ref bN)=true)
  (aeR:keepIn K (.ref br)=true)
  (Am:findIn K (.ref br) "in_names"=some (some (.ref bM)))
  (Ag:isFn K (.ref bM)=true)
  (Al:findIn K (.ref br) "sum_rows"=some (some (.ref bL)))
  (Af:isFn K (.ref bL)=true)
  (uW:findIn K (.ref br) "store_rows"=some (some (.ref bi)))
  (uR:isFn K (.ref bi)=true)
  (xS:findIn K (.ref br) "out_wires"=some (some (.ref bA)))
  (xP:isFn K (.ref bA)=true)
  (MF:findIn K (.ref br) "told"=some (some (.ref dN)))
  (MD:isFn K (.ref dN)=true)
  (Dj:findIn K (.ref br) "wire_of"=some (some (.ref bY)))
  (De:isFn K (.ref bY)=true)
  (pU:findIn K (.ref br) "names_by_need"=some (some (.ref aO)))
  (pS:isFn K (.ref aO)=true)
  (QP:findIn K (.ref br) "bits"=some none)
  (Gc:findIn K (.ref br) "by_name"=some none)
  (Mp:findIn K (.ref br) "given"=some none)
  (QO:findIn K (.ref br) "held"=some none)
  (Jg:findIn K (.ref br) "inputs"=some none)
  (UN:findIn K (.ref br) "ins"=some none)
  (uJ:findIn K (.ref br) "kept_stores"=some none)
  (QN:findIn K (.ref br) "line"=some none)
  (QM:findIn K (.ref br) "name"=some none)
  (UM:findIn K (.ref br) "net"=some none)
  (Mo:findIn K (.ref br) "nexts"=some none)
  (Jf:findIn K (.ref br) "number"=some none)
  (QL:findIn K (.ref br) "outs"=some none)
  (QK:findIn K (.ref br) "ring"=some none)
  (zW:findIn K (.ref br) "sum_order"=some none)
  (QJ:findIn K (.ref br) "sums"=some none)
  (QI:findIn K (.ref br) "wire"=some none)
  (Mn:findIn K (.ref br) "wires"=some none)
  (Z0:plainGet K bD Str.empty=true)
  (ZY:hasDictIn K bD=true)
  (ZW:plainOver K bD=true)
  (ZU:findIn K (.ref bD) "__setattr__"=some (some (.builtin "object.__setattr__")))
  (ad2:findIn K (.ref bD) "__class__"=some (some (.builtin "object.__class__")))
  (ad0:mroIn K bD (.type "object")=some true)
  (aeW:makesIn K bD=true)
  (aeU:findIn K (.ref bD) "__init__"=some (some (.ref bK)))
  (aeS:isFn K (.ref bK)=true)
  (aeQ:keepIn K (.ref bD)=true)
  (ME:findIn K (.ref bD) "step"=some (some (.ref da)))
  (MC:isFn K (.ref da)=true)
  (Js:findIn K (.ref bD) "state"=some (some (.ref cB)))
  (Jr:isFn K (.ref cB)=true)
  (Ak:findIn K (.ref bD) "answered"=some (some (.ref bJ)))
  (Ae:isFn K (.ref bJ)=true)
  (QH:findIn K (.ref bD) "bits"=some none)
  (Gb:findIn K (.ref bD) "by_name"=some none)
  (Mm:findIn K (.ref bD) "given"=some none)
  (QG:findIn K (.ref bD) "held"=some none)
  (Je:findIn K (.ref bD) "inputs"=some none)
  (UL:findIn K (.ref bD) "ins"=some none)
  (uI:findIn K (.ref bD) "kept_stores"=some none)
  (QF:findIn K (.ref bD) "line"=some none)
  (QE:findIn K (.ref bD) "name"=some none)
  (UK:findIn K (.ref bD) "net"=some none)
  (Ml:findIn K (.ref bD) "nexts"=some none)
  (Jd:findIn K (.ref bD) "number"=some none)
  (QD:findIn K (.ref bD) "outs"=some none)
  (QC:findIn K (.ref bD) "ring"=some none)
  (zV:findIn K (.ref bD) "sum_order"=some none)
  (QB:findIn K (.ref bD) "sums"=some none)
  (QA:findIn K (.ref bD) "wire"=some none)
  (Mj:findIn K (.ref bD) "wires"=some none)
  (w1:specialIn K (.builtin "object.__class__") "__get__"=some (some (.builtin "getset_descriptor.__get__")))
  (w2:takesIn K (.builtin "object.__class__")=some true)
  {dc:Addr} (WA:nsIn K mainGlobals "TooMany"=some (some (.ref dc)))
  {bT:Addr} (WE:nsIn K mainGlobals "BadMask"=some (some (.ref bT)))
  {cy:Addr} (SG:nsIn K mainGlobals "BadTable"=some (some (.ref cy)))
  (rQ:excIn K dc [.type "ValueError",.type "Exception",.type "BaseException",.type "object"] "ValueError.__new__"=true)
  (Pg:isClsIn K dc=true)
  (Pe:findIn K (.ref dc) "__getattribute__"=some (some (.builtin "BaseException.__getattribute__")))
  (Pc:findIn K (.ref dc) "__getattr__"=some none)
  (Pa:findIn K (.ref dc) "__class__"=some (some (.builtin "object.__class__")))
  (O8:mroIn K dc (.type "object")=some true)
  (O6:mroIn K dc (.type "BaseException")=some true)
  (ij:excIn K bT [.type "ValueError",.type "Exception",.type "BaseException",.type "object"] "ValueError.__new__"=true)
  (Ph:isClsIn K bT=true)
  (Pf:findIn K (.ref bT) "__getattribute__"=some (some (.builtin "BaseException.__getattribute__")))
  (Pd:findIn K (.ref bT) "__getattr__"=some none)
  (Pb:findIn K (.ref bT) "__class__"=some (some (.builtin "object.__class__")))
  (O9:mroIn K bT (.type "object")=some true)
  (O7:mroIn K bT (.type "BaseException")=some true)
  (fQ:excIn K cy [.type "ValueError",.type "Exception",.type "BaseException",.type "object"] "ValueError.__new__"=true)
  (KR:isClsIn K cy=true)
  (KQ:findIn K (.ref cy) "__getattribute__"=some (some (.builtin "BaseException.__getattribute__")))
  (KP:findIn K (.ref cy) "__getattr__"=some none)
  (KO:findIn K (.ref cy) "__class__"=some (some (.builtin "object.__class__")))
  (KN:mroIn K cy (.type "object")=some true)
  (KM:mroIn K cy (.type "BaseException")=some true)
  (wL:specialIn K (.ref be) "__getattribute__"=some (some (.builtin "type.__getattribute__")))
  (wK:readsIn K be (.type "type")=true)
  (wJ:findCls K (.ref be) (.type "type") "__init__"=some (.val (.ref bH)))
  {yN:Tok} (WD:nsIn K mainGlobals "LETTERS"=some (some (.str "abcdefghijklmnopqrstuvwxyz" yN)))
  {kj:Tok} (Ex:nsIn K mainGlobals "LONGEST_NAME"=some (some (.int 6 kj)))
  {lZ:Tok} (HH:nsIn K mainGlobals "MOST_INPUTS"=some (some (.int 6 lZ)))
  {tY:Tok} (SF:nsIn K mainGlobals "MOST_INS"=some (some (.int 6 tY)))
  {eX:Tok} (p7:nsIn K mainGlobals "MOST_OUTS_machines"=some (some (.int 6 eX)))
  {ir:Tok} (yx:nsIn K mainGlobals "MOST_OUTS_nets"=some (some (.int 6 ir)))
  {dO:Tok} (nN:nsIn K mainGlobals "MOST_STORES_machines"=some (some (.int 120 dO)))
  {fZ:Tok} (tJ:nsIn K mainGlobals "MOST_STORES_nets"=some (some (.int 16 fZ)))
  {qy:Tok} (N9:nsIn K mainGlobals "MOST_SUMS"=some (some (.int 40 qy)))
  {nP:Tok} (KD:nsIn K mainGlobals "MOST_WIRES"=some (some (.int 24 nP)))
  {nO:Tok} (KC:nsIn K mainGlobals "NAME_SIGNS"=some (some (.str "abcdefghijklmnopqrstuvwxyz0123456789" nO)))
  (afv:nsIn K mainGlobals "all"=some none)
  (afu:nsIn K mainGlobals "any"=some none)
  (acZ:nsIn K mainGlobals "bool"=some none)
  (acY:nsIn K mainGlobals "dict"=some none)
  (KL:nsIn K mainGlobals "enumerate"=some none)
  (aft:nsIn K mainGlobals "int"=some none)
  (HS:nsIn K mainGlobals "isinstance"=some none)
  (afs:nsIn K mainGlobals "len"=some none)
  (acX:nsIn K mainGlobals "list"=some none)
  (aaM:nsIn K mainGlobals "range"=some none)
  (O5:nsIn K mainGlobals "reversed"=some none)
  (afr:nsIn K mainGlobals "str"=some none)
  (aaL:nsIn K mainGlobals "tuple"=some none)
  (afq:nsIn K mainGlobals "zip"=some none):
  ∃ fd:FuncData,(∀ (s:Shared) (v:Value),BindsTo s fd ⟨[v],[]⟩ [("_law_script",v)])∧∀ base:Heap,K.In base→base.Ns mainGlobals mg→FnOk l.prog w K mg base CX0 10 fa fd ["_law_script"] (Oo K):=by
 have e:=hfa.symm.trans (mg_of X G afa)
 cases e
 have pE:=aI (st:=jc) Q5 Sc EU
 have lV:=pE.binds (ps:=["thing"]) fun _ _ _ _ _ _ us hl=>match us,hl with | [_],_=>rfl
 have tU:=aI (st:=kZ) Ve Wj II
 have ip:=tU.binds (ps:=["thing","width"]) fun _ _ _ _ _ _ us hl=>match us,hl with | [_,_],_=>rfl
 have tT:=aI (st:=jj) Vd Wi IH
 have jK:=tT.binds (ps:=["thing"]) fun _ _ _ _ _ _ us hl=>match us,hl with | [_],_=>rfl
 have O4:=aI (st:=EE) aez ae3 Z8
 have O2:=O4.binds (ps:=["number"]) fun _ _ _ _ _ _ us hl=>match us,hl with | [_],_=>rfl
 have tV:=aI (st:=jk) Vf Wk IJ
 have oQ:=tV.binds (ps:=["mask"]) fun _ _ _ _ _ _ us hl=>match us,hl with | [_],_=>rfl
 have tQ:=aI (st:=kW) Va Wf IE
 have tE:=tQ.binds (ps:=["places"]) fun _ _ _ _ _ _ us hl=>match us,hl with | [_],_=>rfl
 have py:=aI (st:=jb) Q0 R7 EO
 have vP:=py.binds (ps:=["row"]) fun _ _ _ _ _ _ us hl=>match us,hl with | [_],_=>rfl
 have tS:=aI (st:=kX) Vc Wh IG
 have BD:=tS.binds (ps:=["thing","stores","inputs"]) fun _ _ _ _ _ _ us hl=>match us,hl with | [_,_,_],_=>rfl
 have i0:=aI (st:=di) GB Hl se
 have mJ:=i0.binds (ps:=["inputs","nexts","outs"]) fun _ _ _ _ _ _ us hl=>match us,hl with | [_,_,_],_=>rfl
 have yK:=aI (st:=o5) YK Zm OC
 have Hx:=yK.binds (ps:=["pair","state","row"]) fun _ _ _ _ _ _ us hl=>match us,hl with | [_,_,_],_=>rfl
 have ka:=aI (st:=dW) Ju Ki wn
 have j8:=ka.binds (ps:=["pairs","state","row"]) fun _ _ _ _ _ _ us hl=>match us,hl with | [_,_,_],_=>rfl
 have dS:=aI (st:=cb) sK tD jV
 have gB:=dS.binds (ps:=["self","inputs","nexts","outs"]) fun _ _ _ _ _ _ us hl=>match us,hl with | [_,_,_,_],_=>rfl
 have fH:=aI (st:=cG) xZ yp iA
 have fC:=fH.binds (ps:=["self"]) fun _ _ _ _ _ _ us hl=>match us,hl with | [_],_=>rfl
 have eV:=aI (st:=cu) va vN gW
 have g7:=eV.binds (ps:=["self"]) fun _ _ _ _ _ _ us hl=>match us,hl with | [_],_=>rfl
 have ig:=aI (st:=dL) DE El ku
 have hZ:=ig.binds (ps:=["self"]) fun _ _ _ _ _ _ us hl=>match us,hl with | [_],_=>rfl
 have cO:=aI (st:=bS) on oP dZ
 have cN:=cO.binds (ps:=["self","state"]) fun _ _ _ _ _ _ us hl=>match us,hl with | [_,_],_=>rfl
 have ii:=aI (st:=dM) DF Em kz
 have kO:=ii.binds (ps:=["self","state","row"]) fun _ _ _ _ _ _ us hl=>match us,hl with | [_,_,_],_=>rfl
 have fG:=aI (st:=cF) xX yo iz
 have fB:=fG.binds (ps:=["self","rows","state"]) fun _ _ _ _ _ _ us hl=>match us,hl with | [_,_,_],_=>rfl
 have gG:=VI (st:=eF) GG Du Hs mj
 have tG:=gG.binds (ps:=["self","rows","state"]) (ds:=[]) fun _ _ _ _ _ _ _ us hl=>match us,hl with | [_,_,_],_=>⟨_,rfl,rfl⟩
 have gH:=gG.binds (ps:=["self","rows","state"]) (ds:=[.int 0 qj]) fun _ _ _ _ _ _ _ us hl=>match us,(show us.length=2 by simpa using hl) with | [_,_],_=>⟨_,rfl,rfl⟩
 have d9:=VI (st:=cX) Aw xU BA ju
 have oS:=d9.binds (ps:=["self","rows","state"]) (ds:=[]) fun _ _ _ _ _ _ _ us hl=>match us,hl with | [_,_,_],_=>⟨_,rfl,rfl⟩
 have jP:=d9.binds (ps:=["self","rows","state"]) (ds:=[.int 0 ng]) fun _ _ _ _ _ _ _ us hl=>match us,(show us.length=2 by simpa using hl) with | [_,_],_=>⟨_,rfl,rfl⟩
 have fI:=aI (st:=cH) x0 yq iB
 have iM:=fI.binds (ps:=["self","which","turns"]) fun _ _ _ _ _ _ us hl=>match us,hl with | [_,_,_],_=>rfl
 have gD:=aI (st:=cU) At Bx jq
 have d4:=gD.binds (ps:=["self","name"]) fun _ _ _ _ _ _ us hl=>match us,hl with | [_,_],_=>rfl
 have eW:=aI (st:=cv) vb vO lc
 have g8:=eW.binds (ps:=["self","name","number"]) fun _ _ _ _ _ _ us hl=>match us,hl with | [_,_,_],_=>rfl
 have kg:=aI (st:=fU) Jy Km nV
 have oU:=kg.binds (ps:=["self","known","row","state"]) fun _ _ _ _ _ _ us hl=>match us,hl with | [_,_,_,_],_=>rfl
 have i9:=aI (st:=eG) GH Ht ml
 have mO:=i9.binds (ps:=["self","known"]) fun _ _ _ _ _ _ us hl=>match us,hl with | [_,_],_=>rfl
 have dR:=aI (st:=ca) sJ tz jU
 have gA:=dR.binds (ps:=["self","name","wires"]) fun _ _ _ _ _ _ us hl=>match us,hl with | [_,_,_],_=>rfl
 have i7:=aI (st:=eC) GE Hq mh
 have mM:=i7.binds (ps:=["self","known","row","state"]) fun _ _ _ _ _ _ us hl=>match us,hl with | [_,_,_,_],_=>rfl
 have h7:=aI (st:=dF) Dx Ef ko
 have kM:=h7.binds (ps:=["self","known"]) fun _ _ _ _ _ _ us hl=>match us,hl with | [_,_],_=>rfl
 have cP:=aI (st:=b4) pV p5 iP
 have fh:=cP.binds (ps:=["self","name","wire","number"]) fun _ _ _ _ _ _ us hl=>match us,hl with | [_,_,_,_],_=>rfl
 have gE:=aI (st:=cV) Au By jr
 have jM:=gE.binds (ps:=["self","known","row","state"]) fun _ _ _ _ _ _ us hl=>match us,hl with | [_,_,_,_],_=>rfl
 have fE:=aI (st:=cD) xV ym iw
 have iL:=fE.binds (ps:=["self","known"]) fun _ _ _ _ _ _ us hl=>match us,hl with | [_,_],_=>rfl
 have i5:=aI (st:=dj) GC Hm sf
 have mK:=i5.binds (ps:=["ins","sums","stores","outs"]) fun _ _ _ _ _ _ us hl=>match us,hl with | [_,_,_,_],_=>rfl
 have i6:=aI (st:=eA) GD Hn sh
 have mL:=i6.binds (ps:=["names"]) fun _ _ _ _ _ _ us hl=>match us,hl with | [_],_=>rfl
 have kb:=aI (st:=fS) Jv Kj wo
 have fY:=kb.binds (ps:=["wire","known"]) fun _ _ _ _ _ _ us hl=>match us,hl with | [_,_],_=>rfl
 have iZ:=aI (st:=eh) GA Hk sd
 have mI:=iZ.binds (ps:=["sums","stores","outs","known"]) fun _ _ _ _ _ _ us hl=>match us,hl with | [_,_,_,_],_=>rfl
 have gC:=aI (st:=bE) As Bw nU
 have jJ:=gC.binds (ps:=["ins","sums","stores"]) fun _ _ _ _ _ _ us hl=>match us,hl with | [_,_,_],_=>rfl
 have HQ:=aI (st:=qG) abZ acm Up
 have Hu:=HQ.binds (ps:=["row","waiting"]) fun _ _ _ _ _ _ us hl=>match us,hl with | [_,_],_=>rfl
 have tP:=aI (st:=il) U9 We ID
 have BC:=tP.binds (ps:=["sums"]) fun _ _ _ _ _ _ us hl=>match us,hl with | [_],_=>rfl
 have ie:=aI (st:=bV) DC Ek qd
 have fu:=ie.binds (ps:=["self","ins","sums","stores","outs"]) fun _ _ _ _ _ _ us hl=>match us,hl with | [_,_,_,_,_],_=>rfl
 have ib:=aI (st:=dJ) DB Ej kt
 have fq:=ib.binds (ps:=["self"]) fun _ _ _ _ _ _ us hl=>match us,hl with | [_],_=>rfl
 have ia:=aI (st:=dI) DA Ei kr
 have kN:=ia.binds (ps:=["self"]) fun _ _ _ _ _ _ us hl=>match us,hl with | [_],_=>rfl
 have fF:=aI (st:=cE) xW yn iy
 have dD:=fF.binds (ps:=["self"]) fun _ _ _ _ _ _ us hl=>match us,hl with | [_],_=>rfl
 have gF:=aI (st:=cW) Av Bz jt
 have d5:=gF.binds (ps:=["self"]) fun _ _ _ _ _ _ us hl=>match us,hl with | [_],_=>rfl
 have wa:=aI (st:=k4) Rb Si um
 have Fp:=wa.binds (ps:=["self"]) fun _ _ _ _ _ _ us hl=>match us,hl with | [_],_=>rfl
 have i8:=aI (st:=eE) GF Hr mi
 have cM:=i8.binds (ps:=["self","name"]) fun _ _ _ _ _ _ us hl=>match us,hl with | [_,_],_=>rfl
 have dA:=aI (st:=bQ) rf rJ fK
 have dy:=dA.binds (ps:=["self"]) fun _ _ _ _ _ _ us hl=>match us,hl with | [_],_=>rfl
 have HR:=aI (st:=ub) ab0 acn Uq
 have NO:=HR.binds (ps:=["net"]) fun _ _ _ _ _ _ us hl=>match us,hl with | [_],_=>rfl
 have pA:=aI (st:=fR) Q1 R8 EQ
 have pi:=pA.binds (ps:=["net"]) fun _ _ _ _ _ _ us hl=>match us,hl with | [_],_=>rfl
 have pD:=aI (st:=gO) Q4 Sb ET
 have jg:=pD.binds (ps:=["letter","count"]) fun _ _ _ _ _ _ us hl=>match us,hl with | [_,_],_=>rfl
 have mS:=aI (st:=dX) MH NI zn
 have rL:=mS.binds (ps:=["name","pair"]) fun _ _ _ _ _ _ us hl=>match us,hl with | [_,_],_=>rfl
 have yJ:=aI (st:=l9) YJ Zk OB
 have Hw:=yJ.binds (ps:=["machine"]) fun _ _ _ _ _ _ us hl=>match us,hl with | [_],_=>rfl
 have yI:=aI (st:=jR) YI Zj OA
 have Hv:=yI.binds (ps:=["machine","rows"]) fun _ _ _ _ _ _ us hl=>match us,hl with | [_,_],_=>rfl
 have pF:=aI (st:=gP) Q6 Sd EV
 have vQ:=pF.binds (ps:=["words"]) fun _ _ _ _ _ _ us hl=>match us,hl with | [_],_=>rfl
 have tO:=aI (st:=kU) U8 Wc IC
 have BB:=tO.binds (ps:=["text"]) fun _ _ _ _ _ _ us hl=>match us,hl with | [_],_=>rfl
 have pC:=aI (st:=cT) Q3 Sa ES
 have pj:=pC.binds (ps:=["text"]) fun _ _ _ _ _ _ us hl=>match us,hl with | [_],_=>rfl
 have pB:=aI (st:=cR) Q2 R9 ER
 have lU:=pB.binds (ps:=["net"]) fun _ _ _ _ _ _ us hl=>match us,hl with | [_],_=>rfl
 have mR:=aI (st:=gN) MG NH zm
 have rK:=mR.binds (ps:=["net","row","state"]) fun _ _ _ _ _ _ us hl=>match us,hl with | [_,_,_],_=>rfl
 have tR:=aI (st:=ji) Vb Wg IF
 have tF:=tR.binds (ps:=["wires","bits"]) fun _ _ _ _ _ _ us hl=>match us,hl with | [_,_],_=>rfl
 have h9:=aI (st:=dH) Dz Eh qc
 have hX:=h9.binds (ps:=["self","net"]) fun _ _ _ _ _ _ us hl=>match us,hl with | [_,_],_=>rfl
 have pJ:=aI (st:=gS) Ra Sh ul
 have pp:=pJ.binds (ps:=["self","row"]) fun _ _ _ _ _ _ us hl=>match us,hl with | [_,_],_=>rfl
 have mV:=aI (st:=gT) MK NL qN
 have rM:=mV.binds (ps:=["self"]) fun _ _ _ _ _ _ us hl=>match us,hl with | [_],_=>rfl
 have h8:=aI (st:=dG) Dy Eg kq
 have hV:=h8.binds (ps:=["self"]) fun _ _ _ _ _ _ us hl=>match us,hl with | [_],_=>rfl
 have kc:=aI (st:=fT) Jw Kk wp
 have j9:=kc.binds (ps:=["net","rows"]) fun _ _ _ _ _ _ us hl=>match us,hl with | [_,_],_=>rfl
 have mU:=aI (st:=gR) MJ NK zq
 have jL:=mU.binds (ps:=["_law_script","_law_k"]) fun _ _ _ _ _ _ us hl=>match us,hl with | [_,_],_=>rfl
 have pI:=aI (st:=je) Q9 Sg EY
 have b6:=pI.binds (ps:=["_law_cell_here","_law_k"]) fun _ _ _ _ _ _ us hl=>match us,hl with | [_,_],_=>rfl
 have mT:=aI (st:=gQ) MI NJ zo
 have g6:=mT.binds (ps:=["_law_cell_here","_law_k"]) fun _ _ _ _ _ _ us hl=>match us,hl with | [_,_],_=>rfl
 have ke:=aI (st:=dY) Jx Kl wt
 have oR:=ke.binds (ps:=["_law_cell_here","_law_start","_law_names","_law_digits"]) fun _ _ _ _ _ _ us hl=>match us,hl with | [_,_,_,_],_=>rfl
 have pH:=aI (st:=eB) Q8 Sf EX
 have vS:=pH.binds (ps:=["_law_script","_law_start","_law_most"]) fun _ _ _ _ _ _ us hl=>match us,hl with | [_,_,_],_=>rfl
 have pG:=aI (st:=jd) Q7 Se EW
 have vR:=pG.binds (ps:=["_law_net_one","_law_rows"]) fun _ _ _ _ _ _ us hl=>match us,hl with | [_,_],_=>rfl
 have Zx:=aI (st:=FG) afZ af3 aee
 have ae6:=Zx.binds (ps:=["_law_script"]) fun _ _ _ _ _ _ us hl=>match us,hl with | [_],_=>rfl
 have T:Tx K mg ⟨c9,_,fo,_,gu,_,sQ,_,gv,_,gp,_,eJ,_,gt,_,cn,_,iW,_,cI,_,aU,_,bo,_,a9,_,bO,_,aE,_,bP,_,bj,_,bZ,_,_,bB,_,_,bp,_,bH,_,ba,_,b9,_,b0,_,aT,_,bX,_,bI,_,aJ,_,bz,_,bh,_,cq,_,cr,_,cJ,_,ck,_,bW,_,mx,_,gn,_,bN,_,bM,_,bL,_,bi,_,bA,_,dN,_,bY,_,aO,_,my,_,eK,_,eP,_,dm,_,iV,_,iU,_,eQ,_,gl,_,eM,_,eL,_,dl,_,gq,_,bK,_,da,_,cB,_,bJ,_,cK,_,dq,_,eU,_,dn,_,cL,_,eS,_,eR,_,fa,_,ag,be,aq,am,ah,br,bD,dc,bT,cy,_,_,_,_,_,_,_,_,_,_,_⟩:=⟨pE,EU,lV,mg_of X G SA,tU,II,ip,mg_of X G Wy,tT,IH,jK,mg_of X G Wx,O4,Z8,O2,mg_of X G afb,tV,IJ,oQ,mg_of X G Wz,tQ,IE,tE,mg_of X G Wu,py,EO,vP,mg_of X G Ss,tS,IG,BD,mg_of X G Ww,i0,se,mJ,mg_of X G HE,yK,OC,Hx,mg_of X G Zr,ka,wn,j8,mg_of X G Ky,dS,jV,gB,fH,iA,fC,eV,gW,g7,ig,ku,hZ,cO,dZ,cN,ii,kz,kO,fG,iz,fB,gG,gH,⟨_,rfl⟩,mj,tG,d9,jP,⟨_,rfl⟩,ju,oS,fI,iB,iM,gD,jq,d4,eW,lc,g8,kg,nV,oU,i9,ml,mO,dR,jU,gA,i7,mh,mM,h7,ko,kM,cP,iP,fh,gE,jr,jM,fE,iw,iL,i5,sf,mK,mg_of X G HF,i6,sh,mL,mg_of X G HG,kb,wo,fY,mg_of X G Kz,iZ,sd,mI,mg_of X G HD,gC,nU,jJ,mg_of X G BN,HQ,Up,Hu,mg_of X G acs,tP,ID,BC,mg_of X G Wt,ie,qd,fu,ib,kt,fq,ia,kr,kN,fF,iy,dD,gF,jt,d5,wa,um,Fp,i8,mi,cM,dA,fK,dy,HR,Uq,NO,mg_of X G acu,pA,EQ,pi,mg_of X G Su,pD,ET,jg,mg_of X G Sy,mS,zn,rL,mg_of X G N5,yJ,OB,Hw,mg_of X G Zq,yI,OA,Hv,mg_of X G Zp,pF,EV,vQ,mg_of X G SB,tO,IC,BB,mg_of X G Ws,pC,ES,pj,mg_of X G Sw,pB,ER,lU,mg_of X G Sv,mR,zm,rK,mg_of X G N4,tR,IF,tF,mg_of X G Wv,h9,qc,hX,pJ,ul,pp,mV,qN,rM,h8,kq,hV,kc,wp,j9,mg_of X G KA,mU,zq,jL,mg_of X G N7,pI,EY,b6,mg_of X G SE,mT,zo,g6,mg_of X G N6,ke,wt,oR,mg_of X G KB,pH,EX,vS,mg_of X G SD,pG,EW,vR,mg_of X G SC,Zx,aee,ae6,mg_of X G afa,mg_of X G WC,⟨EM,EK,EI,EG⟩,⟨⟨EM,EK,EI,EG⟩,P1,w1,w2,PY⟩,⟨RJ,RH,RF,RD⟩,⟨uY,uT,iA⟩,⟨sI,sH,gW⟩,⟨An,Ah,ku⟩,⟨nH,nG,dZ⟩,⟨Ao,Ai,kz⟩,⟨uX,uS,iz⟩,⟨Dp,Df,mj⟩,⟨xT,xQ,ju⟩,⟨uZ,uU,iB⟩,C2,uK,zZ,C1,xI,Ge,oh,C0,CZ,Gd,zY,xH,CY,CW,qZ,CV,CU,zX,mg_of X G afc,⟨Uc,Ub,Ua,T9⟩,⟨⟨Uc,Ub,Ua,T9⟩,abx,w1,w2,abw⟩,Mi,CH,Jc,Mh,F8,Qz,sx,Mg,Mf,Qy,Jb,F7,Me,Md,xw,Mc,Mb,Ja,mg_of X G Zs,⟨Is,Ir,Iq,Ip⟩,⟨⟨Is,Ir,Iq,Ip⟩,T8,w1,w2,T7⟩,⟨VS,VR,VQ,VP⟩,⟨Gz,Gy,nV⟩,⟨Dq,Dg,ml⟩,Go,xJ,C5,Gm,z6,Ji,pQ,Gk,Gj,Jh,C4,z0,Gi,Gh,sB,Gg,Gf,C3,mg_of X G WB,⟨EL,EJ,EH,EF⟩,⟨⟨EL,EJ,EH,EF⟩,PZ,w1,w2,PX⟩,⟨RI,RG,RE,RC⟩,⟨Dh,C9,mh⟩,⟨Aj,Ac,ko⟩,CQ,uE,zS,CP,xy,Ga,oa,CO,CN,F9,zR,xx,CM,CL,qX,CK,CJ,zQ,mg_of X G N8,⟨wk,wj,wg,wf⟩,⟨⟨wk,wj,wg,wf⟩,Io,w1,w2,Im⟩,⟨JX,JW,JV,JU⟩,⟨xR,xO,jr⟩,⟨uV,uQ,iw⟩,xG,qY,uH,xF,sA,zU,mm,xE,xD,zT,uG,sy,xC,xB,og,xA,xz,uF,mg_of X G af5,⟨Z1,ZZ,ZX,ZV⟩,⟨⟨Z1,ZZ,ZX,ZV⟩,ad3,w1,w2,ad1⟩,⟨aeX,aeV,aeT,aeR⟩,⟨Am,Ag,kt⟩,⟨Al,Af,kr⟩,⟨uW,uR,iy⟩,⟨xS,xP,jt⟩,⟨MF,MD,um⟩,⟨Dj,De,mi⟩,⟨pU,pS,fK⟩,QP,Gc,Mp,QO,Jg,UN,uJ,QN,QM,UM,Mo,Jf,QL,QK,zW,QJ,QI,Mn,mg_of X G af4,⟨Z0,ZY,ZW,ZU⟩,⟨⟨Z0,ZY,ZW,ZU⟩,ad2,w1,w2,ad0⟩,⟨aeW,aeU,aeS,aeQ⟩,⟨ME,MC,ul⟩,⟨Js,Jr,qN⟩,⟨Ak,Ae,kq⟩,QH,Gb,Mm,QG,Je,UL,uI,QF,QE,UK,Ml,Jd,QD,QC,zV,QB,QA,Mj,⟨wL,wK,wJ,(by rfl),jq⟩,mg_of X G WA,rQ,⟨Pg,Pe,Pc,Pa,w1,w2,O8,O6⟩,mg_of X G WE,ij,⟨Ph,Pf,Pd,Pb,w1,w2,O9,O7⟩,mg_of X G SG,fQ,⟨KR,KQ,KP,KO,w1,w2,KN,KM⟩,mg_of X G WD,mg_of X G Ex,mg_of X G HH,mg_of X G SF,mg_of X G p7,mg_of X G yx,mg_of X G nN,mg_of X G tJ,mg_of X G N9,mg_of X G KD,mg_of X G KC,mg_none_of X G afv,mg_none_of X G afu,mg_none_of X G acZ,mg_none_of X G acY,mg_none_of X G KL,mg_none_of X G aft,mg_none_of X G HS,mg_none_of X G afs,mg_none_of X G acX,mg_none_of X G aaM,mg_none_of X G O5,mg_none_of X G afr,mg_none_of X G aaL,mg_none_of X G afq⟩
 exact ⟨_,fun s v=> .of_eq rfl,fun base _ _=>aek T⟩
open PySem.W in
theorem walk {l:OpenLaw} {q:Program} {loose:List Str} {XP:(Str→Option Value)→Heap→Prop} {YP:World→Heap→Prop} {d:DefRec} {K:Params→Frag} (hn:l.most=some 63) (hdf:d.params.defaults=[])
  (hY:∀ (w:World) (h:Heap),YP w h→(K w.params).In h)
  (F:∀ (w:World) (mg:Str→Option Value) (fa:Addr) (h:Heap),(K w.params).In h→h.Ns mainGlobals mg→mg d.name=some (.ref fa)→
   ∃ fd:FuncData,(∀ (s:Shared) (u:Value),BindsTo s fd ⟨[u],[]⟩ [("_law_script",u)])∧∀ base:Heap,(K w.params).In base→base.Ns mainGlobals mg→FnOk l.prog w (K w.params) mg base CX0 10 fa fd ["_law_script"] (Oo (K w.params))):
  WalkO q loose XP YP l.row.toRowW d [] (fun f vs=>PySem.call f vs):=
 L2.walk_of (n:=63) (k:=10) (x:="_law_script") (CX:=fun _=>CX0) (sp:=fun w=>Oo (K w.params)) hn (by decide) hdf ⟨rfl,by decide,by decide⟩ hY F (fun _ _ a ns hl _ hS=>⟨a,ns,rfl,hS,hl,fun _=>rfl⟩) fun _ _ _ _ _ z=>z
end My
def PySem.W.Fast.tw5245745887874676444:Unit:=()
def PySem.W.Fast.tw5705256162660652714:Unit:=()
def PySem.W.Fast.tw16000294969679859031:Unit:=()
def PySem.W.Fast.tw17334042940815748534:Unit:=()
def PySem.W.Fast.tw7526850529213289849:Unit:=()
def PySem.W.Fast.tw8902586288577901246:Unit:=()
def PySem.W.Fast.tw14446367968649590291:Unit:=()
def PySem.W.Fast.tw15759866068398508216:Unit:=()
def PySem.W.Fast.tw11187904907314713066:Unit:=()
def PySem.W.Fast.tw11837464561271483751:Unit:=()
def PySem.W.Fast.tw17006938454253327875:Unit:=()
def PySem.W.Fast.tw6577171377202559862:Unit:=()
def PySem.W.Fast.tw16854628062499609470:Unit:=()
def PySem.W.Fast.tw2414385231224808742:Unit:=()
def PySem.W.Fast.tw8687074030592178522:Unit:=()
def PySem.W.Fast.tw6989604769060438698:Unit:=()
def PySem.W.Fast.tw15786966626154042319:Unit:=()
def PySem.W.Fast.tw8271825014072593661:Unit:=()
def PySem.W.Fast.tw15727614130784585205:Unit:=()
def PySem.W.Fast.tw5347872921391696083:Unit:=()
def PySem.W.Fast.tw8776318697613075362:Unit:=()
def PySem.W.Fast.tw8145917572332566969:Unit:=()
def PySem.W.Fast.tw15878532630105182824:Unit:=()
def PySem.W.Fast.tw11578851867796410286:Unit:=()
def PySem.W.Fast.tw15207538930901246020:Unit:=()
def PySem.W.Fast.tw8267773436160294835:Unit:=()
def PySem.W.Fast.tw5392094079983539262:Unit:=()
def PySem.W.Fast.tw4011202296887472069:Unit:=()
def PySem.W.Fast.tw12688167964652381737:Unit:=()
def PySem.W.Fast.tw10654966578404368942:Unit:=()
def PySem.W.Fast.tw9541870348490918307:Unit:=()
def PySem.W.Fast.tw5890738370074440899:Unit:=()
def PySem.W.Fast.tw6887828387666482302:Unit:=()
def PySem.W.Fast.tw910550498748205891:Unit:=()
def PySem.W.Fast.tw1042510199157994651:Unit:=()
def PySem.W.Fast.tw7389810812205075924:Unit:=()
def PySem.W.Fast.tw7726444108028886930:Unit:=()
def PySem.W.Fast.tw5371667248787017139:Unit:=()
def PySem.W.Fast.tw6541354267350148233:Unit:=()
def PySem.W.Fast.tw6606689869796153881:Unit:=()
def PySem.W.Fast.tw5771646468853596084:Unit:=()
def PySem.W.Fast.tw5777401037418324596:Unit:=()
def PySem.W.Fast.tw10463246742133010191:Unit:=()
def PySem.W.Fast.tw6943237171562177103:Unit:=()
def PySem.W.Fast.tw4466120819270907920:Unit:=()
def PySem.W.Fast.tw8270929830426633193:Unit:=()
def PySem.W.Fast.tw9196600474852170787:Unit:=()
def PySem.W.Fast.tw15715036150514228334:Unit:=()
def PySem.W.Fast.tw3534798887734750986:Unit:=()
def PySem.W.Fast.tw6623996806925066980:Unit:=()
def PySem.W.Fast.tw2167027478907749380:Unit:=()
def PySem.W.Fast.tw5395948491050663122:Unit:=()
def PySem.W.Fast.tw15559275236962363358:Unit:=()
def PySem.W.Fast.tw11389615779340058189:Unit:=()
def PySem.W.Fast.tw15106593334180821205:Unit:=()
def PySem.W.Fast.tw11205772030862271438:Unit:=()
def PySem.W.Fast.tw17169788941044273856:Unit:=()
def PySem.W.Fast.tw6830550017627057689:Unit:=()
def PySem.W.Fast.tw7109313993725982543:Unit:=()
def PySem.W.Fast.tw8954667448001776537:Unit:=()
def PySem.W.Fast.tw2880539567444786612:Unit:=()
def PySem.W.Fast.tw3735031191308560010:Unit:=()
def PySem.W.Fast.tw14113890288832086428:Unit:=()
def PySem.W.Fast.tw9321946390627040423:Unit:=()
def PySem.W.Fast.tw3870444885796185062:Unit:=()
def PySem.W.Fast.tw16771123608125339962:Unit:=()
def PySem.W.Fast.tw12523468117876128899:Unit:=()
def PySem.W.Fast.tw14571499529554500074:Unit:=()
def PySem.W.Fast.tw4508896074550879640:Unit:=()
def PySem.W.Fast.tw11978468479544995801:Unit:=()
def PySem.W.Fast.tw6705839799564940363:Unit:=()
def PySem.W.Fast.tw18201559731423447148:Unit:=()
def PySem.W.Fast.tw16917303090650592967:Unit:=()
def PySem.W.Fast.tw4457929804565935994:Unit:=()
def PySem.W.Fast.tw2730762263376900785:Unit:=()
def PySem.W.Fast.tw13656720502296862758:Unit:=()
def PySem.W.Fast.tw12330770276659170361:Unit:=()
def PySem.W.Fast.tw13120383553671567518:Unit:=()
def PySem.W.Fast.tw13007119609343492200:Unit:=()
def PySem.W.Fast.tw6669362024662256322:Unit:=()
def PySem.W.Fast.tw13986359445447155892:Unit:=()
def PySem.W.Fast.tw587903217572100259:Unit:=()
def PySem.W.Fast.tw6877545637934326763:Unit:=()
def PySem.W.Fast.tw11562845510142812842:Unit:=()
open PySem PySem.W PyProof.Rows
set_option maxRecDepth 100000 in
set_option maxHeartbeats 0 in
theorem PySem.Challenge.cw_sumwires_k91_whole_text_run_tables_signs_holds : PySem.Challenge.rw_sumwires_k91_whole_text_run_tables_signs.Holds := by
 w_on;o_law;k_head;(case hw=>w_witness2)
 k_fill
 refine My.walk (l:=PySem.Challenge.rw_sumwires_k91_whole_text_run_tables_signs) rfl rfl (fun w h Y=>PySem.W.kIn_of Y) ?F
 case F=>
  intro w mg fa h KX G hmg
  refine' My.all_mk KX G hmg _ _ _ _ _ _ _ _ _ _ _ _ _ _ _ _ _ _ _ _ _ _ _ _ _ _ _ _ _ _ _ _ _ _ _ _ _ _ _ _ _ _ _ _ _ _ _ _ _ _ _ _ _ _ _ _ _ _ _ _ _ _ _ _ _ _ _ _ _ _ _ _ _ _ _ _ _ _ _ _ _ _ _ _ _ _ _ _ _ _ _ _ _ _ _ _ _ _ _ _ _ _ _ _ _ _ _ _ _ _ _ _ _ _ _ _ _ _ _ _ _ _ _ _ _ _ _ _ _ _ _ _ _ _ _ _ _ _ _ _ _ _ _ _ _ _ _ _ _ _ _ _ _ _ _ _ _ _ _ _ _ _ _ _ _ _ _ _ _ _ _ _ _ _ _ _ _ _ _ _ _ _ _ _ _ _ _ _ _ _ _ _ _ _ _ _ _ _ _ _ _ _ _ _ _ _ _ _ _ _ _ _ _ _ _ _ _ _ _ _ _ _ _ _ _ _ _ _ _ _ _ _ _ _ _ _ _ _ _ _ _ _ _ _ _ _ _ _ _ _ _ _ _ _ _ _ _ _ _ _ _ _ _ _ _ _ _ _ _ _ _ _ _ _ _ _ _ _ _ _ _ _ _ _ _ _ _ _ _ _ _ _ _ _ _ _ _ _ _ _ _ _ _ _ _ _ _ _ _ _ _ _ _ _ _ _ _ _ _ _ _ _ _ _ _ _ _ _ _ _ _ _ _ _ _ _ _ _ _ _ _ _ _ _ _ _ _ _ _ _ _ _ _ _ _ _ _ _ _ _ _ _ _ _ _ _ _ _ _ _ _ _ _ _ _ _ _ _ _ _ _ _ _ _ _ _ _ _ _ _ _ _ _ _ _ _ _ _ _ _ _ _ _ _ _ _ _ _ _ _ _ _ _ _ _ _ _ _ _ _ _ _ _ _ _ _ _ _ _ _ _ _ _ _ _ _ _ _ _ _ _ _ _ _ _ _ _ _ _ _ _ _ _ _ _ _ _ _ _ _ _ _ _ _ _ _ _ _ _ _ _ _ _ _ _ _ _ _ _ _ _ _ _ _ _ _ _ _ _ _ _ _ _ _ _ _ _ _ _ _ _ _ _ _ _ _ _ _ _ _ _ _ _ _ _ _ _ _ _ _ _ _ _ _ _ _ _ _ _ _ _ _ _ _ _ _ ?rQ _ _ _ _ _ _ ?ij _ _ _ _ _ _ ?fQ _ _ _ _ _ _ _ _ _ _ _ _ _ _ _ _ _ _ _ _ _ _ _ _ _ _ _ _ _ _ _ _ _ _
  any_goals ((with_reducible show _=_);k_is)
  (case rQ=>k_exc)
  (case ij=>k_exc)
  (case fQ=>k_exc)
