import PyProof.Rows.All
import Wide.All
import OpenK.AllK
import Wide.FinOn
import Lean
import PyProof.EqAt
import PyProof.EqKinds
import PyProof.TupleCall
import OpenK.KNot
import KE.KPop
import KE.KListMore
import KE.KDictOf
import KE.KDictMeth
import KE.KEqSeq
import KE.KSlice
import KE.KSorted
import KE.RegTryLedger
import KE.KSort
import KE.KDictLoop
import KE.RegLcTurns
import KE.KCat
import KE.KTemps
import KE.KTup
import KE.KxMul
import KE.KxSplit
import KE.KxIndex
import KE.KxText
import KE.KPassesOwn
import KE.RegKIsNot
import KE.KTempsTwo
import KE.KSetInts
import KE.KSortedL
import KE.KxBytes
import KE.KClos
import KE.KOwnIter
import KE.KStopIter
import KE.KDictOne
import KE.KDictAny
import KE.RegKCallOwn
import KE.KSliceW
import KE.KLam
import KE.KDictBranch
import KE.KTree
import KE.KTreeB
import KE.KDflt
import KE.KTurns
import KE.KEqText
import KE.KEqDict
import KE.KDictAnyGet
import KE.KDictObj
import KE.KBoundM
import KE.KRevIter
import KE.KFinally
import KE.KCases
import KE.KOpsOwn
import KE.KDictList
import KE.KDictIter
import KE.RegKUnpackStar
import KE.KSortAsk
import KE.KWhileD
import KE.KLcTest
import KE.KUnrMore
import KE.KMinKey
import KE.KTurnsDict
import KE.BytesMul
import KE.KCompFold
import KE.KDictSum
import KE.KDictName
import KE.KDictSym
import KE.KTurnsAny
import KE.KCallJoin
import KE.KMethJoin
import KE.KStateW
import KE.KxWritten
import KE.KxAdd
import KE.RegKIsAll
import KE.KLcPair
import KE.RegKTryDeep
import KE.KCellOne
import KE.KMenu
import KE.KCompText
import KE.KDictSymLen
import KE.KSortTup
import KE.KDictLetter
import KE.KWords
import KE.RegKStateDown
import KE.KItemsList
import KE.KStateGiven
import KE.KLooksOwn
import KE.KStrOpen
import KE.KListEnd
import KE.KBools
import KE.KData
import KE.KCallTup
import KE.KTreeD
import KE.KCallBy
import KE.KPathText
import KE.KMinBuiltin
import KE.KFromBytes
import KE.KEqDat
import KE.KBytesUnr
import KE.RegLGe
import KE.KIsAll
import PyProof.NeKinds
import PyProof.RulesAs
import PyProof.StationsW
import PyProof.ExcClass2
import OpenK.KOwn
import PyProof.NsDelKeeps
import PyProof.ExcAttrAll.ValueError
import PyProof.SumAny
import PyProof.WalkInts
import PyProof.EnumMake
import PyProof.ExcInit
import PyProof.InstStoreFacts
import PyProof.IsRules
import PyProof.AttrMissHeap
import PyProof.MinMaxWalk
import PyProof.DictIter
import PyProof.ExcClass
import PyProof.StrLawsChain
import PyProof.StrLawsTight
import PySem.Challenge.RW_sumwires_k12_nets_told
set_option Elab.async false
set_option linter.all false
set_option maxRecDepth 100000
namespace L2
open PySem PySem.Spec PyProof.Rows
noncomputable abbrev Key:=Sum Int Str
noncomputable def z8:Key→Value→Bool
 | .inl k,v=>Value.isInt k v
 | .inr x,v=>Value.isStrOf x v
noncomputable def keyH (w:World):Key→Int
 | .inl k=>hashInt k
 | .inr x=>hashStr w x
theorem b5:∀ {k:Key} {v:Value},z8 k v=true→(∃ i t,k=Sum.inl i∧v=Value.int i t)∨(∃ x t,k=Sum.inr x∧v=Value.str x t)
 | .inl i,v,h=>by
   obtain ⟨t,e⟩:=Value.isInt_shape (k:=i) (v:=v) h
   exact .inl ⟨i,t,rfl,e⟩
 | .inr x,v,h=>by
   obtain ⟨t,e⟩:=Value.isStrOf_shape (x:=x) (v:=v) h
   exact .inr ⟨x,t,rfl,e⟩
theorem Fl (i:Int) (t:Tok):z8 (.inl i) (.int i t)=true:=by simp [z8,Value.isInt]
theorem Fk (x:Str) (t:Tok):z8 (.inr x) (.str x t)=true:=by simp [z8,Value.isStrOf]
theorem Mu (a b:Int):decide ((Sum.inl a:Key)=Sum.inl b)=(a == b):=by
 by_cases e:a=b
 ·subst e;simp
 ·have h:¬ (Sum.inl a:Key)=Sum.inl b:=fun q=>e (Sum.inl.inj q)
  rw [decide_eq_false h]
  exact (beq_eq_false_iff_ne.mpr e).symm
theorem Mr (a b:Str):decide ((Sum.inr a:Key)=Sum.inr b)=decide (a=b):=by
 by_cases e:a=b
 ·subst e;simp
 ·have h:¬ (Sum.inr a:Key)=Sum.inr b:=fun q=>e (Sum.inr.inj q)
  rw [decide_eq_false h,decide_eq_false e]
theorem Mt (a:Int) (b:Str):decide ((Sum.inl a:Key)=Sum.inr b)=false:=decide_eq_false (fun q=>nomatch q)
theorem Ms (a:Str) (b:Int):decide ((Sum.inr a:Key)=Sum.inl b)=false:=decide_eq_false (fun q=>nomatch q)
noncomputable def cH (prog:Program) (w:World):PySem.KeyKind prog w Key where
 is:=z8
 hash:=keyH w
 inj:=fun v a b ha hb=>by
  rcases b5 ha with ⟨i,t,rfl,rfl⟩ | ⟨x,t,rfl,rfl⟩
  ·rcases b5 hb with ⟨j,u,rfl,e⟩ | ⟨y,u,rfl,e⟩
   ·injection e with e1 _;rw [e1]
   ·exact nomatch e
  ·rcases b5 hb with ⟨j,u,rfl,e⟩ | ⟨y,u,rfl,e⟩
   ·exact nomatch e
   ·injection e with e1 _;rw [e1]
 byValue:=fun k v h=>by
  rcases b5 h with ⟨i,t,rfl,rfl⟩ | ⟨x,t,rfl,rfl⟩<;>rfl
 pyHash:=fun hv h=>by
  rcases b5 hv with ⟨i,t,rfl,rfl⟩ | ⟨x,t,rfl,rfl⟩
  ·exact wpAny_pyHash_int h
  ·exact wpAny_pyHash_str h
 eqBool:=fun hu hv h=>by
  rcases b5 hu with ⟨i,t,rfl,rfl⟩ | ⟨x,t,rfl,rfl⟩
  ·rcases b5 hv with ⟨j,u,rfl,rfl⟩ | ⟨y,u,rfl,rfl⟩
   ·rw [Mu] at h;exact wpAny_eqBool_int h
   ·rw [Mt] at h;exact SeqAt.EqAt.int_str i t y u _ _ _ _ h
  ·rcases b5 hv with ⟨j,u,rfl,rfl⟩ | ⟨y,u,rfl,rfl⟩
   ·rw [Ms] at h;exact SeqAt.EqAt.str_int x t j u _ _ _ _ h
   ·rw [Mr] at h;exact wpAny_eqBool_str h
 «strs»:=fun k x t v h=>by
  rcases b5 h with ⟨i,u,rfl,e⟩ | ⟨y,u,rfl,e⟩
  ·exact nomatch e
  ·injection e with e1 _
   subst e1
   cases v<;>rfl
theorem zS (prog:Program) (w:World) (i:Int) (t:Tok):(cH prog w).is (.inl i) (.int i t)=true:=Fl i t
theorem zR (prog:Program) (w:World) (x:Str) (t:Tok):(cH prog w).is (.inr x) (.str x t)=true:=Fk x t
inductive V where
 | non | bl (b:Bool) | int (i:Int) | str (x:Str) | byt (b:Array UInt8) | flt (b:UInt64) | ref (a:Addr) | ty (n:String)
 deriving DecidableEq
noncomputable def RelV:V→Value→Prop
 | .non,u=>u=Value.none
 | .bl b,u=>u=Value.bool b
 | .int i,u=>∃ t,u=Value.int i t
 | .str x,u=>∃ t,u=Value.str x t
 | .byt b,u=>∃ t,u=Value.bytes b t
 | .flt b,u=>∃ t,u=Value.float b t
 | .ref a,u=>u=Value.ref a
 | .ty n,u=>u=Value.type n
noncomputable abbrev Vals:List V→List Value→Prop:=Paired RelV
theorem Vals.length {xs:List V} {us:List Value} (r:Vals xs us):xs.length=us.length:=Paired.length r
theorem Vals.get:∀ {xs:List V} {us:List Value} {i:Nat} {x:V},Vals xs us→xs[i]? =some x→∃ u,us[i]? =some u∧RelV x u
 | _,_,_,_,.nil,e=>by simp at e
 | _,_,0,_,.cons r _,e=>by simp at e;subst e;exact ⟨_,rfl,r⟩
 | _,_,i + 1,x,.cons _ t,e=>by
   obtain ⟨u,h1,h2⟩:=Vals.get (i:=i) (x:=x) t (by simpa using e)
   exact ⟨u,by simpa using h1,h2⟩
theorem Vals.set {x:V} {u:Value} (r:RelV x u):∀ {xs:List V} {us:List Value} (i:Nat),Vals xs us→Vals (xs.set i x) (us.set i u)
 | _,_,_,.nil=> .nil
 | _,_,0,.cons _ t=> .cons r t
 | _,_,i + 1,.cons q t=> .cons q (Vals.set r i t)
theorem Vals.append:∀ {xs ys:List V} {us ws:List Value},Vals xs us→Vals ys ws→Vals (xs++ys) (us++ws)
 | _,_,_,_,.nil,s=>s
 | _,_,_,_,.cons r t,s=> .cons r (Vals.append t s)
theorem Vals.take:∀ {xs:List V} {us:List Value} (n:Nat),Vals xs us→Vals (xs.take n) (us.take n)
 | _,_,0,_=> .nil
 | _,_,_ + 1,.nil=> .nil
 | _,_,n + 1,.cons r t=> .cons r (Vals.take n t)
theorem Vals.drop:∀ {xs:List V} {us:List Value} (n:Nat),Vals xs us→Vals (xs.drop n) (us.drop n)
 | _,_,0,r=>r
 | _,_,_ + 1,.nil=> .nil
 | _,_,n + 1,.cons _ t=>Vals.drop n t
noncomputable def RelO:Option V→Option Value→Prop
 | some v,some u=>RelV v u
 | none,none=>True
 | _,_=>False
noncomputable def KV {κ:Type}:List (κ×V)→List (κ×Value)→Prop:=Paired fun (p:κ×V) (q:κ×Value)=>p.1=q.1∧RelV p.2 q.2
noncomputable def kV:Key→V
 | .inl i=> .int i
 | .inr x=> .str x
inductive HO where
 | lst (xs:List V)
 | tup (xs:List V)
 | dK (kvs:List (Key×V)) | dT (kvs:List (List Key×V))
 | set (S:Int→Bool) (n:Nat)
 | ins (C dx:Addr) (fs:List (Str×V))
 | own (x:Addr)
 | xd (fs:List (Str×V))
 | met (f x:Addr)
 | rng (lo hi:Int)
 | frz (o:Obj) (u:HO)
 | tbl (ps:Array Value)
 | ext (φ:Heap→Prop)
noncomputable abbrev Hp:=Addr→Option HO
noncomputable def upd (H:Hp) (a:Addr) (o:HO):Hp:=fun b=>if b=a then some o else H b
theorem au {H:Hp} {a:Addr} {o:HO}:upd H a o a=some o:=by unfold upd;rw [if_pos rfl]
theorem aq {H:Hp} {a b:Addr} {o:HO} (h:b≠a):upd H a o b=H b:=by unfold upd;rw [if_neg h]
theorem jq {H:Hp} {a b:Addr} {o u:HO} (h:H a=some o) (h':H b=some u) (d:o≠u):a≠b:=by
 intro e;subst e;rw [h] at h';exact d (Option.some.inj h')
theorem aj {H:Hp} {a b:Addr} {o:HO} (h:H a=some o) (h':H b=none):a≠b:=by
 intro e;subst e;rw [h] at h';cases h'
section
variable (P:Program) (w:World)
noncomputable def dh (H:Hp) (h:Heap) (a:Addr):HO→Prop
 | .lst xs=>xs.length≤sizeLine∧∃ (its:List Value) (n:Nat),Vals xs its∧h.get? a=some {cls:= .type "list",data:= .seq its.toArray n}
 | .tup xs=>xs.length≤sizeLine∧∃ its:List Value,Vals xs its∧IsTup h a its.toArray
 | .dK kvs=>kvs.length≤sizeLine∧(a == sysModules)=false∧∃ vs,KV kvs vs∧h.DictOf (cH P w) a vs
 | .dT kvs=>kvs.length≤sizeLine∧(a == sysModules)=false∧∃ xs:List (List Key×Addr×Value),
   Paired (fun (p:List Key×V) (q:List Key×Addr×Value)=>p.1=q.1∧H q.2.1=some (.tup (p.1.map kV))∧RelV p.2 q.2.2) kvs xs∧
   ∃ o es ep,h.get? a=some o∧o.ExactDict∧o.data= .dict es ep∧es.toList=xs.map (entryOfKey (tupleKind (cH P w)))∧(xs.map (·.1)).Nodup
 | .set S n=>h.SetOf (intKind P w) a S n
 | .ins C dx fs=>H dx=some (.own a)∧fs.length≤1000∧dx≠a∧h.get? a=some (PySem.W.instObj C dx)∧
   ∃ mA,h.Ns1 dx mA∧(∀ f,RelO (fs.lookup f) (mA f))∧PySem.Within mA (fs.map (·.1))
 | .own _=>∃ o,h.get? a=some o
 | .xd fs=>∃ mA,h.Ns1 a mA∧∀ f,RelO (fs.lookup f) (mA f)
 | .rng lo hi=>∃ t u v,h.get? a=some {cls:= .type "range",data:= .fields #[.int lo t,.int hi u,.int 1 v]}
 | .frz o u=>h.get? a=some o∧dh H h a u
 | .tbl ps=>h.get? a=some {cls:= .none,data:= .fields ps}
 | .met f x=>h.get? a=some (PySem.W.methodObj (.ref f) (.ref x))
 | .ext φ=>φ h∧(∃ o,h.get? a=some o)∧∀ h1 h2:Heap,φ h1→(∀ o,h1.get? a=some o→h2.get? a=some o)→φ h2
noncomputable def HOk (H:Hp) (h:Heap):Prop:=∀ a o,H a=some o→dh P w H h a o
end
section
variable {P:Program} {w:World} {H H':Hp} {h h':Heap} {a:Addr} {o:HO}
theorem dh.lt (x:dh P w H h a o):a < h.objs.size:=by
 cases o with
 | lst xs=>obtain ⟨_,_,_,_,e⟩:=x;exact Heap.lt_size e
 | tup xs=>obtain ⟨_,_,_,p⟩:=x;exact p.lt
 | dK kvs=>obtain ⟨_,_,_,_,o,_,_,e,_⟩:=x;exact Heap.lt_size e
 | dT kvs=>obtain ⟨_,_,_,_,o,_,_,e,_⟩:=x;exact Heap.lt_size e
 | set S n=>obtain ⟨o,_,_,_,e,_⟩:=x;exact Heap.lt_size e
 | ins C dx fs=>obtain ⟨_,_,_,e,_⟩:=x;exact Heap.lt_size e
 | own y=>obtain ⟨_,e⟩:=x;exact Heap.lt_size e
 | xd fs=>obtain ⟨_,⟨_,_,_,e,_⟩,_⟩:=x;exact Heap.lt_size e
 | rng lo hi=>obtain ⟨_,_,_,e⟩:=x;exact Heap.lt_size e
 | frz ob u=>obtain ⟨e,_⟩:=x;exact Heap.lt_size e
 | tbl ps=>exact Heap.lt_size (show h.get? a=some _ from x)
 | met f y=>exact Heap.lt_size (show h.get? a=some _ from x)
 | ext φ=>obtain ⟨_,⟨_,e⟩,_⟩:=x;exact Heap.lt_size e
theorem Paired.mapP {α β:Type} {F G:α→β→Prop}:∀ {l₁:List α} {l₂:List β},Paired F l₁ l₂→(∀ a b,F a b→G a b)→Paired G l₁ l₂
 | _,_,.nil,_=> .nil
 | _,_,.cons r t,f=> .cons (f _ _ r) (Paired.mapP t f)
theorem dh.stay (x:dh P w H h a o) (k:∀ b u,(b=a∨H b=some (.own a))→h.get? b=some u→h'.get? b=some u)
  (ho:∀ b,H b=some (.own a)→H' b=some (.own a)) (ht:∀ b xs,H b=some (.tup xs)→H' b=some (.tup xs)):dh P w H' h' a o:=by
 induction o with
 | lst xs=>obtain ⟨z,its,n,r,e⟩:=x;exact ⟨z,its,n,r,k _ _ (.inl rfl) e⟩
 | tup xs=>obtain ⟨z,its,r,ob,e,c⟩:=x;exact ⟨z,its,r,ob,k _ _ (.inl rfl) e,c⟩
 | dK kvs=>obtain ⟨z,y,vs,r,ob,es,ep,e,c⟩:=x;exact ⟨z,y,vs,r,ob,es,ep,k _ _ (.inl rfl) e,c⟩
 | dT kvs=>
   obtain ⟨z,y,xs,r,ob,es,ep,e,c⟩:=x
   exact ⟨z,y,xs,Paired.mapP r fun p q z=>⟨z.1,ht _ _ z.2.1,z.2.2⟩,ob,es,ep,k _ _ (.inl rfl) e,c⟩
 | set S n=>obtain ⟨ob,es,ep,t,e,c⟩:=x;exact ⟨ob,es,ep,t,k _ _ (.inl rfl) e,c⟩
 | ins C dx fs=>
   obtain ⟨d,z,ne,e,mA,⟨od,es,ep,e2,c⟩,r⟩:=x
   exact ⟨ho _ d,z,ne,k _ _ (.inl rfl) e,mA,⟨od,es,ep,k _ _ (.inr d) e2,c⟩,r⟩
 | own y=>obtain ⟨ob,e⟩:=x;exact ⟨ob,k _ _ (.inl rfl) e⟩
 | xd fs=>obtain ⟨mA,⟨od,es,ep,e,c⟩,r⟩:=x;exact ⟨mA,⟨od,es,ep,k _ _ (.inl rfl) e,c⟩,r⟩
 | rng lo hi=>obtain ⟨t,u,v,e⟩:=x;exact ⟨t,u,v,k _ _ (.inl rfl) e⟩
 | frz ob u ih=>obtain ⟨e,q⟩:=x;exact ⟨k _ _ (.inl rfl) e,ih q⟩
 | tbl ps=>
   have e:h.get? a=some {cls:= .none,data:= .fields ps}:=x
   show h'.get? a=some {cls:= .none,data:= .fields ps}
   exact k a _ (.inl rfl) e
 | met f y=>
   have e:h.get? a=some (PySem.W.methodObj (.ref f) (.ref y)):=x
   show h'.get? a=some (PySem.W.methodObj (.ref f) (.ref y))
   exact k a _ (.inl rfl) e
 | ext φ=>obtain ⟨p,⟨o,e⟩,st⟩:=x;exact ⟨st _ _ p fun o q=>k _ _ (.inl rfl) q,⟨o,k _ _ (.inl rfl) e⟩,st⟩
theorem HOk.lt (x:HOk P w H h) (e:H a=some o):a < h.objs.size:=(x a o e).lt
theorem HOk.fresh (x:HOk P w H h) (e:h.objs.size≤a):H a=none:=by
 cases q:H a with
 | none=>rfl
 | some u=>exact absurd (Nat.lt_of_lt_of_le (x.lt q) e) (Nat.lt_irrefl _)
theorem HOk.kept (x:HOk P w H h) (k:∀ b u,h.get? b=some u→h'.get? b=some u):HOk P w H h':=fun a o e=>
 (x a o e).stay (fun b u _ q=>k b u q) (fun _ q=>q) fun _ _ q=>q
theorem HOk.laid (x:HOk P w H h) (k:∀ b u,h.get? b=some u→h'.get? b=some u) (hp:h.objs.size≤a) (new:dh P w (upd H a o) h' a o):HOk P w (upd H a o) h':=fun b u e=>by
 have hn:=x.fresh hp
 by_cases hb:b=a
 ·subst hb;rw [au] at e;cases e;exact new
 ·rw [aq hb] at e
  exact (x b u e).stay (fun c v _ q=>k c v q) (fun c q=>by rw [aq (aj q hn)];exact q) fun c xs q=>by rw [aq (aj q hn)];exact q
end
noncomputable def Rd (H:Hp) (a:Addr) (u:HO):Prop:=H a=some u∨∃ o,H a=some (.frz o u)
theorem Rd.ok {P:Program} {w:World} {H:Hp} {h:Heap} {a:Addr} {u:HO} (r:Rd H a u) (x:HOk P w H h):dh P w H h a u:=by
 rcases r with r | ⟨o,r⟩
 ·exact x a u r
 ·obtain ⟨_,q⟩:=x a _ r
  exact q
noncomputable def Mut:Option HO→Prop
 | some (.lst _)=>True
 | some (.dK _)=>True
 | some (.dT _)=>True
 | some (.set _ _)=>True
 | some (.ins _ _ _)=>True
 | some (.ext _)=>True
 | _=>False
section
variable {P:Program} {w:World} {H:Hp} {h h':Heap} {x e:Addr} {o':HO}
theorem HOk.write (ok:HOk P w H h) (mu:Mut (H x)) (he:e=x∨H e=some (.own x)) (k:∀ b u,b≠e→h.get? b=some u→h'.get? b=some u) (heo:∃ u,h'.get? e=some u)
  (new:dh P w (upd H x o') h' x o'):HOk P w (upd H x o') h':=fun b u q=>by
 have nown:∀ c y,H c=some (.own y)→c≠x:=fun c y r z=>by subst z;rw [r] at mu;exact mu
 have ntup:∀ c xs,H c=some (.tup xs)→c≠x:=fun c xs r z=>by subst z;rw [r] at mu;exact mu
 by_cases hb:b=x
 ·subst hb;rw [au] at q;cases q;exact new
 ·rw [aq hb] at q
  by_cases hbe:b=e
  ·have q':H b=some (.own x):=by
    rcases he with z | z
    ·exact absurd (hbe.trans z) hb
    ·rw [hbe];exact z
   rw [q] at q';cases q'
   obtain ⟨v,hv⟩:=heo
   exact ⟨v,by rw [hbe];exact hv⟩
  ·refine (ok b u q).stay (fun c v hc r=>k c v ?_ r) (fun c r=>by rw [aq (nown c b r)];exact r) fun c xs r=>by rw [aq (ntup c xs r)];exact r
   rcases hc with rfl | hc
   ·exact hbe
   ·rintro rfl
    rcases he with z | z
    ·exact nown c b hc z
    ·rw [hc] at z;cases z;exact hb rfl
end
structure Un (fs ex:List Addr) (H H':Hp) (h h':Heap):Prop where
 keep:∀ b o,h.get? b=some o→H b=none→b∉fs→b∉ex→h'.get? b=some o
 slot:∀ b o,h.get? b=some o→H b=none→b∈fs→b∉ex→∃ sl,h'.get? b=some {o with slots:=sl}
 free:∀ b o,h.get? b=some o→H b=none→b∉ex→H' b=none
 there:∀ b o,h.get? b=some o→b∉ex→∃ o',h'.get? b=some o'
 tups:∀ b xs,H b=some (.tup xs)→H' b=some (.tup xs)
 frzs:∀ b o u,H b=some (.frz o u)→H' b=some (.frz o u)
 tbls:∀ b ps,H b=some (.tbl ps)→∃ more,H' b=some (.tbl (ps++more))
section
variable {fs fs' ex ex':List Addr} {H H1 H2:Hp} {h h1 h2 h':Heap} {a x e:Addr} {o:HO}
theorem Un.any (u:Un fs ex H H1 h h1) {b:Addr} {ob:Obj} (q:h.get? b=some ob) (n:H b=none) (hx:b∉ex):∃ sl,h1.get? b=some {ob with slots:=sl}:=by
 by_cases hb:b∈fs
 ·exact u.slot b ob q n hb hx
 ·exact ⟨ob.slots,u.keep b ob q n hb hx⟩
theorem Un.kept (k:∀ b u,h.get? b=some u→h'.get? b=some u):Un fs ex H H h h':=
 ⟨fun b ob q _ _ _=>k b ob q,fun b ob q _ _ _=>⟨ob.slots,k b ob q⟩,fun _ _ _ n _=>n,fun b ob q _=>⟨ob,k b ob q⟩,fun _ _ q=>q,fun _ _ _ q=>q,fun _ ps q=>⟨#[],by rw [q];simp⟩⟩
theorem Un.refl:Un fs ex H H h h:=Un.kept fun _ _ q=>q
theorem Un.laid (k:∀ b u,h.get? b=some u→h'.get? b=some u) (hp:h.objs.size≤a) (hn:H a=none):Un fs ex H (upd H a o) h h' where
 keep:=fun b u q _ _ _=>k b u q
 slot:=fun b u q _ _ _=>⟨u.slots,k b u q⟩
 free:=fun b u q n _=>by rw [aq (Nat.ne_of_lt (Nat.lt_of_lt_of_le (Heap.lt_size q) hp))];exact n
 there:=fun b u q _=>⟨u,k b u q⟩
 tups:=fun b xs q=>by rw [aq (aj q hn)];exact q
 frzs:=fun b u xs q=>by rw [aq (aj q hn)];exact q
 tbls:=fun b ps q=>⟨#[],by rw [aq (aj q hn),q];simp⟩
theorem Un.write (mu:Mut (H x)) (he:e=x∨H e=some (.own x)) (k:∀ b u,b≠e→h.get? b=some u→h'.get? b=some u) (heo:∃ u,h'.get? e=some u):Un fs ex H (upd H x o) h h':=by
 have hx:∀ b,H b=none→b≠x:=fun b n z=>by subst z;rw [n] at mu;exact mu
 have hb:∀ b,H b=none→b≠e:=fun b n z=>by
  subst z
  rcases he with r | r
  ·exact hx b n r
  ·rw [n] at r;cases r
 have hm:∀ b u,H b=some u→¬ Mut (some u)→b≠x:=fun b u q nm z=>by subst z;rw [q] at mu;exact nm mu
 refine ⟨fun b u q n _ _=>k b u (hb b n) q,fun b u q n _ _=>⟨u.slots,k b u (hb b n) q⟩,fun b u q n _=>by rw [aq (hx b n)];exact n,fun b u q _=>?_,
  fun b xs q=>by rw [aq (hm b _ q fun z=>z)];exact q,fun b u xs q=>by rw [aq (hm b _ q fun z=>z)];exact q,fun b ps q=>⟨#[],by rw [aq (hm b _ q fun z=>z),q];simp⟩⟩
 by_cases hbe:b=e
 ·subst hbe;exact heo
 ·exact ⟨u,k b u hbe q⟩
end
noncomputable def trk (h:Heap) (H:Hp):List Addr:=(List.range h.objs.size).filter fun a=>(H a).isSome
noncomputable def hidT (h:Heap) (H:Hp):Heap:=PySem.W.hideAll h (trk h H)
theorem FC (h:Heap) (H:Hp):(hidT h H).objs.size=h.objs.size:=PySem.W.hideAll_size _ _
theorem HM {h:Heap} {H:Hp} {b:Addr} {o:Obj} (e:h.get? b=some o) (n:H b=none):(hidT h H).get? b=some o:=
 PySem.W.hideAll_get _ e fun hm=>by
  have q:(H b).isSome=true:=(List.mem_filter.mp hm).2
  rw [n] at q;simp at q
theorem JV {h:Heap} {H:Hp} {b:Addr} {o:Obj} (e:(hidT h H).get? b=some o):h.get? b=some o∧H b=none:=by
 have e':h.get? b=some o:=PySem.W.of_hideAll (trk h H) e
 refine ⟨e',?_⟩
 cases q:H b with
 | none=>rfl
 | some x=>
   have hm:b∈trk h H:=List.mem_filter.mpr ⟨List.mem_range.mpr (Heap.lt_size e'),by simp [q]⟩
   have z:(hidT h H).get? b=none:=PySem.W.hideAll_none (trk h H) hm
   rw [z] at e;cases e
noncomputable def KF (g h:Heap) (L:Addr):List (Addr×Obj):=(List.range h.objs.size).filterMap fun a=>if a=L∨(g.get? a).isSome=true then none else (h.get? a).map fun o=>(a,o)
noncomputable def rest (g h:Heap) (L d:Addr):List (Addr×Obj):=(KF g h L).filter fun p=>decide (p.1≠d)
structure Mod (K:PySem.W.Frag) (mg:Str→Option Value) (base:Heap):Prop where
 kin:K.In base
 glob:base.Ns mainGlobals mg
 blt:∃ mb,base.Ns builtinsNs mb∧∀ x:Str,x≠"__name__"→mb x=bootBuiltins x
 nolimit:base.NoLimit
structure Cx where
 prog:Program
 w:World
 K:PySem.W.Frag
 mg:Str→Option Value
 base:Heap
 A:Around
 N:List Str
 s₀:Shared
 H₀:Hp
 env:Env
 outer:List Env
 stack:List Env
 ex:List Addr
 fn:Str→Bool
 calm:Bool
 pn:List (Addr×Obj)
 xe:Value→Shared→Prop
noncomputable def frs (l:List Env):List Addr:=l.filterMap (·.frame)
noncomputable abbrev Cx.fs (X:Cx):List Addr:=frs X.outer
noncomputable def Vis (sc:Scope) (x:Str):Prop:=sc.names.lookup x=some .local∨sc.names.lookup x=some .cell∨sc.names.lookup x=some .free
noncomputable def Loc (sc:Scope) (x:Str):Prop:=sc.names.lookup x=some .local∨sc.names.lookup x=some .cell
noncomputable def Look (env:Env) (h:Heap) (m:Str→Option Value) (x:Str) (u:Value):Prop:=
 (env.kindOf x=some .local∧m x=some u)∨((env.kindOf x=some .cell∨env.kindOf x=some .free)∧∃ c,env.cells.lookup x=some c∧h.IsCell c (some u))
structure Cx.Ok (X:Cx):Prop where
 mod:Mod X.K X.mg X.base
 kind:X.env.scope.kind= .function
 glob:X.env.globals=mainGlobals
 blt:X.env.builtins=builtinsNs
 above:X.s₀.heap.objs.size≤X.env.locals
 inj:∀ x y c,X.env.cells.lookup x=some c→X.env.cells.lookup y=some c→x=y
 has:∀ x,(X.env.kindOf x=some .cell∨X.env.kindOf x=some .free)→∃ c,X.env.cells.lookup x=some c
 cab:∀ x c,X.fn x=true→X.env.cells.lookup x=some c→X.s₀.heap.objs.size≤c
 hd:X.calm=true→X.A.handled=none
 frames:X.A.frames=some X.stack
 stk:X.stack=X.outer∨(X.stack=X.env::X.outer∧X.env.frame=some X.env.locals)
 exf:∀ b∈X.ex,b≠X.env.locals∧∀ x c,X.env.cells.lookup x=some c→c≠b
 bs:∀ b o,X.base.get? b=some o→X.s₀.heap.get? b=some o∧X.H₀ b=none
 bsz:X.base.objs.size≤X.s₀.heap.objs.size
 noex:∀ b o,X.base.get? b=some o→b∉X.ex
 exfs:∀ b∈X.ex,b∉X.fs
 funs:X.s₀.heap.FunFrames X.base X.outer
 frf:∀ b∈X.fs,X.H₀ b=none
structure Inv (X:Cx) (pins:List (Addr×Obj)) (σ:List (Option V)) (H:Hp) (s:Shared):Prop where
 ok:X.Ok
 os:s.os=X.s₀.os
 bare:AllBare s.gens
 base:Un X.fs X.ex X.H₀ H X.s₀.heap s.heap
 loc:∃ m,s.heap.Ns X.env.locals m∧∀ (i:Nat) (x:Str) (v:V),X.N[i]? =some x→σ[i]? =some (some v)→Vis X.env.scope x→∃ u,RelV v u∧Look X.env s.heap m x u
 cell:∀ x c,X.env.cells.lookup x=some c→∃ v,s.heap.IsCell c v
 free:H X.env.locals=none
 freeC:∀ x c,X.env.cells.lookup x=some c→H c=none
 pin:∀ p∈X.pn++pins,s.heap.get? p.1=some p.2∧H p.1=none∧p.1≠X.env.locals∧p.1∉X.fs∧∀ v,p.2.data≠.cell v
 hok:HOk X.prog X.w H s.heap
 len:σ.length=X.N.length
section
variable {X:Cx} {pins:List (Addr×Obj)} {σ:List (Option V)} {H H':Hp} {s:Shared} {h':Heap}
theorem Cx.Ok.nofr (ok:X.Ok) {b:Addr} {o:Obj} (e:X.base.get? b=some o):b∉X.fs:=fun hb=>by
 have:=(ok.funs.mem hb).1
 rw [e] at this;cases this
theorem Inv.bs (I:Inv X pins σ H s):∀ b o,X.base.get? b=some o→s.heap.get? b=some o∧H b=none:=fun b o e=>
 ⟨I.base.keep b o (I.ok.bs b o e).1 (I.ok.bs b o e).2 (I.ok.nofr e) (I.ok.noex b o e),I.base.free b o (I.ok.bs b o e).1 (I.ok.bs b o e).2 (I.ok.noex b o e)⟩
theorem Inv.bk (I:Inv X pins σ H s):∀ b o,X.base.get? b=some o→s.heap.get? b=some o:=fun b o e=>(I.bs b o e).1
theorem Inv.mod (I:Inv X pins σ H s):Mod X.K X.mg X.base:=I.ok.mod
theorem Inv.kIn (I:Inv X pins σ H s):X.K.In s.heap:=I.ok.mod.kin.keeps I.bk
theorem Inv.lt (I:Inv X pins σ H s):X.env.locals < s.heap.objs.size:=let ⟨_,hn,_⟩:=I.loc;hn.lt
theorem Inv.sz (I:Inv X pins σ H s):X.s₀.heap.objs.size≤s.heap.objs.size:=Nat.le_trans I.ok.above (Nat.le_of_lt I.lt)
theorem Inv.nofs (I:Inv X pins σ H s) {a:Addr} (h:s.heap.objs.size≤a):a∉X.fs:=fun hb=>by
 obtain ⟨_,o,ho,_⟩:=I.ok.funs.mem hb
 exact absurd (Nat.lt_of_lt_of_le (Heap.lt_size ho) (Nat.le_trans I.sz h)) (Nat.lt_irrefl _)
theorem Inv.cne (I:Inv X pins σ H s):∀ x c,X.env.cells.lookup x=some c→c≠X.env.locals:=fun x c e z=>by
 obtain ⟨v,o,ho,hd⟩:=I.cell x c e
 obtain ⟨m,⟨o',es,ep,ho',hd',_⟩,_⟩:=I.loc
 rw [z,ho'] at ho;cases ho;rw [hd'] at hd;cases hd
theorem Inv.funs (I:Inv X pins σ H s):s.heap.FunFrames X.base X.outer:=by
 have all:∀ (l:List Env),(∀ b∈frs l,b∈X.fs)→X.s₀.heap.FunFrames X.base l→s.heap.FunFrames X.base l:=by
  intro l
  induction l with
  | nil=>intro _ _;trivial
  | cons env r ih=>
    intro hs hl
    obtain ⟨hk,⟨L,o,hf,hn,ho,hd⟩,hr⟩:=hl
    have hL:L∈X.fs:=hs L (by unfold frs;rw [List.filterMap_cons,hf];exact List.mem_cons_self)
    obtain ⟨sl,e⟩:=I.base.slot L o ho (I.ok.frf L hL) hL fun z=>I.ok.exfs L z hL
    exact ⟨hk,⟨L,_,hf,hn,e,hd⟩,ih (fun b hb=>hs b (by unfold frs;rw [List.filterMap_cons,hf];exact List.mem_cons_of_mem _ hb)) hr⟩
 exact all X.outer (fun _ hb=>hb) I.ok.funs
theorem Inv.stack (I:Inv X pins σ H s):s.heap.FunFrames X.base X.stack:=by
 rcases I.ok.stk with e | ⟨e,hf⟩
 ·rw [e];exact I.funs
 ·rw [e]
  obtain ⟨m,hn,_⟩:=I.loc
  refine .cons (by rw [I.ok.kind];decide) hf hn ?_ I.funs
  exact Heap.get?_none_of_le (Nat.le_trans I.ok.bsz I.ok.above)
theorem Inv.stkSub (I:Inv X pins σ H s):∀ b∈frs X.stack,b∈X.env.locals::X.fs:=fun b hb=>by
 rcases I.ok.stk with e | ⟨e,hf⟩
 ·rw [e] at hb;exact List.mem_cons_of_mem _ hb
 ·rw [e] at hb
  unfold frs at hb
  rw [List.filterMap_cons,hf] at hb
  exact hb
theorem Inv.stkFree (I:Inv X pins σ H s):∀ b∈frs X.stack,H b=none:=fun b hb=>by
 rcases List.mem_cons.mp (I.stkSub b hb) with e | hb
 ·rw [e];exact I.free
 ·obtain ⟨_,o,ho,_⟩:=I.ok.funs.mem hb
  exact I.base.free b o ho (I.ok.frf b hb) fun z=>I.ok.exfs b z hb
theorem Inv.step {g':Array GenState} {t':Nat} {d':Drawn} {ch:List Addr} (I:Inv X pins σ H s)
  (hch:∀ b∈ch,(b∈X.ex∨X.s₀.heap.objs.size≤b)∧b≠X.env.locals∧(∀ x c,X.env.cells.lookup x=some c→c≠b)∧∀ p∈X.pn++pins,p.1≠b)
  (keep:∀ b o,b≠X.env.locals→b∉X.fs→b∉ch→s.heap.get? b=some o→H b=none→h'.get? b=some o)
  (slot:∀ b o,b≠X.env.locals→b∈X.fs→b∉ch→s.heap.get? b=some o→H b=none→∃ sl,h'.get? b=some {o with slots:=sl}) (free:∀ b o,b∉ch→s.heap.get? b=some o→H b=none→H' b=none)
  (there:∀ b o,b∉ch→s.heap.get? b=some o→∃ o',h'.get? b=some o')
  (tups:∀ b xs,H b=some (.tup xs)→H' b=some (.tup xs)) (frzs:∀ b o u,H b=some (.frz o u)→H' b=some (.frz o u)) (tbls:∀ b ps,H b=some (.tbl ps)→∃ more,H' b=some (.tbl (ps++more)))
  (ns:∀ m,s.heap.Ns X.env.locals m→h'.Ns X.env.locals m) (hok:HOk X.prog X.w H' h') (hg:AllBare g'):
  Inv X pins σ H' {s with heap:=h',gens:=g',drawn:=d',toks:=t'}:=by
 have neL:∀ b o,X.s₀.heap.get? b=some o→b≠X.env.locals:=fun b o e=>Nat.ne_of_lt (Nat.lt_of_lt_of_le (Heap.lt_size e) I.ok.above)
 have neC:∀ b o,X.s₀.heap.get? b=some o→b∉X.ex→b∉ch:=fun b o e hx hb=>by
  rcases (hch b hb).1 with z | z
  ·exact hx z
  ·exact absurd (Nat.lt_of_lt_of_le (Heap.lt_size e) z) (Nat.lt_irrefl _)
 have cellK:∀ x c,X.env.cells.lookup x=some c→∀ v,s.heap.IsCell c v→h'.IsCell c v:=fun x c e v ⟨o,ho,hd⟩=>by
  have nch:c∉ch:=fun z=>(hch c z).2.2.1 x c e rfl
  by_cases hc:c∈X.fs
  ·obtain ⟨sl,q⟩:=slot c o (I.cne x c e) hc nch ho (I.freeC x c e)
   exact ⟨_,q,hd⟩
  ·exact ⟨o,keep c o (I.cne x c e) hc nch ho (I.freeC x c e),hd⟩
 refine ⟨I.ok,I.os,hg,⟨fun b o e n hb hx=>?_,fun b o e n hb hx=>?_,fun b o e n hx=>?_,fun b o e hx=>?_,fun b xs e=>tups b xs (I.base.tups b xs e),fun b o xs e=>frzs b o xs (I.base.frzs b o xs e),fun b ps e=>?_⟩,?_,fun x c e=>?_,?_,fun x c e=>?_,fun p hp=>?_,hok,I.len⟩
 ·exact keep b o (neL b o e) hb (neC b o e hx) (I.base.keep b o e n hb hx) (I.base.free b o e n hx)
 ·obtain ⟨sl,e1⟩:=I.base.slot b o e n hb hx
  obtain ⟨sl',e2⟩:=slot b _ (neL b o e) hb (neC b o e hx) e1 (I.base.free b o e n hx)
  exact ⟨sl',e2⟩
 ·obtain ⟨o',e1⟩:=I.base.there b o e hx
  exact free b o' (neC b o e hx) e1 (I.base.free b o e n hx)
 ·obtain ⟨o',e1⟩:=I.base.there b o e hx
  exact there b o' (neC b o e hx) e1
 ·obtain ⟨m1,e1⟩:=I.base.tbls b ps e
  obtain ⟨m2,e2⟩:=tbls b _ e1
  exact ⟨m1++m2,by rw [e2,Array.append_assoc]⟩
 ·obtain ⟨m,hn,hl⟩:=I.loc
  refine ⟨m,ns m hn,fun i x v e1 e2 e3=>?_⟩
  obtain ⟨u,r,l⟩:=hl i x v e1 e2 e3
  refine ⟨u,r,?_⟩
  rcases l with l | ⟨k,c,e,z⟩
  ·exact .inl l
  ·exact .inr ⟨k,c,e,cellK x c e _ z⟩
 ·obtain ⟨v,z⟩:=I.cell x c e
  exact ⟨v,cellK x c e v z⟩
 ·obtain ⟨m,⟨o,_,_,ho,_⟩,_⟩:=I.loc
  exact free _ o (fun z=>(hch _ z).2.1 rfl) ho I.free
 ·obtain ⟨v,o,ho,hd⟩:=I.cell x c e
  exact free c o (fun z=>(hch c z).2.2.1 x c e rfl) ho (I.freeC x c e)
 ·obtain ⟨e,n,ne,nf,d⟩:=I.pin p hp
  have nch:p.1∉ch:=fun z=>(hch p.1 z).2.2.2 p hp rfl
  exact ⟨keep p.1 p.2 ne nf nch e n,free p.1 p.2 nch e n,ne,nf,d⟩
theorem Inv.un {t':Nat} (I:Inv X pins σ H s) (u:Un X.fs [] H H' s.heap h') (hok:HOk X.prog X.w H' h'):Inv X pins σ H' {s with heap:=h',toks:=t'}:=by
 obtain ⟨m,⟨o,es,ep,ho,r⟩,_⟩:=id I.loc
 obtain ⟨sl,hL⟩:=u.any ho I.free (by simp)
 exact I.step (g':=s.gens) (d':=s.drawn) (ch:=[]) (fun _ z=>nomatch z) (fun b o _ hb _ e n=>u.keep b o e n hb (by simp)) (fun b o _ hb _ e n=>u.slot b o e n hb (by simp)) (fun b o _ e n=>u.free b o e n (by simp)) (fun b o _ e=>u.there b o e (by simp)) u.tups u.frzs u.tbls (fun m' hm=>by
  obtain ⟨o',es',ep',ho',r'⟩:=hm
  rw [ho] at ho';cases ho'
  exact ⟨_,es',ep',hL,r'⟩) hok I.bare
theorem Inv.call {g':Array GenState} {t':Nat} {d':Drawn} {ch:List Addr} (I:Inv X pins σ H s) (u:Un (frs X.stack) ch H H' s.heap h') (hok:HOk X.prog X.w H' h') (hg:AllBare g')
  (hch:∀ b∈ch,(b∈X.ex∨X.s₀.heap.objs.size≤b)∧b≠X.env.locals∧(∀ x c,X.env.cells.lookup x=some c→c≠b)∧∀ p∈X.pn++pins,p.1≠b):
  Inv X pins σ H' {s with heap:=h',gens:=g',drawn:=d',toks:=t'}:=by
 obtain ⟨m,⟨o,es,ep,ho,r⟩,_⟩:=id I.loc
 obtain ⟨sl,hL⟩:=u.any ho I.free fun z=>(hch _ z).2.1 rfl
 exact I.step (ch:=ch) hch (fun b o hL hb hc e n=>u.keep b o e n (fun z=>(List.mem_cons.mp (I.stkSub b z)).elim hL hb) hc) (fun b o _ _ hc e n=>u.any e n hc) (fun b o hc e n=>u.free b o e n hc) (fun b o hc e=>u.there b o e hc) u.tups u.frzs u.tbls (fun m' hm=>by
  obtain ⟨o',es',ep',ho',r'⟩:=hm
  rw [ho] at ho';cases ho'
  exact ⟨_,es',ep',hL,r'⟩) hok hg
theorem Inv.turned {t':Nat} {it:Addr} (I:Inv X pins σ H s) (k:∀ b o,b≠it→s.heap.get? b=some o→h'.get? b=some o) (hn:H it=none) (hL:it≠X.env.locals)
  (h1:it∈X.ex∨X.s₀.heap.objs.size≤it) (h2:∀ x c,X.env.cells.lookup x=some c→c≠it) (h3:∀ p∈X.pn++pins,p.1≠it):Inv X pins σ H {s with heap:=h',toks:=t'}:=by
 have nit:∀ b u,H b=some u→b≠it:=fun b u e z=>by rw [z,hn] at e;cases e
 refine I.step (g':=s.gens) (d':=s.drawn) (ch:=[it]) (fun b hb=>?_) (fun b o _ _ hc e _=>k b o (fun z=>hc (by simp [z])) e) (fun b o _ _ hc e _=>⟨o.slots,k b o (fun z=>hc (by simp [z])) e⟩) (fun _ _ _ _ n=>n)
  (fun b o hc e=>⟨o,k b o (fun z=>hc (by simp [z])) e⟩) (fun _ _ e=>e) (fun _ _ _ e=>e) (fun b ps e=>⟨#[],by rw [e];simp⟩) (fun m hm=>?_) (fun b u e=>?_) I.bare
 ·have e:b=it:=by simpa using hb
  subst e
  exact ⟨h1,hL,h2,h3⟩
 ·obtain ⟨o,es,ep,ho,r⟩:=hm
  exact ⟨o,es,ep,k _ o (Ne.symm hL) ho,r⟩
 ·refine (I.hok b u e).stay (fun c v hc q=>k c v ?_ q) (fun _ q=>q) fun _ _ q=>q
  rcases hc with z | z
  ·rw [z];exact nit b u e
  ·exact nit c _ z
theorem Inv.tok (I:Inv X pins σ H s) (t:Nat):Inv X pins σ H {s with toks:=t}:=I.un (h':=s.heap) (t':=t) Un.refl I.hok
theorem Inv.kept {t':Nat} (I:Inv X pins σ H s) (k:∀ b u,s.heap.get? b=some u→h'.get? b=some u):Inv X pins σ H {s with heap:=h',toks:=t'}:=I.un (Un.kept k) (I.hok.kept k)
theorem Inv.laid {a:Addr} {o:HO} {t':Nat} (I:Inv X pins σ H s) (k:∀ b u,s.heap.get? b=some u→h'.get? b=some u) (hp:s.heap.objs.size≤a) (new:dh X.prog X.w (upd H a o) h' a o):
  Inv X pins σ (upd H a o) {s with heap:=h',toks:=t'}:=I.un (Un.laid k hp (I.hok.fresh hp)) (I.hok.laid k hp new)
theorem Inv.write {x e:Addr} {o:HO} {t':Nat} (I:Inv X pins σ H s) (mu:Mut (H x)) (he:e=x∨H e=some (.own x)) (k:∀ b u,b≠e→s.heap.get? b=some u→h'.get? b=some u) (heo:∃ u,h'.get? e=some u)
  (new:dh X.prog X.w (upd H x o) h' x o):Inv X pins σ (upd H x o) {s with heap:=h',toks:=t'}:=I.un (Un.write mu he k heo) (I.hok.write mu he k heo new)
theorem Inv.weak {σ':List (Option V)} (I:Inv X pins σ H s) (hl:σ'.length=σ.length) (w:∀ (i:Nat) v,σ'[i]? =some (some v)→σ[i]? =some (some v)):Inv X pins σ' H s:=
 ⟨I.ok,I.os,I.bare,I.base,let ⟨m,hn,hl'⟩:=I.loc;⟨m,hn,fun i x v e1 e2 e3=>hl' i x v e1 (w i v e2) e3⟩,I.cell,I.free,I.freeC,I.pin,I.hok,hl.trans I.len⟩
theorem Inv.pins_of {pins':List (Addr×Obj)} (I:Inv X pins σ H s) (h:∀ p∈pins',s.heap.get? p.1=some p.2∧H p.1=none∧p.1≠X.env.locals∧p.1∉X.fs∧∀ v,p.2.data≠.cell v):Inv X pins' σ H s:=
 ⟨I.ok,I.os,I.bare,I.base,I.loc,I.cell,I.free,I.freeC,fun p hp=>(List.mem_append.mp hp).elim (fun z=>I.pin p (List.mem_append_left _ z)) (h p),I.hok,I.len⟩
theorem vz {N:List Str} (hN:N.Nodup) {i j:Nat} {x:Str} (a:N[i]? =some x) (b:N[j]? =some x):i=j:=by
 obtain ⟨h1,e1⟩:=List.getElem?_eq_some_iff.mp a
 obtain ⟨h2,e2⟩:=List.getElem?_eq_some_iff.mp b
 exact (List.getElem_inj hN).mp (e1.trans e2.symm)
theorem wZ {M:Model} {A:Around} {E:Value→Shared→Prop} {i:Nat} {x:Str} {v:V} {u:Value} {Q:Unit→Shared→Prop} (I:Inv X pins σ H s) (hN:X.N.Nodup) (hi:X.N[i]? =some x) (hx:Loc X.env.scope x) (r:RelV v u)
  (h:∀ s',Inv X pins (σ.set i (some v)) H s'→(∃ a,Heap.SameBut a s.heap s'.heap∧(a=X.env.locals∨X.env.cells.lookup x=some a))→Q () s') (hf:X.fn x=true∨X.env.scope.names.lookup x=some .local:=by first | exact .inl rfl | exact .inr rfl | assumption):wpAny M A (storeName X.env x u) Q E s:=by
 obtain ⟨m,hn,hl⟩:=id I.loc
 have hcls:(X.env.scope.kind == .class||(X.env.scope.kind == .module&&X.env.locals != X.env.globals))=false:=by rw [I.ok.kind];rfl
 have hiσ:i < σ.length:=by rw [I.len];exact (List.getElem?_eq_some_iff.mp hi).1
 have cne:=I.cne
 have tracked:∀ {a:Addr} {h':Heap},(∃ o,s.heap.get? a=some o∧H a=none)→Heap.SameBut a s.heap h'→HOk X.prog X.w H h':=fun {a h'} ha hs b ob e=>by
  obtain ⟨_,_,hfree⟩:=ha
  refine (I.hok b ob e).stay (fun c w' hc q=>(hs.2 c ?_).trans q) (fun _ q=>q) fun _ _ q=>q
  rintro rfl
  rcases hc with rfl | hc
  ·rw [hfree] at e;cases e
  ·rw [hfree] at hc;cases hc
 rcases hx with hk | hk
 ·refine wpAny_storeName_local hk hn (fun h' hn' hs=>?_) hcls
  obtain ⟨oL,_,_,hoL,_⟩:=id hn
  refine h _ ⟨I.ok,I.os,I.bare,⟨fun b o e n hb hx=>?_,fun b o e n hb hx=>?_,I.base.free,fun b o e hx=>?_,I.base.tups,I.base.frzs,I.base.tbls⟩,⟨_,hn',fun j y v' e1 e2 e3=>?_⟩,fun y c e=>?_,I.free,I.freeC,fun p hp=>?_,tracked ⟨oL,hoL,I.free⟩ hs,by simpa using I.len⟩ ⟨_,hs,.inl rfl⟩
  ·exact (hs.2 b (Nat.ne_of_lt (Nat.lt_of_lt_of_le (Heap.lt_size e) I.ok.above))).trans (I.base.keep b o e n hb hx)
  ·obtain ⟨sl,e1⟩:=I.base.slot b o e n hb hx
   exact ⟨sl,(hs.2 b (Nat.ne_of_lt (Nat.lt_of_lt_of_le (Heap.lt_size e) I.ok.above))).trans e1⟩
  ·obtain ⟨o',e1⟩:=I.base.there b o e hx
   exact ⟨o',(hs.2 b (Nat.ne_of_lt (Nat.lt_of_lt_of_le (Heap.lt_size e) I.ok.above))).trans e1⟩
  ·by_cases hj:j=i
   ·subst hj
    rw [hi] at e1;cases e1
    rw [List.getElem?_set_self hiσ] at e2
    cases e2
    exact ⟨u,r,.inl ⟨hk,by simp⟩⟩
   ·rw [List.getElem?_set_ne (Ne.symm hj)] at e2
    obtain ⟨u',r',q⟩:=hl j y v' e1 e2 e3
    refine ⟨u',r',?_⟩
    rcases q with ⟨k,e⟩ | ⟨k,c,e,z⟩
    ·refine .inl ⟨k,?_⟩
     have:y≠x:=fun e=>hj (vz hN e1 (e ▸ hi))
     simp [this,e]
    ·exact .inr ⟨k,c,e,z.sameBut hs (cne y c e)⟩
  ·obtain ⟨w',z⟩:=I.cell y c e
   exact ⟨w',z.sameBut hs (cne y c e)⟩
  ·obtain ⟨e,n,ne,nf,d⟩:=I.pin p hp
   exact ⟨(hs.2 p.1 ne).trans e,n,ne,nf,d⟩
 ·have hfn:X.fn x=true:=by
   rcases hf with z | z
   ·exact z
   ·rw [z] at hk;cases hk
  obtain ⟨c,hc⟩:=I.ok.has x (.inl hk)
  obtain ⟨w',z⟩:=I.cell x c hc
  refine wpAny_storeName_cell I.ok.kind hk hc z (fun h' hc' hs=>?_)
  obtain ⟨oc,hoc,hocd⟩:=id z
  refine h {s with heap:=h'} ⟨I.ok,I.os,I.bare,⟨fun b o e n hb hx=>?_,fun b o e n hb hx=>?_,I.base.free,fun b o e hx=>?_,I.base.tups,I.base.frzs,I.base.tbls⟩,⟨m,hn.sameBut hs (Ne.symm (cne x c hc)),fun j y v' e1 e2 e3=>?_⟩,fun y c' e=>?_,I.free,I.freeC,fun p hp=>?_,tracked ⟨oc,hoc,I.freeC x c hc⟩ hs,by simpa using I.len⟩ ⟨c,hs,.inr hc⟩
  ·exact (hs.2 b (Nat.ne_of_lt (Nat.lt_of_lt_of_le (Heap.lt_size e) (I.ok.cab x c hfn hc)))).trans (I.base.keep b o e n hb hx)
  ·obtain ⟨sl,e1⟩:=I.base.slot b o e n hb hx
   exact ⟨sl,(hs.2 b (Nat.ne_of_lt (Nat.lt_of_lt_of_le (Heap.lt_size e) (I.ok.cab x c hfn hc)))).trans e1⟩
  ·obtain ⟨o',e1⟩:=I.base.there b o e hx
   exact ⟨o',(hs.2 b (Nat.ne_of_lt (Nat.lt_of_lt_of_le (Heap.lt_size e) (I.ok.cab x c hfn hc)))).trans e1⟩
  ·by_cases hj:j=i
   ·subst hj
    rw [hi] at e1;cases e1
    rw [List.getElem?_set_self hiσ] at e2
    cases e2
    exact ⟨u,r,.inr ⟨.inl hk,c,hc,hc'⟩⟩
   ·rw [List.getElem?_set_ne (Ne.symm hj)] at e2
    obtain ⟨u',r',q⟩:=hl j y v' e1 e2 e3
    refine ⟨u',r',?_⟩
    rcases q with q | ⟨k,c',e,z'⟩
    ·exact .inl q
    ·refine .inr ⟨k,c',e,z'.sameBut hs ?_⟩
     rintro rfl
     exact hj (vz hN e1 (I.ok.inj _ _ _ e hc ▸ hi))
  ·by_cases hcc:c'=c
   ·subst hcc;exact ⟨_,hc'⟩
   ·obtain ⟨w2,z2⟩:=I.cell y c' e
    exact ⟨w2,z2.sameBut hs hcc⟩
  ·obtain ⟨e,n,ne,nf,d⟩:=I.pin p hp
   refine ⟨(hs.2 p.1 ?_).trans e,n,ne,nf,d⟩
   intro q
   rw [q,hoc] at e
   have q':oc=p.2:=Option.some.inj e
   exact d w' (by rw [← q'];exact hocd)
theorem uP {M:Model} {A:Around} {E:Value→Shared→Prop} {i:Nat} {x:Str} {v:V} {u:Value} {Q:Unit→Shared→Prop} (I:Inv X pins σ H s) (hN:X.N.Nodup) (hi:X.N[i]? =some x) (hx:Loc X.env.scope x) (r:RelV v u)
  (h:∀ s',Inv X pins (σ.set i (some v)) H s'→Q () s') (hf:X.fn x=true∨X.env.scope.names.lookup x=some .local:=by first | exact .inl rfl | exact .inr rfl | assumption):wpAny M A (storeName X.env x u) Q E s:=
 wZ I hN hi hx r (fun s' I' _=>h s' I') hf
theorem Inv.call' {s':Shared} {ch:List Addr} (I:Inv X pins σ H s) (ho:s'.os=s.os) (u:Un (frs X.stack) ch H H' s.heap s'.heap) (hok:HOk X.prog X.w H' s'.heap) (hg:AllBare s'.gens)
  (hch:∀ b∈ch,(b∈X.ex∨X.s₀.heap.objs.size≤b)∧b≠X.env.locals∧(∀ x c,X.env.cells.lookup x=some c→c≠b)∧∀ p∈X.pn++pins,p.1≠b):Inv X pins σ H' s':=by
 obtain ⟨h',g',d',t',o'⟩:=s'
 have e:o'=s.os:=ho
 subst e
 exact I.call (g':=g') (t':=t') (d':=d') u hok hg hch
end
noncomputable abbrev XK:=Value→Option Addr→Hp→Prop
noncomputable abbrev St:=List (Option V)
noncomputable abbrev VK:=V→Hp→Prop
noncomputable abbrev TE:=St→Hp→VK→Prop
noncomputable abbrev TT:=St→Hp→(Bool→Hp→Prop)→Prop
noncomputable abbrev TA:=St→Hp→(List V→Hp→Prop)→Prop
structure Ends where
 nx:St→Hp→Prop
 rt:VK
 bk:St→Hp→Prop:=fun _ _=>False
 ct:St→Hp→Prop:=fun _ _=>False
noncomputable abbrev TS:=Ends→St→Hp→Prop
noncomputable def EP (X:Cx) (pins:List (Addr×Obj)) (σ:St) (Q:VK) (u:Value) (s':Shared):Prop:=∃ v H',Inv X pins σ H' s'∧RelV v u∧Q v H'
noncomputable def TP (X:Cx) (pins:List (Addr×Obj)) (σ:St) (Q:Bool→Hp→Prop) (b:Bool) (s':Shared):Prop:=∃ H',Inv X pins σ H' s'∧Q b H'
noncomputable def AP (X:Cx) (pins:List (Addr×Obj)) (σ:St) (Q:List V→Hp→Prop) (us:List Value) (s':Shared):Prop:=∃ vs H',Inv X pins σ H' s'∧Vals vs us∧Q vs H'
noncomputable def SP (X:Cx) (pins:List (Addr×Obj)) (D:Ends) (f:Flow) (s':Shared):Prop:=
 match f with
 | .next=>∃ σ' H',Inv X pins σ' H' s'∧D.nx σ' H'
 | .brk=>∃ σ' H',Inv X pins σ' H' s'∧D.bk σ' H'
 | .cont=>∃ σ' H',Inv X pins σ' H' s'∧D.ct σ' H'
 | .ret u=>∃ v σ' H',Inv X pins σ' H' s'∧RelV v u∧D.rt v H'
noncomputable def PE (X:Cx) (e:Expr) (t:TE):Prop:=
 ∀ (pins:List (Addr×Obj)) (s:Shared) (σ:St) (H:Hp) (Q:VK),Inv X pins σ H s→t σ H Q→wpAny (model X.prog X.w) X.A (eval e X.env) (EP X pins σ Q) X.xe s
noncomputable def PT (X:Cx) (e:Expr) (t:TT):Prop:=
 ∀ (pins:List (Addr×Obj)) (s:Shared) (σ:St) (H:Hp) (Q:Bool→Hp→Prop),Inv X pins σ H s→t σ H Q→wpAny (model X.prog X.w) X.A (isTrue e X.env (eval e X.env)) (TP X pins σ Q) X.xe s
noncomputable def PW (X:Cx) (e:Expr) (t:TT):Prop:=
 ∀ (whole:Sem Value) (pins:List (Addr×Obj)) (s:Shared) (σ:St) (H:Hp) (Q:Bool→Hp→Prop),Inv X pins σ H s→t σ H Q→wpAny (model X.prog X.w) X.A (isTrue e X.env whole) (TP X pins σ Q) X.xe s
theorem PW.pt {X:Cx} {e:Expr} {t:TT} (h:PW X e t):PT X e t:=h _
noncomputable def PA (X:Cx) (es:List Expr) (t:TA):Prop:=
 ∀ (pos:Pos) (pins:List (Addr×Obj)) (s:Shared) (σ:St) (H:Hp) (Q:List V→Hp→Prop),Inv X pins σ H s→t σ H Q→wpAny (model X.prog X.w) X.A (spliced (backTo pos (starEach es X.env))) (AP X pins σ Q) X.xe s
noncomputable def PS (X:Cx) (st:Stmt) (t:TS):Prop:=
 ∀ (pins:List (Addr×Obj)) (s:Shared) (σ:St) (H:Hp) (D:Ends),Inv X pins σ H s→t D σ H→wpAny (model X.prog X.w) X.A (exec st X.env) (SP X pins D) X.xe s
noncomputable def PSs (X:Cx) (st:List Stmt) (t:TS):Prop:=
 ∀ (pins:List (Addr×Obj)) (s:Shared) (σ:St) (H:Hp) (D:Ends),Inv X pins σ H s→t D σ H→wpAny (model X.prog X.w) X.A (execs st X.env) (SP X pins D) X.xe s
theorem thn {α:Type} {t:Sem α} {Q Q':α→Shared→Prop} {M:Model} {A:Around} {E:Value→Shared→Prop} {s:Shared} (h:wpAny M A t Q E s) (hQ:∀ a s,Q a s→Q' a s):wpAny M A t Q' E s:=wpAny_mono h hQ fun _ _ x=>x
section
variable {X:Cx}
noncomputable def tVar (i:Nat):TE:=fun σ H Q=>∃ v,σ[i]? =some (some v)∧Q v H
noncomputable def tC (v:V):TE:=fun _ H Q=>Q v H
theorem L6 {i:Nat} {x:Str} {pos:Pos} (hN:X.N[i]? =some x) (hv:Vis X.env.scope x) (hd:(x == ("__debug__":Str))=false:=by decide) (hcd:(x == ("__classdict__":Str))=false:=by decide):PE X (.Name x pos) (tVar i):=by
 intro pins s σ H Q I h
 obtain ⟨v,e,h⟩:=h
 obtain ⟨m,hn,hl⟩:=I.loc
 obtain ⟨u,r,l⟩:=hl i x v hN e hv
 have fin:EP X pins σ Q u s:=⟨v,H,I,r,h⟩
 rcases l with ⟨hk,hm⟩ | ⟨hk,c,hc,hcell⟩
 ·exact wpAny_Name (wpAny_loadName_local I.ok.kind hk hn hm fin) hd
 ·rcases hk with hk | hk
  ·exact wpAny_Name (wpAny_loadName_cell I.ok.kind hk hc hcell fin) hd
  ·exact wpAny_Name (wpAny_loadName_free I.ok.kind hk hc hcell fin hcd) hd
theorem am {i j pos}:PE X (.Constant (.int i) j pos) (tC (.int i)):=fun _ _ _ H _ I h=>wpAny_Constant_int ⟨.int i,H,I.tok _,⟨_,rfl⟩,h⟩
theorem i5 {b j pos}:PE X (.Constant (.bool b) j pos) (tC (.bl b)):=fun _ _ _ H _ I h=>Constant_bool ⟨.bl b,H,I,rfl,h⟩
theorem L8 {j pos}:PE X (.Constant .none j pos) (tC .non):=fun _ _ _ H _ I h=>Constant_none ⟨.non,H,I,rfl,h⟩
theorem fo {x j pos}:PE X (.Constant (.str x) j pos) (tC (.str x)):=fun _ _ _ H _ I h=>Calls.Constant_str ⟨.str x,H,I.tok _,⟨_,rfl⟩,h⟩
noncomputable def Gl (X:Cx) (x:Str):Prop:=X.env.kindOf x=some .globalImplicit
theorem jx {E:Value→Shared→Prop} {pins:List (Addr×Obj)} {s:Shared} {σ:St} {H:Hp} {x:Str} {u:Value} {pos:Pos} {Q:Value→Shared→Prop} (I:Inv X pins σ H s) (hg:Gl X x) (hm:X.mg x=some u) (h:Q u s)
  (hd:(x == ("__debug__":Str))=false:=by decide):wpAny (model X.prog X.w) X.A (eval (.Name x pos) X.env) Q E s:=
 Calls.Name_function_global I.ok.kind hg (Calls.loadGlobal_global (by rw [I.ok.glob];exact I.mod.glob.keeps I.bk) hm h) hd
theorem oh {E:Value→Shared→Prop} {pins:List (Addr×Obj)} {s:Shared} {σ:St} {H:Hp} {x:Str} {u:Value} {pos:Pos} {Q:Value→Shared→Prop} (I:Inv X pins σ H s) (hg:Gl X x) (hm:X.mg x=none) (hv:bootBuiltins x=some u) (h:Q u s)
  (hn:x≠"__name__":=by decide) (hd:(x == ("__debug__":Str))=false:=by decide):wpAny (model X.prog X.w) X.A (eval (.Name x pos) X.env) Q E s:=by
 obtain ⟨mb,h1,h2⟩:=I.mod.blt
 exact Calls.Name_function_global I.ok.kind hg (Calls.loadGlobal_builtin (by rw [I.ok.glob];exact I.mod.glob.keeps I.bk) hm (by rw [I.ok.blt];exact h1.keeps I.bk) ((h2 x hn).trans hv) h) hd
theorem eW {x:Str} {v:V} {u:Value} {pos:Pos} (hg:Gl X x) (hm:X.mg x=some u) (r:RelV v u) (hd:(x == ("__debug__":Str))=false:=by decide):PE X (.Name x pos) (tC v):=
 fun _ _ _ H _ I h=>jx I hg hm ⟨v,H,I,r,h⟩ hd
theorem mJ {x:Str} {v:V} {u:Value} {pos:Pos} (hg:Gl X x) (hm:X.mg x=none) (hv:bootBuiltins x=some u) (r:RelV v u) (hn:x≠"__name__":=by decide) (hd:(x == ("__debug__":Str))=false:=by decide):PE X (.Name x pos) (tC v):=
 fun _ _ _ H _ I h=>oh I hg hm hv ⟨v,H,I,r,h⟩ hn hd
variable {a b:Expr} {ta tb:TE} {pos:Pos}
noncomputable def PC (X:Cx) (op:CmpOp) (a b:Expr) (t:TE):Prop:=
 ∀ (pins:List (Addr×Obj)) (s:Shared) (σ:St) (H:Hp) (Q:VK),Inv X pins σ H s→t σ H Q→
  wpAny (model X.prog X.w) X.A (eval a X.env) (fun v s₁=>wpAny (model X.prog X.w) X.A (eval b X.env) (fun u s₂=>wpAny (model X.prog X.w) X.A (compareOp op v u) (EP X pins σ Q) X.xe s₂) X.xe s₁) X.xe s
noncomputable def tB (t:TE):TT:=fun σ H Q=>t σ H fun x H1=>∃ c,x= .bl c∧Q c H1
theorem Ma {op:CmpOp} {t:TE} (h:PC X op a b t) (h1:behindInMarks op b=false:=by first | exact nobehind _ (by decide) (by decide) | rfl):PE X (.Compare a [op] [b] pos) t:=fun pins s σ H Q I hw=>wpAny_Compare1 (h pins s σ H Q I hw) h1
theorem IJ {op:CmpOp} {t:TE} (h:PC X op a b t) (h1:behindInMarks op b=false:=by first | exact nobehind _ (by decide) (by decide) | rfl):PT X (.Compare a [op] [b] pos) (tB t):=by
 intro pins s σ H Q I hw
 refine wpAny_isTrue_Compare1 (thn (h pins s σ H _ I hw) fun v s1 h1=>thn h1 fun u s2 h2=>thn h2 fun c s3 ⟨x,H1,I1,r1,q1⟩=>?_) h1
 obtain ⟨d,rfl,q⟩:=q1
 cases r1
 exact wpAny_truthy_bool ⟨H1,I1,q⟩
theorem dw {e:Expr} {t:TE} (h:PE X e t) (he:∀ whole,isTrue e X.env whole=(do let v ← whole;standAt e.pos;holding [v] (truthy v)):=by intro _;rfl):PT X e (tB t):=by
 intro pins s σ H Q I hw
 refine isTrue_plain (thn (h pins s σ H _ I hw) fun v s1 ⟨x,H1,I1,r1,q1⟩=>?_) (he _)
 obtain ⟨d,rfl,q⟩:=q1
 cases r1
 exact wpAny_truthy_bool ⟨H1,I1,q⟩
variable {tA tB':TT} {rest:List Expr}
noncomputable def tAnd (t u:TT):TT:=fun σ H Q=>t σ H fun c H1=>if c=true then u σ H1 Q else Q false H1
noncomputable def tOr (t u:TT):TT:=fun σ H Q=>t σ H fun c H1=>if c=true then Q true H1 else u σ H1 Q
noncomputable def tNot (t:TT):TT:=fun σ H Q=>t σ H fun c H1=>Q (!c) H1
theorem zr (ha:PT X a tA):PW X (.BoolOp .And [a] pos) tA:=by
 intro wh pins s σ H Q I h
 refine isTrue_and (thn (ha pins s σ H Q I h) fun c s1 e=>?_)
 cases c with
 | true=>exact isTrue_and_nil e
 | false=>exact e
theorem nZ (ha:PT X a tA):PW X (.BoolOp .Or [a] pos) tA:=by
 intro wh pins s σ H Q I h
 refine isTrue_or (thn (ha pins s σ H Q I h) fun c s1 e=>?_)
 cases c with
 | false=>exact isTrue_or_nil e
 | true=>exact e
theorem EL (ha:PT X a tA) (hb:PW X (.BoolOp .And (b::rest) pos) tB'):PW X (.BoolOp .And (a::b::rest) pos) (tAnd tA tB'):=by
 intro wh pins s σ H Q I h
 refine isTrue_and (thn (ha pins s σ H _ I h) fun c s1 ⟨H1,I1,q1⟩=>?_)
 cases c with
 | true=>exact hb wh pins s1 σ H1 Q I1 q1
 | false=>exact ⟨H1,I1,q1⟩
theorem sg (ha:PT X a tA) (hb:PW X (.BoolOp .Or (b::rest) pos) tB'):PW X (.BoolOp .Or (a::b::rest) pos) (tOr tA tB'):=by
 intro wh pins s σ H Q I h
 refine isTrue_or (thn (ha pins s σ H _ I h) fun c s1 ⟨H1,I1,q1⟩=>?_)
 cases c with
 | true=>exact ⟨H1,I1,q1⟩
 | false=>exact hb wh pins s1 σ H1 Q I1 q1
theorem gz (ha:PT X a tA):PT X (.UnaryOp .Not a pos) (tNot tA):=by
 intro pins s σ H Q I h
 exact isTrue_not (ha pins s σ H (fun c H1=>Q (!c) H1) I h)
noncomputable def K8 (ta tb:TE):TE:=fun σ H Q=>ta σ H fun x H1=>∃ c,x= .bl c∧if c=true then tb σ H1 Q else Q (.bl false) H1
theorem L7 {op} {t:TE} (h:PE X a t):PE X (.BoolOp op [a] pos) t:=fun pins s σ H Q I hw=>BoolOp_one (h pins s σ H Q I hw)
theorem Mc (ha:PE X a ta) (hb:PE X (.BoolOp .And (b::rest) pos) tb):PE X (.BoolOp .And (a::b::rest) pos) (K8 ta tb):=by
 intro pins s σ H Q I h
 refine BoolOp_and (thn (ha pins s σ H _ I h) fun v s1 ⟨x,H1,I1,r1,q1⟩=>?_)
 obtain ⟨c,rfl,q1⟩:=q1
 cases r1
 refine wpAny_truthy_bool ?_
 cases c with
 | true=>exact hb pins s1 σ H1 Q I1 q1
 | false=>exact ⟨.bl false,H1,I1,rfl,q1⟩
end
noncomputable def SqL (K:PySem.W.Frag) (H:Hp) (a:Addr) (xs:List V):Prop:=
 Rd H a (.lst xs)∨
  ∃ (o:Obj) (its:Array Value) (n:Nat),K.lookup a=some o∧o.cls= .type "list"∧o.dict=none∧o.data= .seq its n∧its.size≤sizeLine∧Vals xs its.toList
noncomputable def SqT (K:PySem.W.Frag) (H:Hp) (a:Addr) (xs:List V):Prop:=
 Rd H a (.tup xs)∨
  ∃ (o:Obj) (its:Array Value) (n:Nat),K.lookup a=some o∧o.cls= .type "tuple"∧o.data= .seq its n∧its.size≤sizeLine∧Vals xs its.toList
noncomputable def absV:Value→Option V
 | .none=>some .non
 | .bool b=>some (.bl b)
 | .int i _=>some (.int i)
 | .str x _=>some (.str x)
 | .bytes b _=>some (.byt b)
 | .float b _=>some (.flt b)
 | .ref a=>some (.ref a)
 | .type n=>some (.ty n)
 | _=>none
theorem RelV.abs {x:V} {u:Value} (r:RelV x u):absV u=some x:=by
 cases x with
 | non=>cases r;rfl
 | bl _=>cases r;rfl
 | int _=>obtain ⟨t,rfl⟩:=r;rfl
 | str _=>obtain ⟨t,rfl⟩:=r;rfl
 | byt _=>obtain ⟨t,rfl⟩:=r;rfl
 | flt _=>obtain ⟨t,rfl⟩:=r;rfl
 | ref _=>cases r;rfl
 | ty _=>cases r;rfl
theorem RelV.inj {x y:V} {u:Value} (r:RelV x u) (q:RelV y u):x=y:=Option.some.inj (r.abs.symm.trans q.abs)
theorem Vals.inj:∀ {xs ys:List V} {us:List Value},Vals xs us→Vals ys us→xs=ys
 | _,_,_,.nil,.nil=>rfl
 | _,_,_,.cons r t,.cons r' t'=>by rw [r.inj r',Vals.inj t t']
section
variable {X:Cx} {pins:List (Addr×Obj)} {σ:St} {H:Hp} {s:Shared} {a:Addr} {xs ys:List V}
theorem SqL.of {K:PySem.W.Frag} (h:H a=some (.lst xs)):SqL K H a xs:= .inl (.inl h)
theorem SqT.of {K:PySem.W.Frag} (h:H a=some (.tup xs)):SqT K H a xs:= .inl (.inl h)
theorem Inv.list (I:Inv X pins σ H s) (h:SqL X.K H a xs):∃ its:List Value,Vals xs its∧PlainL s.heap a its.toArray∧xs.length≤sizeLine:=by
 rcases h with h | ⟨o,its,n,hk,hc,hd,hs,hz,r⟩
 ·obtain ⟨z,its,n,r,e⟩:=h.ok I.hok
  exact ⟨its,r,⟨_,n,e,rfl,rfl,rfl⟩,z⟩
 ·refine ⟨its.toList,r,⟨o,n,I.kIn a o hk,hc,hd,by simpa using hs⟩,?_⟩
  have e:=r.length
  simp only [Array.length_toList] at e
  omega
theorem Inv.tuple (I:Inv X pins σ H s) (h:SqT X.K H a xs):∃ its:List Value,Vals xs its∧IsTup s.heap a its.toArray∧xs.length≤sizeLine:=by
 rcases h with h | ⟨o,its,n,hk,hc,hs,hz,r⟩
 ·obtain ⟨z,its,r,p⟩:=h.ok I.hok
  exact ⟨its,r,p,z⟩
 ·refine ⟨its.toList,r,⟨o,I.kIn a o hk,hc,n,by simpa using hs⟩,?_⟩
  have e:=r.length
  simp only [Array.length_toList] at e
  omega
theorem Inv.list_inj (I:Inv X pins σ H s) (h:SqL X.K H a xs) (h':SqL X.K H a ys):xs=ys:=by
 obtain ⟨its,r,⟨o,n,e,_,_,d⟩,_⟩:=I.list h
 obtain ⟨its',r',⟨o',n',e',_,_,d'⟩,_⟩:=I.list h'
 rw [e] at e';cases e'
 rw [d] at d'
 injection d' with d1 _
 have:its=its':=by simpa using congrArg Array.toList d1
 subst this
 exact r.inj r'
theorem Inv.tuple_inj (I:Inv X pins σ H s) (h:SqT X.K H a xs) (h':SqT X.K H a ys):xs=ys:=by
 obtain ⟨its,r,⟨o,e,_,n,d⟩,_⟩:=I.tuple h
 obtain ⟨its',r',⟨o',e',_,n',d'⟩,_⟩:=I.tuple h'
 rw [e] at e';cases e'
 rw [d] at d'
 injection d' with d1 _
 have:its=its':=by simpa using congrArg Array.toList d1
 subst this
 exact r.inj r'
end
noncomputable abbrev Cx.wish (X:Cx) (E:Value→Shared→Prop):Cx:={X with xe:=E}
noncomputable abbrev Cx.nox (X:Cx):Cx:=X.wish fun _ _=>False
theorem Cx.Ok.wish {X:Cx} (ok:X.Ok) (E:Value→Shared→Prop):(X.wish E).Ok:=
 ⟨ok.mod,ok.kind,ok.glob,ok.blt,ok.above,ok.inj,ok.has,ok.cab,ok.hd,ok.frames,ok.stk,ok.exf,ok.bs,ok.bsz,ok.noex,ok.exfs,ok.funs,ok.frf⟩
theorem Cx.Ok.unwish {X:Cx} {E:Value→Shared→Prop} (ok:(X.wish E).Ok):X.Ok:=
 ⟨ok.mod,ok.kind,ok.glob,ok.blt,ok.above,ok.inj,ok.has,ok.cab,ok.hd,ok.frames,ok.stk,ok.exf,ok.bs,ok.bsz,ok.noex,ok.exfs,ok.funs,ok.frf⟩
section
variable {X:Cx} {pins:List (Addr×Obj)} {σ:St} {H:Hp} {s:Shared} {E:Value→Shared→Prop}
theorem Inv.wish (I:Inv X pins σ H s) (E:Value→Shared→Prop):Inv (X.wish E) pins σ H s:=⟨I.ok.wish E,I.os,I.bare,I.base,I.loc,I.cell,I.free,I.freeC,I.pin,I.hok,I.len⟩
theorem Inv.unwish (I:Inv (X.wish E) pins σ H s):Inv X pins σ H s:=⟨I.ok.unwish,I.os,I.bare,I.base,I.loc,I.cell,I.free,I.freeC,I.pin,I.hok,I.len⟩
theorem SP.unwish {D:Ends} {f:Flow} {s':Shared} (h:SP (X.wish E) pins D f s'):SP X pins D f s':=by
 cases f with
 | next=>obtain ⟨σ',H',I,q⟩:=h;exact ⟨σ',H',I.unwish,q⟩
 | brk=>obtain ⟨σ',H',I,q⟩:=h;exact ⟨σ',H',I.unwish,q⟩
 | cont=>obtain ⟨σ',H',I,q⟩:=h;exact ⟨σ',H',I.unwish,q⟩
 | ret u=>obtain ⟨v,σ',H',I,r,q⟩:=h;exact ⟨v,σ',H',I.unwish,r,q⟩
theorem PSs.nox {st:List Stmt} {t:TS} (h:PSs X.nox st t):PSs X st t:=fun pins s σ H D I hw=>
 wpAny_mono (h pins s σ H D (I.wish _) hw) (fun _ _ q=>q.unwish) fun _ _ z=>False.elim z
end
section
variable {X:Cx} {st:Stmt} {rest:List Stmt} {t u:TS} {e:Expr} {te:TE} {pos:Pos}
noncomputable def K1:TS:=fun D σ H=>D.nx σ H
noncomputable def tSeq (t u:TS):TS:=fun D σ H=>t {D with nx:=u D} σ H
theorem aW:PSs X [] K1:=fun _ _ σ H _ I h=>wpAny_execs_nil ⟨σ,H,I,h⟩
theorem ah (h1:PS X st t) (h2:PSs X rest u):PSs X (st::rest) (tSeq t u):=by
 intro pins s σ H D I h
 refine wpAny_execs_cons (thn (h1 pins s σ H {D with nx:=u D} I h) fun f s1 q=>?_)
 cases f with
 | next=>
   obtain ⟨σ',H',I',q⟩:=q
   exact h2 pins s1 σ' H' D I' q
 | ret v=>exact q
 | brk=>exact q
 | cont=>exact q
theorem ak (h1:PS X st t):PSs X [st] t:=by
 intro pins s σ H D I h
 refine wpAny_execs_cons (thn (h1 pins s σ H D I h) fun f s1 q=>?_)
 cases f with
 | next=>exact wpAny_execs_nil q
 | ret v=>exact q
 | brk=>exact q
 | cont=>exact q
theorem Inv.quiet {pins:List (Addr×Obj)} {σ:St} {H:Hp} {s:Shared} (I:Inv X pins σ H s):interactive X.env=false:=by simp [interactive,I.ok.kind]
noncomputable def K5 (te:TE):TS:=fun D σ H=>te σ H fun _ H1=>D.nx σ H1
theorem bW (he:PE X e te) (hs:swapsWith e none pos.line X.env=pure false:=by rfl):PS X (.Expr e pos) (K5 te):=by
 intro pins s σ H D I h
 exact wpAny_Expr_any (thn (he pins s σ H _ I h) fun v s1 ⟨x,H1,I1,r1,q1⟩=>⟨σ,H1,I1,q1⟩) I.quiet hs
noncomputable def tRet (te:TE):TS:=fun D σ H=>te σ H D.rt
theorem aZ (he:PE X e te):PS X (.Return (some e) pos) (tRet te):=by
 intro pins s σ H D I h
 exact wpAny_Return_some (thn (he pins s σ H _ I h) fun v s1 ⟨x,H1,I1,r1,q1⟩=>⟨x,σ,H1,I1,r1,q1⟩)
noncomputable def tIfS (c:TT) (t u:TS):TS:=fun D σ H=>c σ H fun b H1=>if b=true then t D σ H1 else u D σ H1
theorem c8 {c:Expr} {a b:List Stmt} {tc:TT} (hc:PT X c tc) (ha:PSs X a t) (hb:PSs X b u):PS X (.If c a b pos) (tIfS tc t u):=by
 intro pins s σ H D I h
 refine wpAny_If (thn (hc pins s σ H _ I h) fun d s1 ⟨H1,I1,q1⟩=>?_)
 cases d with
 | true=>exact ha pins s1 σ H1 D I1 q1
 | false=>exact hb pins s1 σ H1 D I1 q1
end
noncomputable abbrev TG:=V→St→Hp→(St→Hp→Prop)→Prop
noncomputable abbrev TGs:=List V→St→Hp→(St→Hp→Prop)→Prop
noncomputable def PG (X:Cx) (target:Expr) (t:TG):Prop:=
 ∀ (pins:List (Addr×Obj)) (s:Shared) (σ:St) (H:Hp) (v:V) (u:Value) (Q:St→Hp→Prop),Inv X pins σ H s→RelV v u→t v σ H Q→
  wpAny (model X.prog X.w) X.A (assign target X.env u) (fun _ s'=>∃ σ' H',Inv X pins σ' H' s'∧Q σ' H') X.xe s
noncomputable def PGs (X:Cx) (ts:List Expr) (t:TGs):Prop:=
 ∀ (pins:List (Addr×Obj)) (s:Shared) (σ:St) (H:Hp) (vs:List V) (us:List Value) (Q:St→Hp→Prop),Inv X pins σ H s→Vals vs us→t vs σ H Q→
  wpAny (model X.prog X.w) X.A (assignInOrder ((assignEach ts X.env).map (·.2)) us) (fun _ s'=>∃ σ' H',Inv X pins σ' H' s'∧Q σ' H') X.xe s
noncomputable abbrev TSet:=V→V→V→Hp→(Hp→Prop)→Prop
noncomputable def PSet (X:Cx) (t:TSet):Prop:=
 ∀ (pins:List (Addr×Obj)) (s:Shared) (σ:St) (H:Hp) (o i v:V) (ov iv u:Value) (Q:Hp→Prop),Inv X pins σ H s→RelV o ov→RelV i iv→RelV v u→t o i v H Q→
  wpAny (model X.prog X.w) X.A (setItem ov iv u) (fun _ s'=>∃ H',Inv X pins σ H' s'∧Q H') X.xe s
section
variable {X:Cx} {pos:Pos}
noncomputable def FI (i:Nat):TG:=fun v σ H Q=>Q (σ.set i (some v)) H
theorem av {i:Nat} {x:Str} (hN:X.N.Nodup) (hi:X.N[i]? =some x) (hx:Loc X.env.scope x) (hf:X.fn x=true∨X.env.scope.names.lookup x=some .local:=by first | exact .inl rfl | exact .inr rfl | assumption):PG X (.Name x pos) (FI i):=by
 intro pins s σ H v u Q I r h
 exact wpAny_assign_Name (uP I hN hi hx r (fun s' I'=>⟨_,H,I',h⟩) hf)
noncomputable def gNil:TGs:=fun vs σ H Q=>vs=[]∧Q σ H
noncomputable def Ko (t:TG) (u:TGs):TGs:=fun vs σ H Q=>∃ v r,vs=v::r∧t v σ H fun σ' H'=>u r σ' H' Q
theorem fZ:PGs X [] gNil:=by
 intro pins s σ H vs us Q I r h
 obtain ⟨e,h⟩:=h
 subst e
 cases r
 exact assignInOrder_nil ⟨σ,H,I,h⟩
theorem bj {e:Expr} {es:List Expr} {t:TG} {u:TGs} (h1:PG X e t) (h2:PGs X es u)
  (hs:(assignEach (e::es) X.env).map (·.2)=assign e X.env::(assignEach es X.env).map (·.2):=by rfl):PGs X (e::es) (Ko t u):=by
 intro pins s σ H vs us Q I r h
 obtain ⟨v,vr,e1,h⟩:=h
 subst e1
 cases r with
 | cons r rr=>
   rw [hs]
   refine assignInOrder_cons (thn (h1 pins s σ H _ _ _ I r h) fun _ s1 ⟨σ1,H1,I1,q1⟩=>?_)
   exact h2 pins s1 σ1 H1 _ _ Q I1 rr q1
noncomputable def gTup (K:PySem.W.Frag) (n:Nat) (t:TGs):TG:=fun v σ H Q=>∃ a xs,v= .ref a∧SqT K H a xs∧xs.length=n∧t xs σ H Q
theorem n0 {es:List Expr} {k:Nat} {t:TGs} {n:Nat} (hc:X.calm=true) (h:PGs X es t)
  (hn:(assignEach es X.env).length=n:=by rfl) (hst:(assignEach es X.env).findIdx? (·.1)=none:=by rfl):PG X (.Tuple es k pos) (gTup X.K n t):=by
 intro pins s σ H v u Q I r hw
 obtain ⟨a,xs,e1,hq,hl,hw⟩:=hw
 subst e1
 cases r
 obtain ⟨its,rv,ht,hz⟩:=I.tuple hq
 refine assign_Tuple_tuple (I.ok.hd hc) ht (by simp [hn,← hl,rv.length]) hst fun h' hx=>?_
 have I1:Inv X pins σ H {s with heap:=h'}:=I.kept (t':=s.toks) fun b o e=>hx b o (Nat.ne_of_lt (Heap.lt_size e)) e
 exact h pins _ σ H xs _ Q I1 (by simpa using rv) hw
noncomputable def gSub (to ti:TE) (t:TSet):TG:=fun v σ H Q=>to σ H fun o H1=>ti σ H1 fun i H2=>t o i v H2 fun H3=>Q σ H3
theorem L5 {o i:Expr} {to ti:TE} {t:TSet} (ho:PE X o to) (hi:PE X i ti) (hs:PSet X t)
  (ha:∀ v,assign (.Subscript o i pos) X.env v=(do
   let ov ← holding [v] (eval o X.env)
   let iv ← holding [v,ov] (eval i X.env)
   standAt pos
   holding [v,ov,iv] (setItem ov iv v)
   release [v,ov,iv] []):=by intro _;rfl):PG X (.Subscript o i pos) (gSub to ti t):=by
 intro pins s σ H v u Q I r h
 rw [ha]
 refine wpAny_bind (wpAny_holding (thn (ho pins s σ H _ I h) fun ov s1 ⟨x,H1,I1,r1,q1⟩=>?_))
 refine wpAny_bind (wpAny_holding (thn (hi pins s1 σ H1 _ I1 q1) fun iv s2 ⟨y,H2,I2,r2,q2⟩=>?_))
 refine wpAny_bind (wpAny_standAt (wpAny_bind (wpAny_holding (thn (hs pins s2 σ H2 x y v ov iv u _ I2 r1 r2 r q2) fun _ s3 ⟨H3,I3,q3⟩=>?_))))
 exact wpAny_release ⟨σ,H3,I3,q3⟩
noncomputable def tAsg (te:TE) (g:TG):TS:=fun D σ H=>te σ H fun x H1=>g x σ H1 D.nx
theorem IK {tg e:Expr} {te:TE} {g:TG} (he:PE X e te) (hg:PG X tg g) (hs:swapsWithSole [tg] e pos.line X.env=pure false:=by rfl) (hw:swappedStores [tg] e X.env=pure none:=by rfl)
  (h1:(assignEach [tg] X.env).map (·.2)=[assign tg X.env]:=by rfl):PS X (.Assign [tg] e pos) (tAsg te g):=by
 intro pins s σ H D I h
 refine wpAny_Assign_stores (thn (he pins s σ H _ I h) fun v s1 ⟨x,H1,I1,r1,q1⟩=>?_) hs hw
 rw [h1]
 exact thn (hg pins s1 σ H1 x v _ I1 r1 q1) fun _ s2 q=>q
theorem bf {i:Nat} {x:Str} {e:Expr} {te:TE} {pos':Pos} (hN:X.N.Nodup) (hi:X.N[i]? =some x) (hx:Loc X.env.scope x) (he:PE X e te) (hs:swapsWith e (some (.Name x pos')) pos.line X.env=pure false:=by rfl) (hf:X.fn x=true∨X.env.scope.names.lookup x=some .local:=by first | exact .inl rfl | exact .inr rfl | assumption):
  PS X (.Assign [.Name x pos'] e pos) (tAsg te (FI i)):=by
 intro pins s σ H D I h
 refine wpAny_Assign_Name (thn (he pins s σ H _ I h) fun v s1 ⟨y,H1,I1,r1,q1⟩=>?_) hs
 exact uP I1 hN hi hx r1 (fun s2 I2=>⟨_,H1,I2,q1⟩) hf
end
section
variable {X:Cx} {pos:Pos}
noncomputable def KY (c:TT) (tb:TS):TS:=fun D σ H=>∃ W:Nat→St→Hp→Prop,(∃ m,W m σ H)∧∀ m σ H,W m σ H→
 c σ H fun b H1=>if b=true then ∃ N:St→Hp→Prop,(∀ σ' H',N σ' H'→∃ m',m' < m∧W m' σ' H')∧tb {D with nx:=N,ct:=N,bk:=D.nx} σ H1 else D.nx σ H1
theorem G4 {c:Expr} {body:List Stmt} {tc:TT} {tb:TS} (hp:PassesOwn (model X.prog X.w) X.A X.env X.xe) (hc:PT X c tc) (hb:PSs X body tb):PS X (.While c body [] pos) (KY tc tb):=by
 intro pins s σ H D I h
 obtain ⟨W,⟨m0,w0⟩,turn⟩:=h
 refine wpAny_While (codeAny_whileLoop (fun n s'=>∃ σ' H',Inv X pins σ' H' s'∧W n σ' H') ?_ m0 ⟨σ,H,I,w0⟩)
 rintro n s1 ⟨σ1,H1,I1,w1⟩
 refine wpAny_passesOwn hp (thn (hc pins s1 σ1 H1 _ I1 (turn n σ1 H1 w1)) fun b s2 ⟨H2,I2,q2⟩=>?_)
 cases b with
 | true=>
   obtain ⟨N,hN,q2⟩:=q2
   rw [if_pos rfl]
   refine wpAny_passesOwn hp (thn (hb pins s2 σ1 H2 _ I2 q2) fun f s3 q3=>?_)
   cases f with
   | next=>
     obtain ⟨σ3,H3,I3,n3⟩:=q3
     obtain ⟨m',hm,w3⟩:=hN σ3 H3 n3
     exact ⟨m',hm,σ3,H3,I3,w3⟩
   | cont=>
     obtain ⟨σ3,H3,I3,n3⟩:=q3
     obtain ⟨m',hm,w3⟩:=hN σ3 H3 n3
     exact ⟨m',hm,σ3,H3,I3,w3⟩
   | brk=>exact q3
   | ret v=>exact q3
 | false=>
   rw [if_neg Bool.false_ne_true]
   exact wpAny_execs_nil ⟨σ1,H2,I2,q2⟩
end
structure It where
 go:Nat→Hp→Prop
 yld:Nat→Hp→V→Hp→Prop
 stop:Nat→Hp→Prop
noncomputable def FpOk (X:Cx) (pins:List (Addr×Obj)) (H:Hp) (b:Addr):Prop:=
 H b=none∧b≠X.env.locals∧b∉X.fs∧(b∈X.ex∨X.s₀.heap.objs.size≤b)∧(∀ x c,X.env.cells.lookup x=some c→c≠b)∧∀ p∈X.pn++pins,p.1≠b
theorem Inv.fpOk {X:Cx} {pins:List (Addr×Obj)} {σ:St} {H H':Hp} {s:Shared} {b:Addr} (I:Inv X pins σ H s) (hb:s.heap.objs.size≤b) (hn:H' b=none):FpOk X pins H' b:=by
 refine ⟨hn,Nat.ne_of_gt (Nat.lt_of_lt_of_le I.lt hb),I.nofs hb,.inr (Nat.le_trans I.sz hb),fun x c e z=>?_,fun p hp z=>?_⟩
 ·obtain ⟨v,q⟩:=I.cell x c e
  exact absurd (Nat.lt_of_lt_of_le q.lt (by rw [z];exact hb)) (Nat.lt_irrefl _)
 ·exact absurd (Nat.lt_of_lt_of_le (Heap.lt_size (I.pin p hp).1) (by rw [z];exact hb)) (Nat.lt_irrefl _)
structure Turn (P:Program) (w:World) (K:PySem.W.Frag) (tg:Expr) (J:It) (fp:List Addr) (it:Addr) (tn:Nat→Heap→Prop):Prop where
 mem:it∈fp
 obj:∀ i h,tn i h→∀ b∈fp,∃ o,h.get? b=some o∧∀ v,o.data≠.cell v
 keep:∀ i h h',tn i h→(∀ b∈fp,∀ o,h.get? b=some o→h'.get? b=some o)→tn i h'
 item:∀ (X:Cx),X.prog=P→X.w=w→X.K=K→X.calm=true→∀ (i:Nat) (pins:List (Addr×Obj)) (s:Shared) (σ:St) (H:Hp) (E:Value→Shared→Prop),Inv X pins σ H s→(∀ b∈fp,FpOk X pins H b)→tn i s.heap→J.go i H→
  wpAny (model P w) X.A (pyNext (.ref it)) (fun r s1=>∃ u,r=some u∧
   wpAny (model P w) X.A (letOwnedTupleGo tg (.ref it) u) (fun _ s2=>∃ x H',Inv X pins σ H' s2∧RelV x u∧J.yld i H x H'∧tn (i + 1) s2.heap∧∀ b∈fp,H' b=none) E s1) E s
 done:∀ (X:Cx),X.prog=P→X.w=w→X.K=K→X.calm=true→∀ (i:Nat) (pins:List (Addr×Obj)) (s:Shared) (σ:St) (H:Hp) (E:Value→Shared→Prop),Inv X pins σ H s→(∀ b∈fp,FpOk X pins H b)→tn i s.heap→J.stop i H→
  wpAny (model P w) X.A (pyNext (.ref it)) (fun r s1=>r=none∧Inv X pins σ H s1) E s
 self:∀ (A:Around) (i:Nat) (s:Shared) (Q:Value→Shared→Prop) (E:Value→Shared→Prop),tn i s.heap→Q (.ref it) s→wpAny (model P w) A (pyIter (.ref it)) Q E s
noncomputable abbrev TI:=St→Hp→(It→Hp→Prop)→Prop
noncomputable def PIE (X:Cx) (pins:List (Addr×Obj)) (σ:St) (tg:Expr) (R:It→Hp→Prop) (itv:Value) (s2:Shared):Prop:=
 ∃ (it:Addr) (fp:List Addr) (tn:Nat→Heap→Prop) (J:It) (H':Hp),itv= .ref it∧Inv X pins σ H' s2∧Turn X.prog X.w X.K tg J fp it tn∧tn 0 s2.heap∧(∀ b∈fp,FpOk X pins H' b)∧R J H'
noncomputable def PI (X:Cx) (tg iter:Expr) (wi:TI):Prop:=
 ∀ (pins:List (Addr×Obj)) (s:Shared) (σ:St) (H:Hp) (R:It→Hp→Prop),Inv X pins σ H s→wi σ H R→
  wpAny (model X.prog X.w) X.A (eval iter X.env) (fun v s1=>wpAny (model X.prog X.w) X.A (pyIter v) (PIE X pins σ tg R) X.xe s1) X.xe s
theorem HP {M:Model} {A:Around} {E:Value→Shared→Prop} {s:Shared} {tg:Expr} {it:Addr} {u:Value} {o:Obj} {n:String} {vs:Array Value} {Q:Unit→Shared→Prop} (ho:s.heap.get? it=some o) (hc:o.cls= .type n) (hd:o.data= .fields vs)
  (hn:["enumerate","zip","dict_itemiterator","dict_reverseitemiterator","odict_iterator","itertools.zip_longest","itertools.pairwise"].contains n=false) (hQ:Q () s):wpAny M A (letOwnedTupleGo tg (.ref it) u) Q E s:=by
 unfold letOwnedTupleGo
 cases tg<;>first
  | exact wpAny_pure hQ
  | (cases u<;>first
    | exact wpAny_pure hQ
    | (refine wpAny_bind (wpAny_load ho ?_)
       rw [hc,hd]
       show wpAny M A (if (["enumerate","zip","dict_itemiterator","dict_reverseitemiterator","odict_iterator","itertools.zip_longest","itertools.pairwise"].contains n&&vs[0]? == some (rawInt _))=true then _ else _) Q E s
       rw [if_neg (by intro h;rw [hn,Bool.false_and] at h;cases h)]
       exact wpAny_pure hQ))
noncomputable def Itl (K:PySem.W.Frag) (a:Addr):It:=
 ⟨fun i H=>∃ xs x,SqL K H a xs∧xs[i]? =some x,fun i H x H'=>H'=H∧∀ xs,SqL K H a xs→xs[i]? =some x,fun i H=>∃ xs,SqL K H a xs∧xs.length≤i⟩
noncomputable def Itt (K:PySem.W.Frag) (a:Addr):It:=
 ⟨fun i H=>∃ xs x,SqT K H a xs∧xs[i]? =some x,fun i H x H'=>H'=H∧∀ xs,SqT K H a xs→xs[i]? =some x,fun i H=>∃ xs,SqT K H a xs∧xs.length≤i⟩
noncomputable def Itr (lo:Int) (n:Nat):It:=⟨fun i _=>i < n,fun i H x H'=>H'=H∧x= .int (lo + i),fun i _=>n≤i⟩
theorem DP {P:Program} {w:World} {K:PySem.W.Frag} {tg:Expr} (a it:Addr):Turn P w K tg (Itl K a) [it] it (fun i h=>h.IsListIter it a i) where
 mem:=by simp
 obj:=fun i h st b hb=>by
  have e:b=it:=by simpa using hb
  subst e
  obtain ⟨o,e,c,d⟩:=st
  exact ⟨o,e,fun v z=>by rw [d] at z;cases z⟩
 keep:=fun i h h' st k=>st.at fun o e=>k it (by simp) o e
 item:=by
  intro X hP hw hK hc i pins s σ H E I hf st hg
  subst hP hw hK
  obtain ⟨xs,x,hq,hx⟩:=hg
  obtain ⟨its,rv,p,hz⟩:=I.list hq
  obtain ⟨u,hu,ru⟩:=rv.get hx
  obtain ⟨f0,f1,f2,f3,f4,f5⟩:=hf it (by simp)
  refine wpAny_pyNext_list_item st p.isList (x:=u) (by simpa using hu) fun h' st' sb=>?_
  have I1:Inv X pins σ H {s with heap:=h'}:=I.turned (t':=s.toks) (fun b o hb e=>(sb.2 b hb).trans e) f0 f1 f3 f4 f5
  obtain ⟨o,e,c,d⟩:=id st'
  exact ⟨u,rfl,HP (s:={s with heap:=h'}) e c d (by decide) ⟨x,H,I1,ru,⟨rfl,fun ys hy=>by rw [I.list_inj hy hq];exact hx⟩,st',fun b hb=>(hf b hb).1⟩⟩
 done:=by
  intro X hP hw hK hc i pins s σ H E I hf st hg
  subst hP hw hK
  obtain ⟨xs,hq,hx⟩:=hg
  obtain ⟨its,rv,p,hz⟩:=I.list hq
  obtain ⟨f0,f1,f2,f3,f4,f5⟩:=hf it (by simp)
  have hl:=rv.length
  exact wpAny_pyNext_list_end (I.ok.hd hc) st p.isList (by simp;omega) fun h' eb=>⟨rfl,I.turned (t':=s.toks) (fun b o hb e=>eb b o hb e) f0 f1 f3 f4 f5⟩
 self:=fun _ _ _ _ _ st h=>wpAny_pyIter_listiter st h
theorem BE {P:Program} {w:World} {K:PySem.W.Frag} {tg:Expr} (a it:Addr):Turn P w K tg (Itt K a) [it] it (fun i h=>h.IsTupleIter it a i) where
 mem:=by simp
 obj:=fun i h st b hb=>by
  have e:b=it:=by simpa using hb
  subst e
  obtain ⟨o,e,c,d⟩:=st
  exact ⟨o,e,fun v z=>by rw [d] at z;cases z⟩
 keep:=fun i h h' st k=>st.at fun o e=>k it (by simp) o e
 item:=by
  intro X hP hw hK hc i pins s σ H E I hf st hg
  subst hP hw hK
  obtain ⟨xs,x,hq,hx⟩:=hg
  obtain ⟨its,rv,p,hz⟩:=I.tuple hq
  obtain ⟨u,hu,ru⟩:=rv.get hx
  obtain ⟨f0,f1,f2,f3,f4,f5⟩:=hf it (by simp)
  refine wpAny_pyNext_tuple_item st (show s.heap.IsTuple a its.toArray from p) (x:=u) (by simpa using hu) fun h' st' sb=>?_
  have I1:Inv X pins σ H {s with heap:=h'}:=I.turned (t':=s.toks) (fun b o hb e=>(sb.2 b hb).trans e) f0 f1 f3 f4 f5
  obtain ⟨o,e,c,d⟩:=id st'
  exact ⟨u,rfl,HP (s:={s with heap:=h'}) e c d (by decide) ⟨x,H,I1,ru,⟨rfl,fun ys hy=>by rw [I.tuple_inj hy hq];exact hx⟩,st',fun b hb=>(hf b hb).1⟩⟩
 done:=by
  intro X hP hw hK hc i pins s σ H E I hf st hg
  subst hP hw hK
  obtain ⟨xs,hq,hx⟩:=hg
  obtain ⟨its,rv,p,hz⟩:=I.tuple hq
  obtain ⟨f0,f1,f2,f3,f4,f5⟩:=hf it (by simp)
  have hl:=rv.length
  exact wpAny_pyNext_tuple_end (I.ok.hd hc) st (show s.heap.IsTuple a its.toArray from p) (by simp;omega) fun h' eb=>⟨rfl,I.turned (t':=s.toks) (fun b o hb e=>eb b o hb e) f0 f1 f3 f4 f5⟩
 self:=fun _ _ _ _ _ st h=>wpAny_pyIter_tupleiter st h
theorem BF {P:Program} {w:World} {K:PySem.W.Frag} {tg:Expr} (it:Addr) (lo:Int) (n:Nat):Turn P w K tg (Itr lo n) [it] it (fun i h=>IsRangeIter h it (lo + (i:Nat) * 1) ((n:Int) - (i:Nat)) 1) where
 mem:=by simp
 obj:=fun i h st b hb=>by
  have e:b=it:=by simpa using hb
  subst e
  exact ⟨_,st,fun v z=>by
   have z':Data.fields _=Data.cell v:=z
   cases z'⟩
 keep:=fun i h h' st k=>k it (by simp) _ st
 item:=by
  intro X hP hw hK hc i pins s σ H E I hf st hg
  subst hP hw hK
  obtain ⟨f0,f1,f2,f3,f4,f5⟩:=hf it (by simp)
  have W:=Walks.range (prog:=X.prog) (w:=X.w) (I.ok.hd hc) it lo 1 n
  refine W.item i s _ _ hg st fun v h' tk hv st' kk=>?_
  obtain ⟨t,rfl⟩:=hv
  have I1:Inv X pins σ H {s with heap:=h',toks:=tk}:=I.turned (fun b o hb e=>kk b o (by simpa using hb) e) f0 f1 f3 f4 f5
  refine ⟨_,rfl,HP (s:={s with heap:=h',toks:=tk}) (n:="range_iterator") st' rfl rfl (by decide) ⟨.int (lo + i),H,I1,⟨t,?_⟩,⟨rfl,rfl⟩,st',fun b hb=>(hf b hb).1⟩⟩
  rw [Int.mul_one]
 done:=by
  intro X hP hw hK hc i pins s σ H E I hf st hg
  subst hP hw hK
  obtain ⟨f0,f1,f2,f3,f4,f5⟩:=hf it (by simp)
  exact wpAny_pyNext_range_end (I.ok.hd hc) st (by have:n≤i:=hg;omega) fun h' eb=>⟨rfl,I.turned (t':=s.toks) (fun b o hb e=>eb b o hb e) f0 f1 f3 f4 f5⟩
 self:=fun _ _ _ _ _ st h=>wpAny_pyIter_rangeiter st h
section
variable {X:Cx} {tg:Expr}
noncomputable def Km (K:PySem.W.Frag) (tl:TE):TI:=fun σ H R=>tl σ H fun x H1=>∃ a,x= .ref a∧(∃ xs,SqL K H1 a xs)∧R (Itl K a) H1
noncomputable def iTup (K:PySem.W.Frag) (tl:TE):TI:=fun σ H R=>tl σ H fun x H1=>∃ a,x= .ref a∧(∃ xs,SqT K H1 a xs)∧R (Itt K a) H1
theorem JO {l:Expr} {tl:TE} (hl:PE X l tl):PI X tg l (Km X.K tl):=by
 intro pins s σ H R I h
 refine thn (hl pins s σ H _ I h) fun v s1 ⟨x,H1,I1,r1,q1⟩=>?_
 obtain ⟨a,e,⟨xs,hq⟩,q⟩:=q1
 subst e
 cases r1
 obtain ⟨its,rv,p,hz⟩:=I1.list hq
 refine wpAny_pyIter_list p.isList ?_
 refine ⟨s1.heap.objs.size,[s1.heap.objs.size],_,_,H1,rfl,I1.kept (t':=s1.toks) fun b o e=>Heap.get?_push_of_some _ e,DP a _,⟨_,Heap.get?_push_size _ rfl,rfl,rfl⟩,fun b hb=>?_,q⟩
 have e:b=s1.heap.objs.size:=by simpa using hb
 subst e
 exact I1.fpOk (Nat.le_refl _) (I1.hok.fresh (Nat.le_refl _))
theorem LZ {l:Expr} {tl:TE} (hl:PE X l tl):PI X tg l (iTup X.K tl):=by
 intro pins s σ H R I h
 refine thn (hl pins s σ H _ I h) fun v s1 ⟨x,H1,I1,r1,q1⟩=>?_
 obtain ⟨a,e,⟨xs,hq⟩,q⟩:=q1
 subst e
 cases r1
 obtain ⟨its,rv,p,hz⟩:=I1.tuple hq
 refine wpAny_pyIter_tuple (show s1.heap.IsTuple a its.toArray from p) ?_
 refine ⟨s1.heap.objs.size,[s1.heap.objs.size],_,_,H1,rfl,I1.kept (t':=s1.toks) fun b o e=>Heap.get?_push_of_some _ e,BE a _,⟨_,Heap.get?_push_size _ rfl,rfl,rfl⟩,fun b hb=>?_,q⟩
 have e:b=s1.heap.objs.size:=by simpa using hb
 subst e
 exact I1.fpOk (Nat.le_refl _) (I1.hok.fresh (Nat.le_refl _))
theorem AZ {pins:List (Addr×Obj)} {σ:St} {H:Hp} {s:Shared} {R:It→Hp→Prop} {E:Value→Shared→Prop} {lo hi:Int} {t u v:Tok} {tk:Nat} (I:Inv X pins σ H s) (h1: -(2 ^ 62)≤lo) (h2:lo < 2 ^ 62) (h3: -(2 ^ 62)≤hi) (h4:hi < 2 ^ 62)
  (q:R (Itr lo (hi - lo).toNat) H):wpAny (model X.prog X.w) X.A (pyIter (.ref s.heap.objs.size)) (PIE X pins σ tg R) E {s with heap:=s.heap.push {cls:= .type "range",data:= .fields #[.int lo t,.int hi u,.int 1 v]},toks:=tk}:=by
 refine wpAny_pyIter_range (IsRange.new ..) (small_one h1 h2 h3 h4) ?_
 have I1:Inv X pins σ H {s with heap:=s.heap.push {cls:= .type "range",data:= .fields #[.int lo t,.int hi u,.int 1 v]},toks:=tk}:=I.kept fun b o e=>Heap.get?_push_of_some _ e
 refine ⟨(s.heap.push {cls:= .type "range",data:= .fields #[.int lo t,.int hi u,.int 1 v]}).objs.size,[(s.heap.push {cls:= .type "range",data:= .fields #[.int lo t,.int hi u,.int 1 v]}).objs.size],_,_,H,rfl,
  I1.kept (t':=tk) fun b o e=>Heap.get?_push_of_some _ e,BF _ lo (hi - lo).toNat,?_,fun b hb=>?_,q⟩
 ·have e1:lo + ((0:Nat):Int) * 1=lo:=by simp
  have e2:(((hi - lo).toNat:Nat):Int) - ((0:Nat):Int)=Builtin.Range.rangeSize lo hi 1:=by rw [rangeSize_one];split<;>omega
  show IsRangeIter _ _ (lo + ((0:Nat):Int) * 1) ((((hi - lo).toNat:Nat):Int) - ((0:Nat):Int)) 1
  rw [e1,e2]
  exact Heap.get?_push_size _ rfl
 ·have e:b=(s.heap.push {cls:= .type "range",data:= .fields #[.int lo t,.int hi u,.int 1 v]}).objs.size:=by simpa using hb
  subst e
  exact I1.fpOk (Nat.le_refl _) (I1.hok.fresh (Nat.le_refl _))
noncomputable def MA (ta:TA):TI:=fun σ H R=>ta σ H fun vs H1=>∃ j:Int,vs=[.int j]∧-(2 ^ 62)≤j∧j < 2 ^ 62∧R (Itr 0 j.toNat) H1
noncomputable def Mz (ta:TA):TI:=fun σ H R=>ta σ H fun vs H1=>∃ i j:Int,vs=[.int i,.int j]∧(-(2 ^ 62)≤i∧i < 2 ^ 62∧-(2 ^ 62)≤j∧j < 2 ^ 62)∧R (Itr i (j - i).toNat) H1
theorem eQ {a:Expr} {ta:TA} {p pos:Pos} (hg:Gl X "range") (hm:X.mg "range"=none) (ha:PA X [a] ta) (hs:starEach [a] X.env=[(false,eval a X.env)]:=by rfl):PI X tg (.Call (.Name "range" p) [a] [] pos) (MA ta):=by
 intro pins s σ H R I h
 refine Call_ (oh I hg hm boot_range (PyProof.Rows.callWith_type1 (thn (ha pos pins s σ H _ I h) fun us s1 ⟨vs,H1,I1,r1,q1⟩=>?_) hs rfl))
 obtain ⟨j,e,q1,q2,q⟩:=q1
 subst e
 cases r1 with
 | cons r rr=>
   cases rr
   obtain ⟨t,rfl⟩:=r
   exact call_range_1 (AZ I1 (by omega) (by omega) q1 q2 (by simpa using q))
theorem ER {a b:Expr} {ta:TA} {p pos:Pos} (hg:Gl X "range") (hm:X.mg "range"=none) (ha:PA X [a,b] ta) (hs:starEach [a,b] X.env=[(false,eval a X.env),(false,eval b X.env)]:=by rfl) (hs2:starEach [b] X.env=[(false,eval b X.env)]:=by rfl):
  PI X tg (.Call (.Name "range" p) [a,b] [] pos) (Mz ta):=by
 intro pins s σ H R I h
 refine Call_ (oh I hg hm boot_range (PyProof.Rows.callWith_type1 (thn (ha pos pins s σ H _ I h) fun us s1 ⟨vs,H1,I1,r1,q1⟩=>?_) (by rw [hs,hs2]) (by rw [hs2];rfl)))
 obtain ⟨i,j,e,⟨q1,q2,q3,q4⟩,q⟩:=q1
 subst e
 cases r1 with
 | cons r rr=>
   cases rr with
   | cons r' rr=>
     cases rr
     obtain ⟨t,rfl⟩:=r
     obtain ⟨t',rfl⟩:=r'
     exact call_range_2 (AZ I1 q1 q2 q3 q4 q)
noncomputable def tFor (wi:TI) (g:TG) (tb:TS):TS:=fun D σ H=>wi σ H fun J H1=>∃ W:Nat→Nat→St→Hp→Prop,(∃ m,W 0 m σ H1)∧∀ i m σ H,W i m σ H→
 (J.stop i H∧D.nx σ H)∨(J.go i H∧∃ N:St→Hp→Prop,(∀ σ' H',N σ' H'→∃ m',m' < m∧W (i + 1) m' σ' H')∧∀ x H',J.yld i H x H'→g x σ H' fun σ2 H2=>tb {D with nx:=N,ct:=N,bk:=D.nx} σ2 H2)
noncomputable def xA (fp:List Addr) (h:Heap):List (Addr×Obj):=fp.filterMap fun b=>(h.get? b).map fun o=>(b,o)
theorem jL {fp:List Addr} {h:Heap} {b:Addr} {o:Obj} (hb:b∈fp) (e:h.get? b=some o):(b,o)∈xA fp h:=List.mem_filterMap.mpr ⟨b,hb,by rw [e];rfl⟩
theorem EX {fp:List Addr} {h:Heap} {p:Addr×Obj} (hp:p∈xA fp h):p.1∈fp∧h.get? p.1=some p.2:=by
 obtain ⟨b,hb,e⟩:=List.mem_filterMap.mp hp
 cases q:h.get? b with
 | none=>rw [q] at e;cases e
 | some o=>
   rw [q] at e
   have e':(b,o)=p:=Option.some.inj e
   subst e'
   exact ⟨hb,q⟩
theorem Inv.pinned {pins:List (Addr×Obj)} {σ:St} {H:Hp} {s:Shared} {fp:List Addr} (I:Inv X pins σ H s) (hf:∀ b∈fp,FpOk X pins H b) (ho:∀ b∈fp,∃ o,s.heap.get? b=some o∧∀ v,o.data≠.cell v):Inv X (pins++xA fp s.heap) σ H s:=
 I.pins_of fun p hp=>(List.mem_append.mp hp).elim (fun z=>I.pin p (List.mem_append_right _ z)) fun z=>by
  obtain ⟨hb,e⟩:=EX z
  obtain ⟨f0,f1,f2,_⟩:=hf p.1 hb
  obtain ⟨o,e',d⟩:=ho p.1 hb
  rw [e] at e';cases e'
  exact ⟨e,f0,f1,f2,d⟩
theorem Inv.unpinned {pins pl:List (Addr×Obj)} {σ:St} {H:Hp} {s:Shared} (I:Inv X (pins++pl) σ H s):Inv X pins σ H s:=I.pins_of fun p hp=>I.pin p (List.mem_append_right _ (List.mem_append_left _ hp))
theorem eP {iter:Expr} {body:List Stmt} {wi:TI} {g:TG} {tb:TS} {pos:Pos} (hp:PassesOwn (model X.prog X.w) X.A X.env X.xe) (hc:X.calm=true) (hi:PI X tg iter wi) (hg:PG X tg g) (hb:PSs X body tb)
  (hs:∀ x,foldedSetIterable iter X.env x=pure x:=by intro _;rfl):PS X (.For tg iter body [] pos) (tFor wi g tb):=by
 intro pins s σ H D I h
 refine wpAny_For (thn (hi pins s σ H _ I h) fun v s1 h1=>thn h1 fun itv s2 h2=>?_) hs
 obtain ⟨it,fp,tn,J,H2,e,I2,T,st2,f2,W,⟨m0,w0⟩,turn⟩:=h2
 subst e
 have stat:∀ {H':Hp},(∀ b∈fp,H' b=none)→∀ b∈fp,FpOk X pins H' b:=fun hn b hb=>⟨hn b hb,(f2 b hb).2⟩
 refine codeAny_forLoop_any (fun n s'=>∃ i σ' H',Inv X pins σ' H' s'∧tn i s'.heap∧(∀ b∈fp,H' b=none)∧W i n σ' H') ?_ m0 ⟨0,σ,H2,I2,st2,fun b hb=>(f2 b hb).1,w0⟩
 rintro n s3 ⟨i,σ3,H3,I3,st3,fr3,w3⟩
 rcases turn i n σ3 H3 w3 with ⟨stop,qn⟩ | ⟨go,N,hN,step⟩
 ·refine wpAny_passesOwn hp (thn (T.done X rfl rfl rfl hc i pins s3 σ3 H3 X.xe I3 (stat fr3) st3 stop) fun r s4 ⟨hr,I4⟩=>?_)
  subst hr
  exact wpAny_execs_nil ⟨σ3,H3,I4,qn⟩
 ·refine wpAny_passesOwn hp (thn (T.item X rfl rfl rfl hc i pins s3 σ3 H3 X.xe I3 (stat fr3) st3 go) fun r s4 ⟨u,hr,h4⟩=>?_)
  subst hr
  refine wpAny_passesOwn hp (thn h4 fun _ s5 ⟨x,H5,I5,r5,y5,st5,fr5⟩=>?_)
  have I5':=I5.pinned (stat fr5) (T.obj _ _ st5)
  refine wpAny_passesOwn hp (thn (hg _ s5 σ3 H5 x u _ I5' r5 (step x H5 y5)) fun _ s6 ⟨σ6,H6,I6,q6⟩=>?_)
  refine wpAny_passesOwn hp (thn (hb _ s6 σ6 H6 _ I6 q6) fun f s7 q7=>?_)
  have again:∀ {σ7:St} {H7:Hp},Inv X (pins++xA fp s5.heap) σ7 H7 s7→N σ7 H7→∃ m,m < n∧∃ i σ' H',Inv X pins σ' H' s7∧tn i s7.heap∧(∀ b∈fp,H' b=none)∧W i m σ' H':=fun {σ7 H7} I7 n7=>by
   obtain ⟨m',hm,w7⟩:=hN σ7 H7 n7
   refine ⟨m',hm,i + 1,σ7,H7,I7.unpinned,T.keep _ _ _ st5 fun b hb o e=>(I7.pin (b,o) (List.mem_append_right _ (List.mem_append_right _ (jL hb e)))).1,fun b hb=>?_,w7⟩
   obtain ⟨o,e,d⟩:=T.obj _ _ st5 b hb
   exact (I7.pin (b,o) (List.mem_append_right _ (List.mem_append_right _ (jL hb e)))).2.1
  cases f with
  | next=>obtain ⟨σ7,H7,I7,n7⟩:=q7;exact again I7 n7
  | cont=>obtain ⟨σ7,H7,I7,n7⟩:=q7;exact again I7 n7
  | brk=>obtain ⟨σ7,H7,I7,q7⟩:=q7;exact ⟨σ7,H7,I7.unpinned,q7⟩
  | ret v=>obtain ⟨x7,σ7,H7,I7,r7,q7⟩:=q7;exact ⟨x7,σ7,H7,I7.unpinned,r7,q7⟩
end
theorem iy {K:PySem.W.Frag} {a:Addr} {xs:List V} {g:TG} {tb:TS} {D:Ends} {σ:St} {H:Hp} (Pv:Nat→St→Hp→Prop) (h0:Pv 0 σ H) (hl:∀ i σ H,i≤xs.length→Pv i σ H→SqL K H a xs)
  (hs:∀ i x σ H,xs[i]? =some x→Pv i σ H→g x σ H fun σ2 H2=>tb {D with nx:=Pv (i + 1),ct:=Pv (i + 1),bk:=D.nx} σ2 H2) (hd:∀ σ H,Pv xs.length σ H→D.nx σ H):
  ∃ W:Nat→Nat→St→Hp→Prop,(∃ m,W 0 m σ H)∧∀ i m σ H,W i m σ H→
    ((Itl K a).stop i H∧D.nx σ H)∨((Itl K a).go i H∧∃ N:St→Hp→Prop,(∀ σ' H',N σ' H'→∃ m',m' < m∧W (i + 1) m' σ' H')∧∀ x H',(Itl K a).yld i H x H'→g x σ H' fun σ2 H2=>tb {D with nx:=N,ct:=N,bk:=D.nx} σ2 H2):=by
 refine ⟨fun i m σ H=>m=xs.length - i∧i≤xs.length∧Pv i σ H,⟨xs.length,by simp,Nat.zero_le _,h0⟩,?_⟩
 rintro i m σ H ⟨rfl,hi,p⟩
 have q:=hl i σ H hi p
 by_cases hlt:i < xs.length
 ·refine .inr ⟨⟨xs,xs[i],q,by simp [hlt]⟩,Pv (i + 1),fun σ' H' p'=>⟨xs.length - (i + 1),by omega,rfl,hlt,p'⟩,fun x H' y=>?_⟩
  obtain ⟨e,y⟩:=y
  subst e
  exact hs i x σ _ (y xs q) p
 ·have e:i=xs.length:=by omega
  subst e
  exact .inl ⟨⟨xs,q,Nat.le_refl _⟩,hd σ H p⟩
theorem v0 {K:PySem.W.Frag} {a:Addr} {xs:List V} {g:TG} {tb:TS} {D:Ends} {σ:St} {H:Hp} (Pv:Nat→St→Hp→Prop) (h0:Pv 0 σ H) (hl:∀ i σ H,i≤xs.length→Pv i σ H→SqT K H a xs)
  (hs:∀ i x σ H,xs[i]? =some x→Pv i σ H→g x σ H fun σ2 H2=>tb {D with nx:=Pv (i + 1),ct:=Pv (i + 1),bk:=D.nx} σ2 H2) (hd:∀ σ H,Pv xs.length σ H→D.nx σ H):
  ∃ W:Nat→Nat→St→Hp→Prop,(∃ m,W 0 m σ H)∧∀ i m σ H,W i m σ H→
    ((Itt K a).stop i H∧D.nx σ H)∨((Itt K a).go i H∧∃ N:St→Hp→Prop,(∀ σ' H',N σ' H'→∃ m',m' < m∧W (i + 1) m' σ' H')∧∀ x H',(Itt K a).yld i H x H'→g x σ H' fun σ2 H2=>tb {D with nx:=N,ct:=N,bk:=D.nx} σ2 H2):=by
 refine ⟨fun i m σ H=>m=xs.length - i∧i≤xs.length∧Pv i σ H,⟨xs.length,by simp,Nat.zero_le _,h0⟩,?_⟩
 rintro i m σ H ⟨rfl,hi,p⟩
 have q:=hl i σ H hi p
 by_cases hlt:i < xs.length
 ·refine .inr ⟨⟨xs,xs[i],q,by simp [hlt]⟩,Pv (i + 1),fun σ' H' p'=>⟨xs.length - (i + 1),by omega,rfl,hlt,p'⟩,fun x H' y=>?_⟩
  obtain ⟨e,y⟩:=y
  subst e
  exact hs i x σ _ (y xs q) p
 ·have e:i=xs.length:=by omega
  subst e
  exact .inl ⟨⟨xs,q,Nat.le_refl _⟩,hd σ H p⟩
theorem rc {lo:Int} {n:Nat} {g:TG} {tb:TS} {D:Ends} {σ:St} {H:Hp} (Pv:Nat→St→Hp→Prop) (h0:Pv 0 σ H)
  (hs:∀ i σ H,i < n→Pv i σ H→g (.int (lo + i)) σ H fun σ2 H2=>tb {D with nx:=Pv (i + 1),ct:=Pv (i + 1),bk:=D.nx} σ2 H2) (hd:∀ σ H,Pv n σ H→D.nx σ H):
  ∃ W:Nat→Nat→St→Hp→Prop,(∃ m,W 0 m σ H)∧∀ i m σ H,W i m σ H→
    ((Itr lo n).stop i H∧D.nx σ H)∨((Itr lo n).go i H∧∃ N:St→Hp→Prop,(∀ σ' H',N σ' H'→∃ m',m' < m∧W (i + 1) m' σ' H')∧∀ x H',(Itr lo n).yld i H x H'→g x σ H' fun σ2 H2=>tb {D with nx:=N,ct:=N,bk:=D.nx} σ2 H2):=by
 refine ⟨fun i m σ H=>m=n - i∧i≤n∧Pv i σ H,⟨n,by simp,Nat.zero_le _,h0⟩,?_⟩
 rintro i m σ H ⟨rfl,hi,p⟩
 by_cases hlt:i < n
 ·refine .inr ⟨hlt,Pv (i + 1),fun σ' H' p'=>⟨n - (i + 1),by omega,rfl,hlt,p'⟩,fun x H' y=>?_⟩
  obtain ⟨e,y⟩:=y
  subst e y
  exact hs i σ _ hlt p
 ·have e:i=n:=by omega
  subst e
  exact .inl ⟨Nat.le_refl _,hd σ H p⟩
noncomputable abbrev R2:=V→V→Hp→VK→Prop
noncomputable def OpR (X:Cx) (f:Value→Value→Sem Value) (r:R2):Prop:=
 ∀ (pins:List (Addr×Obj)) (s:Shared) (σ:St) (H:Hp) (x y:V) (v u:Value) (Q:VK),Inv X pins σ H s→RelV x v→RelV y u→r x y H Q→
  wpAny (model X.prog X.w) X.A (f v u) (EP X pins σ Q) X.xe s
noncomputable def i6 (X:Cx) (f:Value) (r:List V→Hp→VK→Prop):Prop:=
 ∀ (pins:List (Addr×Obj)) (s:Shared) (σ:St) (H:Hp) (xs:List V) (us:List Value) (Q:VK),Inv X pins σ H s→Vals xs us→r xs H Q→
  wpAny (model X.prog X.w) X.A (call f us) (EP X pins σ Q) X.xe s
noncomputable def tOp (r:R2) (ta tb:TE):TE:=fun σ H Q=>ta σ H fun x H1=>tb σ H1 fun y H2=>r x y H2 Q
noncomputable def rI (C:Int→Int→Prop) (g:Int→Int→V):R2:=fun x y H Q=>∃ i j,x= .int i∧y= .int j∧C i j∧Q (g i j) H
noncomputable def rI0 (g:Int→Int→V):R2:=fun x y H Q=>∃ i j,x= .int i∧y= .int j∧Q (g i j) H
section
variable {X:Cx} {a b c:Expr} {ta tb tc:TE} {pos:Pos}
theorem binT (ha:PE X a ta) (hb:PE X b tb) {pins:List (Addr×Obj)} {s:Shared} {σ:St} {H:Hp} {R:V→V→Hp→Prop} (I:Inv X pins σ H s)
  (h:ta σ H fun x H1=>tb σ H1 fun y H2=>R x y H2) {Q:Value→Shared→Prop} {f:Value→Value→Sem Value}
  (hf:∀ v u s2 x y H2,Inv X pins σ H2 s2→RelV x v→RelV y u→R x y H2→wpAny (model X.prog X.w) X.A (f v u) Q X.xe s2):
  wpAny (model X.prog X.w) X.A (eval a X.env) (fun v s₁=>wpAny (model X.prog X.w) X.A (eval b X.env) (fun u s₂=>wpAny (model X.prog X.w) X.A (f v u) Q X.xe s₂) X.xe s₁) X.xe s:=by
 refine thn (ha pins s σ H _ I h) fun v s1 ⟨x,H1,I1,r1,q1⟩=>?_
 refine thn (hb pins s1 σ H1 _ I1 q1) fun u s2 ⟨y,H2,I2,r2,q2⟩=>?_
 exact hf v u s2 x y H2 I2 r1 r2 q2
theorem aC {op:Operator} {r:R2} (ho:OpR X (binaryOp op) r) (ha:PE X a ta) (hb:PE X b tb):PE X (.BinOp a op b pos) (tOp r ta tb):=by
 intro pins s σ H Q I h
 exact wpAny_BinOp (binT ha hb I h fun v u s2 x y H2 I2 rx ry q=>ho pins s2 σ H2 x y v u Q I2 rx ry q)
theorem opI {f:Value→Value→Sem Value} {C:Int→Int→Prop} {g:Int→Int→Int}
  (rule:∀ (i j:Int) (t u:Tok) (s:Shared) (Q:Value→Shared→Prop) (E:Value→Shared→Prop),C i j→Q (.int (g i j) s.toks) {s with toks:=s.toks + 1}→wpAny (model X.prog X.w) X.A (f (.int i t) (.int j u)) Q E s):
  OpR X f (rI C fun i j=> .int (g i j)):=by
 intro pins s σ H x y v u Q I rx ry h
 obtain ⟨i,j,rfl,rfl,hc,q⟩:=h
 obtain ⟨t,rfl⟩:=rx
 obtain ⟨t',rfl⟩:=ry
 exact rule i j t t' s _ _ hc ⟨.int (g i j),H,I.tok _,⟨_,rfl⟩,q⟩
theorem opI0 {f:Value→Value→Sem Value} {g:Int→Int→Int}
  (rule:∀ (i j:Int) (t u:Tok) (s:Shared) (Q:Value→Shared→Prop) (E:Value→Shared→Prop),Q (.int (g i j) s.toks) {s with toks:=s.toks + 1}→wpAny (model X.prog X.w) X.A (f (.int i t) (.int j u)) Q E s):
  OpR X f (rI0 fun i j=> .int (g i j)):=by
 intro pins s σ H x y v u Q I rx ry h
 obtain ⟨i,j,rfl,rfl,q⟩:=h
 obtain ⟨t,rfl⟩:=rx
 obtain ⟨t',rfl⟩:=ry
 exact rule i j t t' s _ _ ⟨.int (g i j),H,I.tok _,⟨_,rfl⟩,q⟩
theorem opB0 {f:Value→Value→Sem Value} {g:Int→Int→Bool}
  (rule:∀ (i j:Int) (t u:Tok) (s:Shared) (Q:Value→Shared→Prop) (E:Value→Shared→Prop),Q (.bool (g i j)) s→wpAny (model X.prog X.w) X.A (f (.int i t) (.int j u)) Q E s):
  OpR X f (rI0 fun i j=> .bl (g i j)):=by
 intro pins s σ H x y v u Q I rx ry h
 obtain ⟨i,j,rfl,rfl,q⟩:=h
 obtain ⟨t,rfl⟩:=rx
 obtain ⟨t',rfl⟩:=ry
 exact rule i j t t' s _ _ ⟨.bl (g i j),H,I,rfl,q⟩
noncomputable def CDiv (i j:Int):Prop:=0 < j∧j < 1073741824
noncomputable def NR (i j:Int):Prop:=j≠0∧j.natAbs < 1073741824
noncomputable def CPow (i j:Int):Prop:=0≤j∧j≤1000000∧i.natAbs < 2 ^ 64
noncomputable def CMul (i j:Int):Prop:=(-(2 ^ 64) < i∧i < 2 ^ 64)∨(-(2 ^ 64) < j∧j < 2 ^ 64)
theorem CMul.ok {i j:Int} (h:CMul i j):IntMulOk i j:=by
 rcases h with ⟨h1,h2⟩ | ⟨h1,h2⟩
 ·exact .of_left (intBits_le_64 h1 h2)
 ·exact .of_right (intBits_le_64 h1 h2)
theorem cx:OpR X (binaryOp .Add) (rI0 fun i j=> .int (i + j)):=opI0 fun _ _ _ _ _ _ _ q=>add_int q
theorem A7:OpR X (binaryOp .Sub) (rI0 fun i j=> .int (i - j)):=opI0 fun _ _ _ _ _ _ _ q=>sub_int q
theorem oa:OpR X (binaryOp .Mult) (rI CMul fun i j=> .int (i * j)):=opI fun _ _ _ _ _ _ _ hc q=>mul_int q hc.ok
theorem EW:OpR X (binaryOp .FloorDiv) (rI CDiv fun i j=> .int (i / j)):=opI fun i j _ _ _ _ _ hc q=>by
 have h1:(0:Int) < j:=hc.1
 have h2:j < 1073741824:=hc.2
 exact floordiv_int (by omega) (by rw [Int.fdiv_eq_ediv_of_nonneg i (by omega)];exact q) (.inl (PyProof.noPylong_small (by omega)))
theorem cf:OpR X (binaryOp .Mod) (rI (fun _ j=>0 < j) fun i j=> .int (i % j)):=opI fun i j _ _ _ _ _ hc q=>by
 have h1:(0:Int) < j:=hc
 exact mod_int' (by omega) (by rw [Int.fmod_eq_emod_of_nonneg i (by omega)];exact q)
theorem Me:OpR X (binaryOp .Pow) (rI CPow fun i j=> .int (i ^ j.toNat)):=opI fun _ _ _ _ _ _ _ hc q=>pow_int_small hc.1 hc.2.1 hc.2.2 q
end
noncomputable def scal:V→V→Bool
 | .non,.non=>true | .non,.int _=>true | .int _,.non=>true | .non,.bl _=>true | .bl _,.non=>true | .non,.str _=>true | .str _,.non=>true
 | .int _,.int _=>true | .bl _,.bl _=>true | .str _,.str _=>true | .byt _,.byt _=>true
 | .int _,.str _=>true | .str _,.int _=>true | .bl _,.str _=>true | .str _,.bl _=>true
 | _,_=>false
noncomputable def rEq:R2:=fun x y H Q=>scal x y=true∧Q (.bl (decide (x=y))) H
theorem Ku {i j:Int}:decide (V.int i=V.int j)=(i == j):=by
 rw [Bool.eq_iff_iff]
 simp
theorem ML {i j:Bool}:decide (V.bl i=V.bl j)=(i == j):=by
 rw [Bool.eq_iff_iff]
 simp
theorem Kt {i j:Str}:decide (V.str i=V.str j)=(i == j):=by
 rw [Bool.eq_iff_iff]
 simp
theorem Kv {i j:Array UInt8}:decide (V.byt i=V.byt j)=(i.toList == j.toList):=by
 rw [Bool.eq_iff_iff]
 cases i
 cases j
 simp
section
variable {X:Cx} {a b c:Expr} {ta tb tc:TE} {pos:Pos}
theorem fw {pins:List (Addr×Obj)} {σ:St} {H:Hp} {s:Shared} {Q:VK} {k k':Bool} (I:Inv X pins σ H s) (q:Q (.bl k) H) (e:k=k'):EP X pins σ Q (.bool k') s:=by
 subst e
 exact ⟨.bl k,H,I,rfl,q⟩
theorem xF:OpR X (compareOp .Eq) rEq:=by
 intro pins s σ H x y v u Q I rx ry h
 obtain ⟨hs,q⟩:=h
 cases x with
 | non=>
   cases rx
   cases y with
   | non=>cases ry;exact PySem.EqNone.eq_none_none (fw I q (by simp))
   | bl j=>cases ry;exact PySem.EqNone.eq_none_bool (fw I q (by simp))
   | int j=>obtain ⟨t',rfl⟩:=ry;exact PySem.EqNone.eq_none_int (fw I q (by simp))
   | str j=>obtain ⟨t',rfl⟩:=ry;exact PySem.EqNone.eq_none_str (fw I q (by simp))
   | _=>exact absurd (show false=true from hs) Bool.false_ne_true
 | bl i=>
   cases rx
   cases y with
   | non=>cases ry;exact PySem.EqNone.eq_bool_none (fw I q (by simp))
   | bl j=>cases ry;exact eq_bool (fw I q ML)
   | str j=>obtain ⟨t',rfl⟩:=ry;exact PySem.EqMixed.eq_bool_str (fw I q (by simp))
   | _=>exact absurd (show false=true from hs) Bool.false_ne_true
 | int i=>
   obtain ⟨t,rfl⟩:=rx
   cases y with
   | non=>cases ry;exact PySem.EqNone.eq_int_none (fw I q (by simp))
   | int j=>obtain ⟨t',rfl⟩:=ry;exact eq_int (fw I q Ku)
   | str j=>obtain ⟨t',rfl⟩:=ry;exact PySem.EqMixed.eq_int_str (fw I q (by simp))
   | _=>exact absurd (show false=true from hs) Bool.false_ne_true
 | str i=>
   obtain ⟨t,rfl⟩:=rx
   cases y with
   | non=>cases ry;exact PySem.EqNone.eq_str_none (fw I q (by simp))
   | bl j=>cases ry;exact PySem.EqMixed.eq_str_bool (fw I q (by simp))
   | int j=>obtain ⟨t',rfl⟩:=ry;exact PySem.EqMixed.eq_str_int (fw I q (by simp))
   | str j=>obtain ⟨t',rfl⟩:=ry;exact eq_str (fw I q Kt)
   | _=>exact absurd (show false=true from hs) Bool.false_ne_true
 | byt i=>
   obtain ⟨t,rfl⟩:=rx
   cases y with
   | byt j=>obtain ⟨t',rfl⟩:=ry;exact PySem.W.eq_bytes (fw I q Kv)
   | _=>exact absurd (show false=true from hs) Bool.false_ne_true
 | _=>cases y<;>exact absurd (show false=true from hs) Bool.false_ne_true
theorem JR:OpR X (compareOp .Lt) (rI0 fun i j=> .bl (decide (i < j))):=opB0 fun _ _ _ _ _ _ _ q=>lt_int q
theorem xE:OpR X (compareOp .Gt) (rI0 fun i j=> .bl (decide (j < i))):=opB0 fun _ _ _ _ _ _ _ q=>gt_int q
theorem NF:OpR X (compareOp .GtE) (rI0 fun i j=> .bl (decide (j≤i))):=opB0 fun _ _ _ _ _ _ _ q=>ge_int q
theorem xD:OpR X (compareOp .In) (fun x y H Q=>∃ i j,x= .str i∧y= .str j∧Q (.bl (!(Builtin.Str.occurrences j i 0 j.length 1).isEmpty)) H):=by
 intro pins s σ H x y v u Q I rx ry h
 obtain ⟨i,j,rfl,rfl,q⟩:=h
 obtain ⟨t,rfl⟩:=rx
 obtain ⟨t',rfl⟩:=ry
 exact in_str (fw I q rfl)
theorem bV (b:Expr) {op:CmpOp} (h:op≠.In:=by decide) (h2:op≠.NotIn:=by decide):behindInMarks op b=false:=by
 have e1:(op == CmpOp.In)=false:=by cases op<;>first | rfl | exact absurd rfl h
 have e2:(op == CmpOp.NotIn)=false:=by cases op<;>first | rfl | exact absurd rfl h2
 cases b<;>simp [behindInMarks,e1,e2]
theorem p9 {op:CmpOp} {r:R2} (ho:OpR X (compareOp op) r) (ha:PE X a ta) (hb:PE X b tb) (hm:behindInMarks op b=false):PE X (.Compare a [op] [b] pos) (tOp r ta tb):=by
 intro pins s σ H Q I h
 exact wpAny_Compare1 (binT ha hb I h fun v u s2 x y H2 I2 rx ry q=>ho pins s2 σ H2 x y v u Q I2 rx ry q) hm
noncomputable def KZ (t:TE):TT:=fun σ H Q=>t σ H fun x H'=>∃ k,x= .bl k∧Q k H'
theorem bw {op:CmpOp} {r:R2} (ho:OpR X (compareOp op) r) (ha:PE X a ta) (hb:PE X b tb) (hm:behindInMarks op b=false):PT X (.Compare a [op] [b] pos) (KZ (tOp r ta tb)):=by
 intro pins s σ H Q I h
 refine wpAny_isTrue_Compare1 (thn (ha pins s σ H _ I h) fun v s1 ⟨x,H1,I1,r1,q1⟩=>thn (hb pins s1 σ H1 _ I1 q1) fun u s2 ⟨y,H2,I2,r2,q2⟩=>
  thn (ho pins s2 σ H2 x y v u _ I2 r1 r2 q2) fun c s3 ⟨z,H3,I3,r3,k,e,q3⟩=>?_) hm
 subst e
 cases r3
 exact wpAny_truthy_bool ⟨H3,I3,q3⟩
theorem ya:(sizeLine:Nat) < 2 ^ 63:=by rw [sizeLine_eq];decide
theorem dy:OpR X (binaryOp .Add) (fun x y H Q=>∃ i j,x= .str i∧y= .str j∧i.length + j.length≤sizeLine∧Q (.str (i++j)) H):=by
 intro pins s σ H x y v u Q I rx ry h
 obtain ⟨i,j,rfl,rfl,hz,q⟩:=h
 obtain ⟨t,rfl⟩:=rx
 obtain ⟨t',rfl⟩:=ry
 exact add_str (fun t' tk=>⟨.str (i++j),H,I.tok _,⟨_,rfl⟩,q⟩) hz
theorem rU {x:V} {us:List Value} (r:Vals [x] us):∃ u,us=[u]∧RelV x u:=by
 cases r with
 | cons r1 r2=>cases r2;exact ⟨_,rfl,r1⟩
theorem GB {x y:V} {us:List Value} (r:Vals [x,y] us):∃ u w',us=[u,w']∧RelV x u∧RelV y w':=by
 cases r with
 | cons r1 r2=>
   cases r2 with
   | cons r3 r4=>cases r4;exact ⟨_,_,rfl,r1,r3⟩
theorem FW (hc:X.calm=true):i6 X (.builtin "max") (fun xs H Q=>∃ i j,xs=[.int i,.int j]∧Q (.int (if j > i then j else i)) H):=by
 intro pins s σ H xs us Q I r h
 obtain ⟨i,j,rfl,q⟩:=h
 obtain ⟨u,w',rfl,⟨t,rfl⟩,⟨t',rfl⟩⟩:=GB r
 refine max_two_ints (I.ok.hd hc) fun h' tk k=>⟨_,H,I.kept k,?_,q⟩
 by_cases hj:j > i
 ·rw [if_pos hj,if_pos hj];exact ⟨_,rfl⟩
 ·rw [if_neg hj,if_neg hj];exact ⟨_,rfl⟩
theorem gL:i6 X (.type "str") (fun xs H Q=>∃ i,xs=[.int i]∧i.natAbs.log2 < 1920∧Q (.str (toString i)) H):=by
 intro pins s σ H xs us Q I r h
 obtain ⟨i,rfl,hz,q⟩:=h
 obtain ⟨u,rfl,t,rfl⟩:=rU r
 exact PySem.P.str_of_int hz ⟨.str _,H,I.tok _,⟨_,rfl⟩,q⟩
noncomputable def LenV (K:PySem.W.Frag) (x:V) (H:Hp) (n:Nat):Prop:=
 match x with
 | .str y=>y.length≤sizeLine∧n=y.length
 | .byt y=>y.size≤sizeLine∧n=y.size
 | .ref p=>(∃ xs,SqL K H p xs∧n=xs.length)∨∃ xs,SqT K H p xs∧n=xs.length
 | _=>False
theorem Ic:i6 X (.builtin "len") (fun xs H Q=>∃ x n,xs=[x]∧LenV X.K x H n∧Q (.int n) H):=by
 intro pins s σ H xs us Q I r h
 obtain ⟨x,n,rfl,e,q⟩:=h
 obtain ⟨u,rfl,rx⟩:=rU r
 have hl:=ya
 have hs:sizeLine=16777216:=sizeLine_eq
 cases x with
 | str y=>
   obtain ⟨t,rfl⟩:=rx
   obtain ⟨hy,e'⟩:y.length≤sizeLine∧n=y.length:=e
   subst e'
   exact len_str (by omega) ⟨.int _,H,I.tok _,⟨_,rfl⟩,q⟩
 | byt y=>
   obtain ⟨t,rfl⟩:=rx
   obtain ⟨hy,e'⟩:y.size≤sizeLine∧n=y.size:=e
   subst e'
   exact PySem.W.len_bytes (by omega) ⟨.int _,H,I.tok _,⟨_,rfl⟩,q⟩
 | ref p=>
   cases rx
   have e':(∃ xs,SqL X.K H p xs∧n=xs.length)∨∃ xs,SqT X.K H p xs∧n=xs.length:=e
   rcases e' with ⟨xs,hx,e'⟩ | ⟨xs,hx,e'⟩
   ·subst e'
    obtain ⟨its,r',pl,hz⟩:=I.list hx
    have hlen:=r'.length
    exact Calls.call_len_list pl.isList (by simp only [List.size_toArray];omega) ⟨.int xs.length,H,I.tok _,⟨_,by simp only [List.size_toArray];rw [hlen]⟩,q⟩
   ·subst e'
    obtain ⟨its,r',pl,hz⟩:=I.tuple hx
    have hlen:=r'.length
    exact len_tuple pl (by simp only [List.size_toArray];omega) ⟨.int xs.length,H,I.tok _,⟨_,by simp only [List.size_toArray];rw [hlen]⟩,q⟩
 | _=>exact (show False from e).elim
end
structure ObjM (h:Heap) (x dx C:Addr) (mA:Str→Option Value):Prop where
 obj:h.get? x=some (PySem.W.instObj C dx)
 ns:h.Ns1 dx mA
 ne:dx≠x
theorem x9 {h:Heap} {dx:Addr} {mA:Str→Option Value} (n:h.Ns1 dx mA):∃ od,h.get? dx=some od∧∀ name,PySem.W.lookIn name od=some (mA name):=by
 obtain ⟨o,es,ep,ho,hd,hk,_,hm⟩:=n
 refine ⟨o,ho,fun name=>?_⟩
 have e:=hm name
 unfold nsFind findBy at e
 rw [← Array.find?_toList] at e
 unfold PySem.W.lookIn
 rw [hd]
 dsimp only
 split
 ·rename_i y q
  rw [q] at e
  exact congrArg some e
 ·rename_i q
  rw [q] at e
  have a:es.toList.any (·.refKey)=false:=by
   rw [List.any_eq_false]
   intro y hy
   obtain ⟨z,t,hkey⟩:=hk y (Array.mem_toList_iff.mp hy)
   simp [DictEntry.refKey,hkey]
  have a':¬ es.toList.any (·.refKey)=true:=by rw [a];exact Bool.false_ne_true
  rw [if_neg a']
  exact congrArg some e
theorem ObjM.look {h:Heap} {x dx C:Addr} {mA:Str→Option Value} (I:ObjM h x dx C mA):∃ od,PySem.W.InstAt h x (PySem.W.instObj C dx) C (some od)∧∀ name,PySem.W.lookIn name od=some (mA name):=
 let ⟨od,ho,hl⟩:=x9 I.ns
 ⟨od,⟨I.obj,rfl,rfl,ho⟩,hl⟩
section
variable {prog:Program} {w:World} {A:Around} {E:Value→Shared→Prop} {s:Shared} {K:PySem.W.Frag} {x dx C f:Addr} {mA:Str→Option Value} {name:Str} {v:Value}
theorem aX {expr:Bool} {Q:Value→Shared→Prop} (X:K.In s.heap) (I:ObjM s.heap x dx C mA) (hg:PySem.W.plainGet K C name=true) (hh:PySem.W.hasDictIn K C=true)
  (ha:PySem.W.findIn K (.ref C) name=some none) (hv:mA name=some v) (hv':PySem.W.handedIn v=true) (h:Q v {s with toks:=s.toks + 1}):
  wpAny (model prog w) A (getAttr (.ref x) name expr) Q E s:=by
 obtain ⟨od,J,hl⟩:=I.look
 exact PySem.W.get_value X J (PySem.W.plainGet_of hg).1 (PySem.W.findObj_own hh ha rfl (by rw [hl,hv])) hv' h
theorem HQ {pl:Sem Bool} {Q:Value×List Value→Shared→Prop} (X:K.In s.heap) (I:ObjM s.heap x dx C mA) (hg:PySem.W.plainGet K C name=true)
  (hf:PySem.W.findIn K (.ref C) name=some (some (.ref f))) (ht:PySem.W.isFn K (.ref f)=true) (hv:mA name=none) (h:Q (.ref f,[.ref x]) s):
  wpAny (model prog w) A (getMethod (.ref x) name pl) Q E s:=by
 obtain ⟨od,J,hl⟩:=I.look
 exact PySem.W.method_fn X J (PySem.W.plainGet_of hg).1 (PySem.W.plainGet_of hg).2 hf (beq_iff_eq.mp ht) (by show (PySem.W.lookIn name od).map (·.isSome)=some false;rw [hl,hv];rfl) h
theorem Jq {ns:List Str} {Q:Unit→Shared→Prop} (X:K.In s.heap) (I:ObjM s.heap x dx C mA)
  (hs:PySem.W.findIn K (.ref C) "__setattr__"=some (some (.builtin "object.__setattr__"))) (hp:PySem.W.plainOver K C=true) (ht:PySem.W.takerIn K C name=some none) (hh:PySem.W.hasDictIn K C=true)
  (hw:PySem.Within mA ns) (hsz:ns.length≤sizeLine)
  (h:∀ h',ObjM h' x dx C (fun y=>if y=name then some v else mA y)→Heap.SameBut dx s.heap h'→Q () {s with heap:=h',toks:=s.toks + 2}):
  wpAny (model prog w) A (setAttr (.ref x) name v) Q E s:=by
 obtain ⟨od,J,hl⟩:=I.look
 refine PySem.W.set_plain X J hs (PySem.W.osa_open (s:={s with toks:=s.toks + 1}) (r:=none) X J hp ht fun b=>?_)
 obtain ⟨cd,hc,hd'⟩:=PySem.W.any_some hh
 have hx:s.heap.get? x=some ⟨.ref C,some dx,.plain,#[]⟩:=I.obj
 refine wpAny_bind (wpAny_pure (wpAny_bind (wpAny_bind (wpAny_loadPart hx (wpAny_bind (PySem.W.Looks.here (s:={s with toks:=s.toks + 1}) (PySem.W.looks_clsIn X hc) ?_))))))
 rw [hd']
 refine wpAny_pure (a:=some dx) (wpAny_bind (wpAny_pure (wpAny_bind ?_)))
 refine wpAny_nsSet1 (s:={s with toks:=s.toks + 1}) I.ns fun h' hn2 hs2=>?_
 obtain ⟨oD,esD,epD,hoD,hdD,hcD⟩:=hn2.count (PySem.Within.cons name v hw)
 refine wpAny_bind (wpAny_lookBehind hoD (by rw [hdD];exact pastItsLine_dict (Nat.le_trans hcD (by rw [List.length_cons];omega))) ?_)
 exact wpAny_pure (h _ ⟨(hs2.2 _ (Ne.symm I.ne)).trans I.obj,hn2,I.ne⟩ hs2)
theorem Hr {R:Result→Shared→Prop} {vs:List Value} {kw:List (Str×Value)} (X:K.In s.heap) (hm:PySem.W.makesIn K C=true)
  (hi:PySem.W.findIn K (.ref C) "__init__"=some (some (.ref f))) (hf:PySem.W.typeIn K (.ref f)=some (.type "function"))
  (h:codeAny (model prog w) (A.under (.builtin "type.__call__" ⟨.ref C::vs,kw⟩)) (.call (.ref f) ⟨.ref (s.heap.objs.size + 1)::vs,kw⟩) (PySem.W.InitBack (s.heap.objs.size + 1) R)
   {s with heap:=(s.heap.push PySem.W.emptyDict).push (PySem.W.instObj C s.heap.objs.size)}):
  codeAny (model prog w) A (.call (.ref C) ⟨vs,kw⟩) R s:=by
 obtain ⟨hh,g,d,t,os⟩:=s
 exact PySem.W.make_core (PySem.W.makes_of X hm) (PySem.W.looks_findIn X hi) (fun self=>PySem.W.bind_fn X self hf) (.inl rfl) h
end
noncomputable def putF (f:Str) (v:V):List (Str×V)→List (Str×V)
 | []=>[(f,v)]
 | (g,x)::r=>if g=f then (g,v)::r else (g,x)::putF f v r
theorem qH (f g:Str) (v:V):∀ fs:List (Str×V),(putF f v fs).lookup g=if g=f then some v else fs.lookup g
 | []=>by
   show List.lookup g [(f,v)]=_
   by_cases h:g=f
   ·have hb:(g == f)=true:=beq_iff_eq.mpr h
    simp only [List.lookup,hb,if_pos h]
   ·have hb:(g == f)=false:=beq_eq_false_iff_ne.mpr h
    simp only [List.lookup,hb,if_neg h]
 | (k,x)::r=>by
   have ih:=qH f g v r
   rw [show putF f v ((k,x)::r)=(if k=f then (k,v)::r else (k,x)::putF f v r) from rfl]
   by_cases hk:k=f
   ·rw [if_pos hk]
    by_cases h:g=k
    ·have hb:(g == k)=true:=beq_iff_eq.mpr h
     simp only [List.lookup,hb,if_pos (h.trans hk)]
    ·have hb:(g == k)=false:=beq_eq_false_iff_ne.mpr h
     simp only [List.lookup,hb,if_neg (fun e:g=f=>h (e.trans hk.symm))]
   ·rw [if_neg hk]
    by_cases h:g=k
    ·have hb:(g == k)=true:=beq_iff_eq.mpr h
     simp only [List.lookup,hb,if_neg (fun e:g=f=>hk (h.symm.trans e))]
    ·have hb:(g == k)=false:=beq_eq_false_iff_ne.mpr h
     simp only [List.lookup,hb]
     exact ih
theorem qS (f:Str) (v:V):∀ fs:List (Str×V),f∈(putF f v fs).map (·.1)∧∀ g,g∈fs.map (·.1)→g∈(putF f v fs).map (·.1)
 | []=>⟨by simp [putF],fun g h=>by simp at h⟩
 | (k,x)::r=>by
   obtain ⟨i1,i2⟩:=qS f v r
   rw [show putF f v ((k,x)::r)=(if k=f then (k,v)::r else (k,x)::putF f v r) from rfl]
   by_cases hk:k=f
   ·rw [if_pos hk]
    subst hk
    exact ⟨by simp,fun g h=>by simpa using h⟩
   ·rw [if_neg hk]
    refine ⟨?_,fun g h=>?_⟩
    ·rw [List.map_cons]
     exact List.mem_cons_of_mem _ i1
    ·rw [List.map_cons] at h ⊢
     rcases List.mem_cons.mp h with e | e
     ·exact List.mem_cons.mpr (.inl e)
     ·exact List.mem_cons_of_mem _ (i2 g e)
theorem qJ (f:Str) (v:V):∀ fs:List (Str×V),(putF f v fs).length≤fs.length + 1
 | []=>by simp [putF]
 | (k,x)::r=>by
   have ih:=qJ f v r
   rw [show putF f v ((k,x)::r)=(if k=f then (k,v)::r else (k,x)::putF f v r) from rfl]
   by_cases hk:k=f
   ·rw [if_pos hk,List.length_cons,List.length_cons];omega
   ·rw [if_neg hk,List.length_cons,List.length_cons];omega
theorem RelO.some_of {v:V} {o:Option Value} (r:RelO (some v) o):∃ u,o=some u∧RelV v u:=by
 cases o with
 | none=>exact (show False from r).elim
 | some u=>exact ⟨u,rfl,r⟩
theorem RelO.none_of {o:Option Value} (r:RelO none o):o=none:=by
 cases o with
 | none=>rfl
 | some u=>exact (show False from r).elim
theorem yo {v:V} {u:Value} (r:RelV v u):PySem.W.handedIn u=true:=by
 cases v with
 | non=>cases (show u=Value.none from r);rfl
 | bl b=>cases (show u=Value.bool b from r);rfl
 | int i=>obtain ⟨t,e⟩:=(show ∃ t,u=Value.int i t from r);cases e;rfl
 | str x=>obtain ⟨t,e⟩:=(show ∃ t,u=Value.str x t from r);cases e;rfl
 | byt b=>obtain ⟨t,e⟩:=(show ∃ t,u=Value.bytes b t from r);cases e;rfl
 | flt b=>obtain ⟨t,e⟩:=(show ∃ t,u=Value.float b t from r);cases e;rfl
 | ref a=>cases (show u=Value.ref a from r);rfl
 | ty n=>cases (show u=Value.type n from r);rfl
section
variable {P:Program} {w:World} {H H':Hp} {h h':Heap} {a C dx:Addr} {fs fs':List (Str×V)}
theorem vS (hok:HOk P w H h) (e:H a=some (.ins C dx fs)):∃ mA,ObjM h a dx C mA∧(∀ f,RelO (fs.lookup f) (mA f))∧PySem.Within mA (fs.map (·.1))∧fs.length≤1000∧H dx=some (.own a):=by
 obtain ⟨d,z,ne,ob,mA,n,r,q⟩:=(show dh P w H h a (.ins C dx fs) from hok a _ e)
 exact ⟨mA,⟨ob,n,ne⟩,r,q,z,d⟩
end
structure Cls (K:PySem.W.Frag) (C:Addr):Prop where
 pg:PySem.W.plainGet K C Str.empty=true
 hd:PySem.W.hasDictIn K C=true
 po:PySem.W.plainOver K C=true
 sa:PySem.W.findIn K (.ref C) "__setattr__"=some (some (.builtin "object.__setattr__"))
theorem Cls.get {K:PySem.W.Frag} {C:Addr} (c:Cls K C) (f:Str):PySem.W.plainGet K C f=true:=c.pg
noncomputable def ar (K:PySem.W.Frag) (C:Addr) (f:Str):Prop:=PySem.W.findIn K (.ref C) f=some none
theorem ar.taker {K:PySem.W.Frag} {C:Addr} {f:Str} (n:ar K C f):PySem.W.takerIn K C f=some none:=by
 unfold PySem.W.takerIn
 rw [show PySem.W.findIn K (.ref C) f=some none from n]
 rfl
structure Con (K:PySem.W.Frag) (C:Addr) (f:Str) (v:V) (u:Value):Prop where
 at_:PySem.W.findIn K (.ref C) f=some (some u)
 rel:RelV v u
 get:PySem.W.specialIn K u "__get__"=some none
 cp:PySem.W.copiedNames.contains f=false
structure Meth (K:PySem.W.Frag) (C:Addr) (m:Str) (f:Addr):Prop where
 at_:PySem.W.findIn K (.ref C) m=some (some (.ref f))
 fn:PySem.W.isFn K (.ref f)=true
 kp:PySem.W.keepIn K (.ref f)=true
section
variable {X:Cx} {pins:List (Addr×Obj)} {σ:St} {H:Hp} {s:Shared} {a C dx:Addr} {fs:List (Str×V)} {f:Str} {v:V} {A:Around} {E:Value→Shared→Prop}
theorem CC {b:Bool} {Q:Value→Shared→Prop} (I:Inv X pins σ H s) (e:H a=some (.ins C dx fs)) (c:Cls X.K C) (n:ar X.K C f) (l:fs.lookup f=some v)
  (h:∀ u s',Inv X pins σ H s'→RelV v u→Q u s'):wpAny (model X.prog X.w) A (getAttr (.ref a) f b) Q E s:=by
 obtain ⟨mA,O,r,_,_,_⟩:=vS I.hok e
 obtain ⟨u,hu,ru⟩:=RelO.some_of (v:=v) (o:=mA f) (by rw [← l];exact r f)
 exact aX I.kIn O (c.get f) c.hd n hu (yo ru) (h u _ (I.tok _) ru)
theorem uF {m:Str} {g:Addr} {pl:Sem Bool} {Q:Value×List Value→Shared→Prop} (I:Inv X pins σ H s) (e:H a=some (.ins C dx fs)) (c:Cls X.K C) (k:Meth X.K C m g) (l:fs.lookup m=none)
  (h:Q (.ref g,[.ref a]) s):wpAny (model X.prog X.w) A (getMethod (.ref a) m pl) Q E s:=by
 obtain ⟨mA,O,r,_,_,_⟩:=vS I.hok e
 have hn:mA m=none:=RelO.none_of (by rw [← l];exact r m)
 exact HQ I.kIn O (c.get m) k.at_ k.fn hn h
theorem BT {y:V} {u:Value} {Q:Unit→Shared→Prop} (I:Inv X pins σ H s) (e:H a=some (.ins C dx fs)) (c:Cls X.K C) (n:ar X.K C f) (hl:fs.length < 1000) (ry:RelV y u)
  (h:∀ s',Inv X pins σ (upd H a (.ins C dx (putF f y fs))) s'→Q () s'):wpAny (model X.prog X.w) A (setAttr (.ref a) f u) Q E s:=by
 obtain ⟨mA,O,r,wi,_,ho⟩:=vS I.hok e
 have hz:(fs.map (·.1)).length≤sizeLine:=by rw [List.length_map,sizeLine_eq];omega
 refine Jq I.kIn O c.sa c.po n.taker c.hd wi hz fun h' O' sb=>h _ ?_
 have hd:∃ o,h'.get? dx=some o:=let ⟨o,_,_,e',_⟩:=O'.ns;⟨o,e'⟩
 refine I.write (x:=a) (e:=dx) (by rw [e];exact True.intro) (.inr ho) (fun b q hb z=>(sb.2 b hb).trans z) hd ?_
 refine ⟨by rw [aq O.ne];exact ho,?_,O.ne,O'.obj,_,O'.ns,fun g=>?_,fun g hg=>?_⟩
 ·have:=qJ f y fs;omega
 ·show RelO ((putF f y fs).lookup g) (if g=f then some u else mA g)
  rw [qH]
  by_cases q:g=f
  ·rw [if_pos q,if_pos q];exact ry
  ·rw [if_neg q,if_neg q];exact r g
 ·by_cases q:g=f
  ·rw [q];exact (qS f y fs).1
  ·refine (qS f y fs).2 g (wi g fun z=>hg ?_)
   show (if g=f then some u else mA g)=none
   rw [if_neg q];exact z
theorem Inv.made (I:Inv X pins σ H s):Inv X pins σ (upd (upd H s.heap.objs.size (.own (s.heap.objs.size + 1))) (s.heap.objs.size + 1) (.ins C s.heap.objs.size []))
  {s with heap:=(s.heap.push PySem.W.emptyDict).push (PySem.W.instObj C s.heap.objs.size)}:=by
 have e1:(s.heap.push PySem.W.emptyDict).get? s.heap.objs.size=some PySem.W.emptyDict:=Heap.get?_push_size s.heap rfl
 have e2:((s.heap.push PySem.W.emptyDict).push (PySem.W.instObj C s.heap.objs.size)).get? (s.heap.objs.size + 1)=some (PySem.W.instObj C s.heap.objs.size):=by
  have:=Heap.get?_push_size (s.heap.push PySem.W.emptyDict) (o:=PySem.W.instObj C s.heap.objs.size) rfl
  rwa [Heap.size_push] at this
 have e3:(s.heap.push PySem.W.emptyDict).Ns s.heap.objs.size (fun _=>none):=⟨PySem.W.emptyDict,#[],_,e1,rfl,(fun e he=>absurd he (by simp)),fun _=>rfl⟩
 have I1:=I.laid (a:=s.heap.objs.size) (o:= .own (s.heap.objs.size + 1)) (h':=s.heap.push PySem.W.emptyDict) (t':=s.toks) (fun b u q=>Heap.get?_push_of_some _ q) (Nat.le_refl _) ⟨_,e1⟩
 refine I1.laid (a:=s.heap.objs.size + 1) (o:= .ins C s.heap.objs.size []) (t':=s.toks) (fun b u q=>Heap.get?_push_of_some _ q) (Nat.le_of_eq (Heap.size_push _ _)) ?_
 have ne:s.heap.objs.size≠s.heap.objs.size + 1:=Nat.ne_of_lt (Nat.lt_succ_self _)
 refine ⟨by rw [aq ne,au],Nat.zero_le _,ne,e2,fun _=>none,(Heap.Ns1.of_empty e3).at fun o q=>Heap.get?_push_of_some _ q,fun _=>True.intro,fun y hy=>absurd rfl hy⟩
theorem F4 {prog:Program} {w:World} {env:Env} {e:Expr} {f:Str} {pos:Pos} {s:Shared} {Q:Value→Shared→Prop} (hb:attributeBase e f env (eval e env)=eval e env)
  (h:wpAny (model prog w) A (eval e env) (fun o s₁=>wpAny (model prog w) A (getAttr o f true) Q E s₁) E s):wpAny (model prog w) A (eval (.Attribute e f pos) env) Q E s:=
 Attribute_any_ h (by rw [arm_eval_Attribute,hb])
end
noncomputable def tFld (K:PySem.W.Frag) (ta:TE) (f:Str):TE:=fun σ H Q=>ta σ H fun x H1=>∃ a C dx fs v,x= .ref a∧H1 a=some (.ins C dx fs)∧Cls K C∧ar K C f∧fs.lookup f=some v∧Q v H1
noncomputable def sFld (K:PySem.W.Frag) (ta tv:TE) (f:Str):TS:=fun D σ H=>tv σ H fun y H1=>ta σ H1 fun x H2=>∃ a C dx fs,x= .ref a∧H2 a=some (.ins C dx fs)∧Cls K C∧ar K C f∧fs.length < 1000∧
 D.nx σ (upd H2 a (.ins C dx (putF f y fs)))
section
variable {X:Cx} {o e value:Expr} {f:Str} {pos pos' tpos:Pos} {ta tv:TE}
theorem L9 (he:PE X e ta) (hb:attributeBase e f X.env (eval e X.env)=eval e X.env):PE X (.Attribute e f pos) (tFld X.K ta f):=by
 intro pins s σ H Q I h
 refine F4 hb (thn (he pins s σ H _ I h) fun u s1 ⟨x,H1,I1,rx,a,C,dx,fs,v,ex,ea,c,n,l,q⟩=>?_)
 subst ex
 obtain rfl:u=Value.ref a:=rx
 exact CC I1 ea c n l fun u' s2 I2 ru=>⟨v,H1,I2,ru,q⟩
theorem LX (ha:PE X o ta) (hv:PE X value tv) (hs:swapsWith value (some (.Attribute o f pos')) pos.line X.env=pure false):PS X (.Assign [.Attribute o f pos'] value pos) (sFld X.K ta tv f):=by
 intro pins s σ H D I h
 refine plainObj_wpAny_Assign_Attribute (thn (hv pins s σ H _ I h) fun u s1 ⟨y,H1,I1,ry,q⟩=>thn (ha pins s1 σ H1 _ I1 q) fun ov s2 ⟨x,H2,I2,rx,a,C,dx,fs,ex,ea,c,n,l,q2⟩=>?_) hs
 subst ex
 obtain rfl:ov=Value.ref a:=rx
 exact BT I2 ea c n l ry fun s3 I3=>⟨σ,_,I3,q2⟩
end
section
variable {X:Cx} {pins:List (Addr×Obj)} {σ:St} {H:Hp} {s:Shared} {A:Around} {E:Value→Shared→Prop} {Q:Value→Shared→Prop} {c:Value} {b:Bool}
inductive TyOf (K:PySem.W.Frag) (H:Hp):V→Value→Prop where
 | non:TyOf K H .non (.type "NoneType")
 | bl (x:Bool):TyOf K H (.bl x) (.type "bool")
 | int (i:Int):TyOf K H (.int i) (.type "int")
 | str (x:Str):TyOf K H (.str x) (.type "str")
 | flt (x:UInt64):TyOf K H (.flt x) (.type "float")
 | lst {a:Addr} {xs:List V} (e:H a=some (.lst xs)):TyOf K H (.ref a) (.type "list")
 | frz {a:Addr} {o:Obj} {xs:List V} (e:H a=some (.frz o (.lst xs))):TyOf K H (.ref a) (.type "list")
 | tup {a:Addr} {xs:List V} (e:H a=some (.tup xs)):TyOf K H (.ref a) (.type "tuple")
 | dK {a:Addr} {kvs:List (Key×V)} (e:H a=some (.dK kvs)):TyOf K H (.ref a) (.type "dict")
 | dT {a:Addr} {kvs:List (List Key×V)} (e:H a=some (.dT kvs)):TyOf K H (.ref a) (.type "dict")
 | ins {a C dx:Addr} {fs:List (Str×V)} (e:H a=some (.ins C dx fs)) (cl:Cls K C) (ha:PySem.W.findIn K (.ref C) "__class__"=some (some (.builtin "object.__class__")))
   (hn:PySem.W.specialIn K (.builtin "object.__class__") "__get__"=some (some (.builtin "getset_descriptor.__get__"))) (htk:PySem.W.takesIn K (.builtin "object.__class__")=some true)
   (hm:PySem.W.mroIn K C (.type "object")=some true):TyOf K H (.ref a) (.ref C)
end
structure Room (k:Nat) (A:Around):Prop where
 hd:A.handled=none
 dp:A.depth + 3 * k + 5 < recursionLimit
 un:A.units + 16 * k + 200 < cLine
theorem Room.mono {j k:Nat} {A:Around} (r:Room k A) (h:j≤k):Room j A:=⟨r.hd,by have:=r.dp;omega,by have:=r.un;omega⟩
theorem Room.deeper {k:Nat} {A:Around} (r:Room (k + 1) A) (env:Env):Room k (A.deeper env):=
 ⟨r.hd,by have:=r.dp;show A.depth + 1 + 3 * k + 5 < _;omega,by have:=r.un;show A.units + 3 + 16 * k + 200 < _;omega⟩
theorem Cn {A:Around} {C:Addr} {us:List Value} {kw:List (Str×Value)}:(A.under (.builtin "type.__call__" ⟨.ref C::us,kw⟩)).depth=A.depth + 1:=by
 first | rfl | simp [Around.under,Code.weight,Code.isCreation,Code.isGuard,Code.isCaller,Code.frames,Code.isFrame,guardIds]
theorem Cm {A:Around} {C:Addr} {us:List Value} {kw:List (Str×Value)}:(A.under (.builtin "type.__call__" ⟨.ref C::us,kw⟩)).units=A.units + 1:=by
 first | rfl | simp [Around.under,Code.cUnits,Code.frames,Code.isFrame]
theorem Room.make {k:Nat} {A:Around} (r:Room (k + 1) A) (C:Addr) (us:List Value) (kw:List (Str×Value)):Room k (A.under (.builtin "type.__call__" ⟨.ref C::us,kw⟩)):=
 ⟨r.hd,by have:=r.dp;rw [Cn];omega,by have:=r.un;rw [Cm];omega⟩
theorem Room.depth {k:Nat} {A:Around} (r:Room k A):A.depth < recursionLimit:=by have:=r.dp;omega
theorem Room.units {k:Nat} {A:Around} (r:Room k A):A.units + 64 < cLine:=by have:=r.un;omega
noncomputable def tNil:TA:=fun _ H Q=>Q [] H
noncomputable def K7 (ta:TE) (tr:TA):TA:=fun σ H Q=>ta σ H fun x H1=>tr σ H1 fun xs H2=>Q (x::xs) H2
section
variable {X:Cx} {e:Expr} {es:List Expr} {te:TE} {t:TA} {pos:Pos}
theorem ad:PA X [] tNil:=fun _ _ _ _ H Q I h=>Calls.spliced_nil ⟨[],H,I,.nil,h⟩
theorem aa (ha:PE X e te) (hr:PA X es t) (hs:starEach (e::es) X.env=(false,eval e X.env)::starEach es X.env:=by rfl):PA X (e::es) (K7 te t):=by
 intro pos pins s σ H Q I h
 rw [hs]
 show wpAny _ _ (spliced ((false,eval e X.env)::backTo pos (starEach es X.env))) _ _ s
 refine Calls.spliced_cons (thn (ha pins s σ H _ I h) fun u s1 ⟨x,H1,I1,r1,q1⟩=>?_)
 exact thn (hr pos pins s1 σ H1 _ I1 q1) fun us s2 ⟨xs,H2,I2,r2,q2⟩=>⟨x::xs,H2,I2,.cons r1 r2,q2⟩
noncomputable def tTup (t:TA):TE:=fun σ H Q=>t σ H fun xs H1=>xs.length≤sizeLine∧∀ p,H1 p=none→Q (.ref p) (upd H1 p (.tup xs))
noncomputable def tLst (t:TA):TE:=fun σ H Q=>t σ H fun xs H1=>xs.length≤sizeLine∧∀ p,H1 p=none→Q (.ref p) (upd H1 p (.lst xs))
theorem dP {x1} (h:PA X es t):PE X (.Tuple es x1 pos) (tTup t):=by
 intro pins s σ H Q I hq
 refine wpAny_Tuple_spliced (thn (h pos pins s σ H _ I hq) fun us s1 ⟨xs,H1,I1,r,z,q⟩=>⟨by rw [← r.length];exact z,?_⟩)
 have hf:H1 s1.heap.objs.size=none:=I1.hok.fresh (Nat.le_refl _)
 refine ⟨.ref s1.heap.objs.size,upd H1 s1.heap.objs.size (.tup xs),I1.laid (t':=s1.toks) (fun b u e=>Heap.get?_push_of_some _ e) (Nat.le_refl _) ?_,rfl,q _ hf⟩
 exact ⟨z,us,r,⟨_,Heap.get?_push_size _ rfl,rfl,_,rfl⟩⟩
theorem eS (h:PA X es t):PE X (.List es pos) (tLst t):=by
 intro pins s σ H Q I hq
 refine wpAny_List_spliced (thn (h pos pins s σ H _ I hq) fun us s1 ⟨xs,H1,I1,r,z,q⟩=>⟨by rw [← r.length];exact z,?_⟩)
 have hf:H1 s1.heap.objs.size=none:=I1.hok.fresh (Nat.le_refl _)
 refine ⟨.ref s1.heap.objs.size,upd H1 s1.heap.objs.size (.lst xs),I1.laid (t':=s1.toks) (fun b u e=>Heap.get?_push_of_some _ e) (Nat.le_refl _) ?_,rfl,q _ hf⟩
 exact ⟨z,us,0,r,Heap.get?_push_size _ rfl⟩
end
noncomputable abbrev Sp:=List V→Hp→VK→XK→Prop
noncomputable abbrev CXT:=List Env→Hp→Shared→XK→Value→Shared→Prop
structure Env0 (P:Program) (w:World) (K:PySem.W.Frag) (mg:Str→Option Value) (base:Heap) (A:Around) (outer:List Env) (s:Shared) (H:Hp):Prop where
 frames:A.frames=some outer
 mod:Mod K mg base
 bs:∀ b o,base.get? b=some o→s.heap.get? b=some o∧H b=none
 bsz:base.objs.size≤s.heap.objs.size
 funs:s.heap.FunFrames base outer
 frf:∀ b∈frs outer,H b=none
 hok:HOk P w H s.heap
 bare:AllBare s.gens
noncomputable def CE (outer:List Env) (P:Program) (w:World) (H:Hp) (s:Shared) (Q:VK) (u:Value) (s':Shared):Prop:=
 ∃ v H',s'.os=s.os∧AllBare s'.gens∧Un (frs outer) [] H H' s.heap s'.heap∧HOk P w H' s'.heap∧RelV v u∧Q v H'
noncomputable def CR (CX:CXT) (outer:List Env) (P:Program) (w:World) (H:Hp) (s:Shared) (Q:VK) (E:XK) (r:Result) (s':Shared):Prop:=
 match r with
 | .ok (.ret u)=>CE outer P w H s Q u s'
 | .ok _=>False
 | .error e=>CX outer H s E e s'
structure FnOk (P:Program) (w:World) (K:PySem.W.Frag) (mg:Str→Option Value) (base:Heap) (CX:CXT) (k:Nat) (f:Addr) (fd:FuncData) (ps:List Str) (sp:Sp):Prop where
 len:∀ vs H Q E,sp vs H Q E→vs.length=ps.length
 run:∀ (A:Around) (outer:List Env) (s:Shared) (H:Hp) (args:Args) (us:List Value) (vs:List V) (Q:VK) (E:XK),Room k A→Env0 P w K mg base A outer s H→BindsTo s fd args (ps.zip us)→Vals vs us→sp vs H Q E→
  codeAny (model P w) A (.call (.ref f) args) (CR CX outer P w H s Q E) s
theorem Env0.make {P:Program} {w:World} {K:PySem.W.Frag} {mg:Str→Option Value} {base:Heap} {A:Around} {outer:List Env} {s:Shared} {H:Hp} (e:Env0 P w K mg base A outer s H) (C:Addr) (us:List Value) (kw:List (Str×Value)):
  Env0 P w K mg base (A.under (.builtin "type.__call__" ⟨.ref C::us,kw⟩)) outer s H:=⟨by first | exact e.frames | (simpa [Around.under,Code.envs,Code.isFrame,pushEnvs] using e.frames),e.mod,e.bs,e.bsz,e.funs,e.frf,e.hok,e.bare⟩
section
variable {X:Cx} {pins:List (Addr×Obj)} {σ:St} {H:Hp} {s s':Shared}
theorem Inv.env0 (I:Inv X pins σ H s):Env0 X.prog X.w X.K X.mg X.base X.A X.stack s H:=
 ⟨I.ok.frames,I.ok.mod,I.bs,Nat.le_trans I.ok.bsz I.sz,I.stack,I.stkFree,I.hok,I.bare⟩
theorem Inv.after {Q:VK} {u:Value} (I:Inv X pins σ H s) (h:CE X.stack X.prog X.w H s Q u s'):EP X pins σ Q u s':=by
 obtain ⟨v,H',os,bare,un,hok,r,q⟩:=h
 obtain ⟨hh,g,d,t,os'⟩:=s'
 obtain rfl:os'=s.os:=os
 exact ⟨v,H',I.call (h':=hh) (g':=g) (d':=d) (t':=t) (ch:=[]) un hok bare (fun b z=>absurd z (by simp)),r,q⟩
end
noncomputable def GG (sp:Sp) (dvs:List V) (E:XK) (t:TA):TE:=fun σ H Q=>t σ H fun vs H1=>sp (vs++dvs) H1 Q E
noncomputable def K2 (C:Addr) (m:Str) (sp:Sp) (dvs:List V) (E:XK) (ta:TE) (t:TA):TE:=fun σ H Q=>ta σ H fun x H1=>∃ a dx fs,x= .ref a∧H1 a=some (.ins C dx fs)∧fs.lookup m=none∧
 t σ H1 fun vs H2=>sp (x::(vs++dvs)) H2 Q E
noncomputable def K3 (C:Addr) (sp:Sp) (dvs:List V) (E:XK) (t:TA):TE:=fun σ H Q=>t σ H fun vs H1=>∀ x dx,H1 x=none→H1 dx=none→dx≠x→
 sp (.ref x::(vs++dvs)) (upd (upd H1 dx (.own x)) x (.ins C dx [])) (fun v H2=>v= .non∧Q (.ref x) H2) E
noncomputable def bP (K:PySem.W.Frag) (fd:FuncData) (ps:List Str) (ds:List Value):Prop:=
 ∀ (s:Shared) (us:List Value),K.In s.heap→(us++ds).length=ps.length→BindsTo s fd ⟨us,[]⟩ (ps.zip (us++ds))
theorem bP.all {K:PySem.W.Frag} {fd:FuncData} {ps:List Str} (h:∀ us:List Value,us.length=ps.length→bindArgs fd ⟨us,[]⟩=pure (ps.zip us)):bP K fd ps []:=fun s us _ hl=>by
 rw [List.append_nil] at hl ⊢
 exact .of_eq (h us hl)
noncomputable def oz (CX:CXT) (X:Cx) (E:XK):Prop:=∀ (pins:List (Addr×Obj)) (σ:St) (H:Hp) (s:Shared) (e:Value) (s':Shared),Inv X pins σ H s→CX X.stack H s E e s'→X.xe e s'
section
variable {X:Cx} {CX:CXT} {k:Nat} {f C:Addr} {fd:FuncData} {ps:List Str} {sp:Sp} {dvs:List V} {ds:List Value} {E:XK} {x m:Str} {p pos apos:Pos} {e o:Expr} {es:List Expr} {ta:TE} {t:TA}
theorem Ey {pins:List (Addr×Obj)} {σ:St} {H:Hp} {s:Shared} {Q:VK} {us:List Value} {vs:List V} (F:FnOk X.prog X.w X.K X.mg X.base CX k f fd ps sp) (hr:Room k X.A) (hb:bP X.K fd ps ds) (hd:Vals dvs ds) (hx:oz CX X E)
  (I:Inv X pins σ H s) (r:Vals vs us) (h:sp (vs++dvs) H Q E):wpAny (model X.prog X.w) X.A (call (.ref f) us) (EP X pins σ Q) X.xe s:=by
 have r2:Vals (vs++dvs) (us++ds):=r.append hd
 have hl:(us++ds).length=ps.length:=by rw [← r2.length];exact F.len _ _ _ _ h
 refine wpAny_call (codeAny_mono (F.run X.A X.stack s H ⟨us,[]⟩ (us++ds) (vs++dvs) Q E hr I.env0 (hb s us I.kIn hl) r2 h) fun r s' hq=>?_)
 cases r with
 | error e=>exact hx pins σ H s e s' I hq
 | ok fl=>
   cases fl with
   | ret u=>exact I.after hq
   | next=>exact False.elim hq
   | brk=>exact False.elim hq
   | cont=>exact False.elim hq
theorem ay (F:FnOk X.prog X.w X.K X.mg X.base CX k f fd ps sp) (hr:Room k X.A) (hg:Gl X x) (hm:X.mg x=some (.ref f)) (hk:PySem.W.keepIn X.K (.ref f)=true) (hb:bP X.K fd ps ds) (hd:Vals dvs ds) (hx:oz CX X E)
  (ha:PA X (e::es) t) (hdb:(x == ("__debug__":Str))=false:=by decide) (he:starEach (e::es) X.env=(false,eval e X.env)::starEach es X.env:=by rfl) (hpl:(backTo pos (starEach es X.env)).any (·.1)=false:=by rfl):
  PE X (.Call (.Name x p) (e::es) [] pos) (GG sp dvs E t):=by
 intro pins s σ H Q I h
 refine wpAny_Call_Name_kw (jx I hg hm ?_ hdb)
 refine PySem.W.callWith_K (h₀:=X.base) I.ok.mod.kin hk (thn (ha pos pins s σ H _ I h) fun us s1 ⟨vs,H1,I1,r,q⟩=>⟨I1.kIn,?_⟩) he hpl
 exact Ey F hr hb hd hx I1 r q
theorem dC {pl:Sem Bool} (he:PE X o ta) (c:Cls X.K C) (hm:Meth X.K C m f) (F:FnOk X.prog X.w X.K X.mg X.base CX k f fd ps sp) (hr:Room k X.A) (hb:bP X.K fd ps ds) (hd:Vals dvs ds) (hx:oz CX X E)
  (ht:eval (.Call (.Attribute o m apos) [] [] pos) X.env=(do
   let ov ← eval o X.env
   standAt apos.atName
   let (f,first) ← holding [ov] (getMethod ov m pl)
   callWith pos f first (backTo pos (starEach [] X.env)) (backToKw pos (keywordEach [] X.env))):=by rfl):
  PE X (.Call (.Attribute o m apos) [] [] pos) (K2 C m sp dvs E ta tNil):=by
 intro pins s σ H Q I h
 refine PySem.W.methodCall_KW (pl:=pl) (thn (he pins s σ H _ I h) fun u s1 ⟨x,H1,I1,rx,a,dx,fs,ex,ea,l,q⟩=>?_) ht
 subst ex
 obtain rfl:u=Value.ref a:=rx
 refine uF I1 ea c hm l ?_
 exact PySem.W.callWith_K0 (first:=[.ref a]) I1.kIn hm.kp (Ey (us:=[.ref a]) (vs:=[.ref a]) F hr hb hd hx I1 (.cons rfl .nil) q)
structure Mk (K:PySem.W.Frag) (C f:Addr):Prop where
 makes:PySem.W.makesIn K C=true
 init:PySem.W.findIn K (.ref C) "__init__"=some (some (.ref f))
 fn:PySem.W.isFn K (.ref f)=true
 kp:PySem.W.keepIn K (.ref C)=true
theorem G2 {pins:List (Addr×Obj)} {σ:St} {H:Hp} {s:Shared} {Q:VK} {us:List Value} {vs:List V} (M:Mk X.K C f) (F:FnOk X.prog X.w X.K X.mg X.base CX k f fd ps sp) (hr:Room (k + 1) X.A) (hb:bP X.K fd ps ds) (hd:Vals dvs ds)
  (hx:oz CX X E) (I:Inv X pins σ H s) (r:Vals vs us)
  (h:∀ x dx,H x=none→H dx=none→dx≠x→sp (.ref x::(vs++dvs)) (upd (upd H dx (.own x)) x (.ins C dx [])) (fun v H2=>v= .non∧Q (.ref x) H2) E):
  wpAny (model X.prog X.w) X.A (call (.ref C) us) (EP X pins σ Q) X.xe s:=by
 have hq:=h (s.heap.objs.size + 1) s.heap.objs.size (I.hok.fresh (Nat.le_succ _)) (I.hok.fresh (Nat.le_refl _)) (Nat.ne_of_lt (Nat.lt_succ_self _))
 have I2:=Inv.made (C:=C) I
 have r2:Vals (V.ref (s.heap.objs.size + 1)::(vs++dvs)) (Value.ref (s.heap.objs.size + 1)::(us++ds)):= .cons rfl (r.append hd)
 have hl:(Value.ref (s.heap.objs.size + 1)::us++ds).length=ps.length:=by
  have e:=r2.length
  rw [F.len _ _ _ _ hq] at e
  exact e.symm
 refine wpAny_call (Hr (f:=f) I.kIn M.makes M.init (beq_iff_eq.mp M.fn) (codeAny_mono (F.run _ X.stack _ _ ⟨Value.ref (s.heap.objs.size + 1)::us,[]⟩ (Value.ref (s.heap.objs.size + 1)::(us++ds)) _ _ E (hr.make C us [])
  (I2.env0.make C us []) (hb _ (Value.ref (s.heap.objs.size + 1)::us) I2.kIn hl) r2 hq) fun r s' hq'=>?_))
 cases r with
 | error e=>exact hx pins σ _ _ e s' I2 hq'
 | ok fl=>
   cases fl with
   | ret u=>
     obtain ⟨v,H',I3,rv,ev,q3⟩:=I2.after hq'
     subst ev
     exact ⟨rv,⟨V.ref (s.heap.objs.size + 1),H',I3,rfl,q3⟩⟩
   | next=>exact False.elim hq'
   | brk=>exact False.elim hq'
   | cont=>exact False.elim hq'
theorem vc (M:Mk X.K C f) (F:FnOk X.prog X.w X.K X.mg X.base CX k f fd ps sp) (hr:Room (k + 1) X.A) (hg:Gl X x) (hm:X.mg x=some (.ref C)) (hb:bP X.K fd ps ds) (hd:Vals dvs ds) (hx:oz CX X E)
  (ha:PA X (e::es) t) (hdb:(x == ("__debug__":Str))=false:=by decide) (he:starEach (e::es) X.env=(false,eval e X.env)::starEach es X.env:=by rfl) (hpl:(backTo pos (starEach es X.env)).any (·.1)=false:=by rfl):
  PE X (.Call (.Name x p) (e::es) [] pos) (K3 C sp dvs E t):=by
 intro pins s σ H Q I h
 refine wpAny_Call_Name_kw (jx I hg hm ?_ hdb)
 refine PySem.W.callWith_K (h₀:=X.base) I.ok.mod.kin M.kp (thn (ha pos pins s σ H _ I h) fun us s1 ⟨vs,H1,I1,r,q⟩=>⟨I1.kIn,?_⟩) he hpl
 exact G2 M F hr hb hd hx I1 r q
end
section
variable {X:Cx} {CX:CXT} {k:Nat} {f C:Addr} {fd:FuncData} {ps ks:List Str} {sp:Sp} {E:XK} {x m:Str} {p pos apos kpos:Pos} {e o:Expr} {es:List Expr} {kws:List Keyword} {te ta:TE} {t tk:TA} {nm:Option Str}
structure NS (K:PySem.W.Frag) (fd:FuncData) (ps ks:List Str) (g:List Value→List Value→List Value) (gV:List V→List V→List V):Prop where
 to:∀ (s:Shared) (us ws:List Value),K.In s.heap→(g us ws).length=ps.length→BindsTo s fd ⟨us,ks.zip ws⟩ (ps.zip (g us ws))
 rel:∀ {vs:List V} {us:List Value} {zs:List V} {ws:List Value},Vals vs us→Vals zs ws→Vals (gV vs zs) (g us ws)
variable {g:List Value→List Value→List Value} {gV:List V→List V→List V}
end
structure aG (N P:List Str) (sc:Scope):Prop where
 kind:sc.kind= .function
 co:sc.isCoroutine=false
 gen:sc.isGenerator=false
 nd:N.Nodup
 pre:N.take P.length=P
 par:∀ x∈P,sc.names.lookup x=some .local∨sc.names.lookup x=some .cell
 nofree:∀ y∈sc.names,y.2≠.free
theorem yU {kindOf:Str→Option NameKind} {x:Str}:∀ {binds:List (Str×Value)} {m:Str→Option Value},(∀ v,(x,v)∉binds)→bindL kindOf binds m x=m x
 | [],_,_=>rfl
 | (n,v)::r,m,h=>by
   unfold bindL
   rw [yU fun w hw=>h w (List.mem_cons_of_mem _ hw)]
   split
   ·have:x≠n:=by rintro rfl;exact h v List.mem_cons_self
    simp [this]
   ·rfl
theorem yW {kindOf:Str→Option NameKind} {x:Str}:∀ {binds:List (Str×Value)} {m:Str→Option Value},(∀ v,(x,v)∉binds)→bindC kindOf binds m x=m x
 | [],_,_=>rfl
 | (n,v)::r,m,h=>by
   unfold bindC
   rw [yW fun w hw=>h w (List.mem_cons_of_mem _ hw)]
   split
   ·rfl
   ·have:x≠n:=by rintro rfl;exact h v List.mem_cons_self
    simp [this]
theorem yV {kindOf:Str→Option NameKind} {x:Str} {v:Value}:∀ {P:List Str} {vs:List Value} {i:Nat} {m:Str→Option Value},P.Nodup→P[i]? =some x→vs[i]? =some v→kindOf x=some .local→
  bindL kindOf (P.zip vs) m x=some v
 | [],_,_,_,_,h,_,_=>by simp at h
 | _::_,[],_,_,_,_,h,_=>by simp at h
 | p::P,w::vs,0,m,nd,h1,h2,hk=>by
   simp at h1 h2;subst h1;subst h2
   show bindL kindOf ((p,w)::P.zip vs) m p=_
   unfold bindL
   rw [yU fun v hv=>(List.nodup_cons.mp nd).1 (List.of_mem_zip hv).1,if_pos hk]
   simp
 | p::P,w::vs,i + 1,m,nd,h1,h2,hk=>by
   show bindL kindOf ((p,w)::P.zip vs) m x=_
   unfold bindL
   exact yV (i:=i) (List.nodup_cons.mp nd).2 (by simpa using h1) (by simpa using h2) hk
theorem yX {kindOf:Str→Option NameKind} {x:Str} {v:Value}:∀ {P:List Str} {vs:List Value} {i:Nat} {m:Str→Option Value},P.Nodup→P[i]? =some x→vs[i]? =some v→kindOf x≠some .local→
  bindC kindOf (P.zip vs) m x=some v
 | [],_,_,_,_,h,_,_=>by simp at h
 | _::_,[],_,_,_,_,h,_=>by simp at h
 | p::P,w::vs,0,m,nd,h1,h2,hk=>by
   simp at h1 h2;subst h1;subst h2
   show bindC kindOf ((p,w)::P.zip vs) m p=_
   unfold bindC
   rw [yW fun v hv=>(List.nodup_cons.mp nd).1 (List.of_mem_zip hv).1,if_neg hk]
   simp
 | p::P,w::vs,i + 1,m,nd,h1,h2,hk=>by
   show bindC kindOf ((p,w)::P.zip vs) m x=_
   unfold bindC
   exact yX (i:=i) (List.nodup_cons.mp nd).2 (by simpa using h1) (by simpa using h2) hk
noncomputable def start (N:List Str) (vs:List V):St:=vs.map some++List.replicate (N.length - vs.length) none
noncomputable def cxOf (CX:CXT) (P:Program) (w:World) (K:PySem.W.Frag) (mg:Str→Option Value) (base:Heap) (N:List Str) (qual:Str) (scope:Scope) (f:Addr) (cd:Value) (A:Around) (outer:List Env) (s:Shared) (H:Hp) (E:XK):Cx where
 prog:=P
 w:=w
 K:=K
 mg:=mg
 base:=base
 A:=A.deeper (envOfC qual scope s.heap.objs.size f cd)
 N:=N
 s₀:=s
 H₀:=H
 env:=envOfC qual scope s.heap.objs.size f cd
 outer:=outer
 stack:=envOfC qual scope s.heap.objs.size f cd::outer
 ex:=[]
 calm:=true
 fn:=fun _=>true
 pn:=[]
 xe:=fun e s'=>wpAny (model P w) (A.deeper (envOfC qual scope s.heap.objs.size f cd)) (leaving (envOfC qual scope s.heap.objs.size f cd) e) (fun _ s''=>CX outer H s E e s'') (fun e' s''=>CX outer H s E e' s'') s'
theorem Br {sc:Scope} {n:Nat} {x:Str} (h:sc.names.lookup x=some .cell):∃ c,(cellsFrom n sc.names []).lookup x=some c:=by
 have q:=PySem.W.cellsFrom_some sc.names n [] (.inl h)
 exact Option.isSome_iff_exists.mp q
theorem Fz {CX:CXT} {P:Program} {w:World} {K:PySem.W.Frag} {mg:Str→Option Value} {base:Heap} {N ps:List Str} {qual:Str} {scope:Scope} {f:Addr} {cd:Value} {A:Around} {outer:List Env} {s s1:Shared} {H:Hp} {E:XK} {us:List Value} {vs:List V}
  (S:aG N ps scope) (hd:A.handled=none) (e0:Env0 P w K mg base A outer s H) (hl:vs.length=ps.length) (r:Vals vs us)
  (x:InCallC s s.heap.objs.size (bindL (envOfC qual scope s.heap.objs.size f cd).kindOf (ps.zip us) fun _=>none) (cellsFrom (s.heap.objs.size + 1) scope.names []) (bindC (envOfC qual scope s.heap.objs.size f cd).kindOf (ps.zip us) fun _=>none) s1):
  Inv (cxOf CX P w K mg base N qual scope f cd A outer s H E) [] (start N vs) H s1:=by
 have hpl:ps.length≤N.length:=by have:=congrArg List.length S.pre;rw [List.length_take] at this;omega
 obtain ⟨h1,tk,rfl,hk⟩:=x.done
 have noA:∀ b:Addr,b∉(cxOf CX P w K mg base N qual scope f cd A outer s H E).ex:=fun b z=>absurd (show b∈([]:List Addr) from z) (by simp)
 refine ⟨⟨e0.mod,S.kind,rfl,rfl,Nat.le_refl _,fun y z c h1 h2=>?_,fun y hy=>?_,fun y c _ h=>?_,fun _=>hd,Around.frames_deeper e0.frames,.inr ⟨rfl,rfl⟩,fun b z=>absurd z (noA b),e0.bs,e0.bsz,fun b _ _=>noA b,fun b z=>absurd z (noA b),e0.funs,e0.frf⟩,
  rfl,e0.bare,Un.kept hk,⟨_,x.toInCall.ns,fun i y v h1 h2 h3=>?_⟩,fun y c h=>⟨_,x.cell y c h⟩,e0.hok.fresh (Nat.le_refl _),fun y c h=>?_,fun p hp=>absurd (show p∈([]:List (Addr×Obj)) from hp) (by simp),e0.hok.kept hk,?_⟩
 ·exact name_of_addr x.apart (PySem.mem_of_lookup h1) (PySem.mem_of_lookup h2)
 ·have hy:scope.names.lookup y=some .cell∨scope.names.lookup y=some .free:=hy
  rcases hy with hy | hy
  ·exact Br hy
  ·exact absurd rfl (S.nofree _ (PySem.mem_of_lookup hy))
 ·exact Nat.le_of_lt (x.above y c (PySem.mem_of_lookup h))
 ·have hi:i < vs.length:=by
   unfold start at h2
   by_cases hi:i < vs.length
   ·exact hi
   ·rw [List.getElem?_append_right (by simpa using hi)] at h2
    rw [List.getElem?_replicate] at h2
    split at h2<;>cases h2
  have ha:vs[i]? =some v:=by
   unfold start at h2
   rw [List.getElem?_append_left (by simpa using hi),List.getElem?_map] at h2
   cases e:vs[i]? with
   | none=>rw [e] at h2;cases h2
   | some a=>rw [e] at h2;cases h2;rfl
  obtain ⟨u,hu,rv⟩:=r.get ha
  have hp:ps[i]? =some y:=by
   rw [← S.pre,List.getElem?_take_of_lt (by omega)];exact h1
  have ndP:ps.Nodup:=by rw [← S.pre];exact S.nd.sublist (List.take_sublist _ _)
  refine ⟨u,rv,?_⟩
  rcases S.par y (List.mem_of_getElem? hp) with k | k
  ·exact .inl ⟨k,yV ndP hp hu k⟩
  ·obtain ⟨c,e⟩:=Br (n:=s.heap.objs.size + 1) k
   refine .inr ⟨.inl k,c,e,?_⟩
   have q:=x.cell y c e
   rw [yX ndP hp hu (by show scope.names.lookup y≠_;rw [k];decide)] at q
   exact q
 ·exact e0.hok.fresh (Nat.le_of_lt (x.above y c (PySem.mem_of_lookup h)))
 ·unfold start
  show _=N.length
  rw [List.length_append,List.length_map,List.length_replicate]
  omega
theorem MD {CX:CXT} {P:Program} {w:World} {K:PySem.W.Frag} {mg:Str→Option Value} {base:Heap} {k:Nat} {f:Addr} {name qual:Str} {params:Arguments} {body:List Stmt} {scope:Scope} {dV kV doc pm cdv ct oc:Value} {an od:Option Addr}
  {osl:Array (Option Value)} {N ps:List Str} {sp:Sp} (lk:K.lookup f=some ⟨oc,od,.func (PySem.W.fnOf name qual params body scope dV kV doc pm an cdv ct),osl⟩) (hcd:PySem.W.codeIn K cdv qual=true) (S:aG N ps scope)
  (len:∀ vs H Q E,sp vs H Q E→vs.length=ps.length)
  (hbody:∀ (A:Around) (outer:List Env) (s:Shared) (H:Hp) (vs:List V) (Q:VK) (E:XK),Room k (A.deeper (envOfC qual scope s.heap.objs.size f cdv))→sp vs H Q E→
   ∃ t,PSs (cxOf CX P w K mg base N qual scope f cdv A outer s H E) body t∧t {nx:=fun _ H'=>Q .non H',rt:=Q} (start N vs) H):
  FnOk P w K mg base CX (k + 1) f (PySem.W.fnOf name qual params body scope dV kV doc pm an cdv ct) ps sp:=by
 refine ⟨len,fun A outer s H args us vs Q E hr e0 hb r hsp=>?_⟩
 have hl:=len _ _ _ _ hsp
 have KX:K.In s.heap:=e0.mod.kin.keeps fun b o e=>(e0.bs b o e).1
 have lim:s.heap.NoLimit:=e0.mod.nolimit.keeps fun b o e=>(e0.bs b o e).1
 have hkind:∀ y∈ps.zip us,scope.names.lookup y.1=some .local∨(scope.names.lookup y.1=some .cell∧((cellsFrom (s.heap.objs.size + 1) scope.names []).lookup y.1).isSome=true):=fun ⟨n,v⟩ hy=>by
  rcases S.par n (List.of_mem_zip hy).1 with q | q
  ·exact .inl q
  ·exact .inr ⟨q,PySem.W.cellsFrom_some _ _ _ (.inl q)⟩
 refine codeAny_call_function hr.depth (KX _ _ lk) rfl S.co S.gen rfl (PySem.W.codeRec_of KX hcd) (hb _ _ _ _ ?_)
 refine wpAny_newFunctionEnv_cells S.kind hkind fun env he s1 x=>?_
 subst he
 refine ⟨lim.keeps x.toInCall.keep,codeAny_func ?_⟩
 obtain ⟨t,ht,hq⟩:=hbody A outer s H vs Q E (hr.deeper _) hsp
 have I:Inv (cxOf CX P w K mg base N qual scope f cdv A outer s H E) [] (start N vs) H s1:=Fz S hr.hd e0 hl r x
 refine wpAny_mono (ht [] s1 (start N vs) H _ I hq) (fun fl s' hs=>?_) fun e s' hs=>hs
 have fin:∀ {σ':St} {H':Hp} {v:V} {u:Value},Inv (cxOf CX P w K mg base N qual scope f cdv A outer s H E) [] σ' H' s'→RelV v u→Q v H'→CE outer P w H s Q u s':=
  fun {σ' H' v u} J rv q=>⟨v,H',J.os,J.bare,J.base,J.hok,rv,q⟩
 cases fl with
 | ret u=>
   obtain ⟨v,σ',H',J,rv,q⟩:=hs
   exact fin J rv q
 | next=>
   obtain ⟨σ',H',J,q⟩:=hs
   exact fin (v:=V.non) (u:=Value.none) J rfl q
 | brk=>
   obtain ⟨_,_,_,q⟩:=hs
   exact False.elim q
 | cont=>
   obtain ⟨_,_,_,q⟩:=hs
   exact False.elim q
section
variable {X:Cx} {x:Str} {p pos:Pos} {e:Expr} {es:List Expr} {t:TA} {id T:String} {r:List V→Hp→VK→Prop}
noncomputable def tCB (r:List V→Hp→VK→Prop) (t:TA):TE:=fun σ H Q=>t σ H fun vs H1=>r vs H1 Q
theorem aB (hc:i6 X (.builtin id) r) (hg:Gl X x) (hm:X.mg x=none) (hv:bootBuiltins x=some (.builtin id)) (ha:PA X (e::es) t) (hn:x≠"__name__":=by decide) (hdb:(x == ("__debug__":Str))=false:=by decide)
  (he:starEach (e::es) X.env=(false,eval e X.env)::starEach es X.env:=by rfl) (hpl:(backTo pos (starEach es X.env)).any (·.1)=false:=by rfl):PE X (.Call (.Name x p) (e::es) [] pos) (tCB r t):=by
 intro pins s σ H Q I h
 refine wpAny_Call_Name_kw (oh I hg hm hv ?_ hn hdb)
 exact PyProof.Rows.callWith_builtin1 (thn (ha pos pins s σ H _ I h) fun us s1 ⟨vs,H1,I1,r1,q1⟩=>hc pins s1 σ H1 vs us Q I1 r1 q1) he hpl
theorem aw (hc:i6 X (.type T) r) (hg:Gl X x) (hm:X.mg x=none) (hv:bootBuiltins x=some (.type T)) (ha:PA X (e::es) t) (hn:x≠"__name__":=by decide) (hdb:(x == ("__debug__":Str))=false:=by decide)
  (he:starEach (e::es) X.env=(false,eval e X.env)::starEach es X.env:=by rfl) (hpl:(backTo pos (starEach es X.env)).any (·.1)=false:=by rfl):PE X (.Call (.Name x p) (e::es) [] pos) (tCB r t):=by
 intro pins s σ H Q I h
 refine wpAny_Call_Name_kw (oh I hg hm hv ?_ hn hdb)
 exact PyProof.Rows.callWith_type1 (thn (ha pos pins s σ H _ I h) fun us s1 ⟨vs,H1,I1,r1,q1⟩=>hc pins s1 σ H1 vs us Q I1 r1 q1) he hpl
end
end L2
namespace HT
open PySem PyProof.Rows
section
variable {prog:Program} {w:World} {A:Around} {E:Value→Shared→Prop} {s:Shared}
noncomputable def sIx (n d:Nat):Option Int→Nat
 | none=>d
 | some v=>if v < 0 then (v + (n:Int)).toNat else min v.toNat n
theorem sIx_none (n d:Nat):sIx n d none=d:=rfl
theorem sIx_nat (n d k:Nat):sIx n d (some (k:Int))=min k n:=by
 show (if (k:Int) < 0 then ((k:Int) + (n:Int)).toNat else min (k:Int).toNat n)=min k n
 rw [if_neg (by omega),Int.toNat_natCast]
end
end HT
namespace L2
open PySem PySem.Spec PyProof.Rows
noncomputable abbrev TO:=St→Hp→(Option Int→Hp→Prop)→Prop
noncomputable def PO (X:Cx) (e:Option Expr) (t:TO):Prop:=
 ∀ (pins:List (Addr×Obj)) (s:Shared) (σ:St) (H:Hp) (Q:Option Int→Hp→Prop),Inv X pins σ H s→t σ H Q→
  wpAny (model X.prog X.w) X.A (evalPart e X.env) (fun u s'=>∃ o H',Inv X pins σ H' s'∧IsPart u o∧Q o H') X.xe s
noncomputable def DS:TO:=fun _ H Q=>Q none H
noncomputable def K0 (t:TE):TO:=fun σ H Q=>t σ H fun x H1=>∃ i,x= .int i∧Q (some i) H1
section
variable {X:Cx} {e:Expr} {te:TE} {lo hi:Option Expr} {tl th:TO} {pos p2:Pos}
theorem EQ:PO X none DS:=by
 intro pins s σ H Q I h
 rw [evalPart_none]
 exact wpAny_pure ⟨none,H,I,.none,h⟩
theorem EO (h:PE X e te):PO X (some e) (K0 te):=by
 intro pins s σ H Q I hw
 rw [evalPart_some]
 refine thn (h pins s σ H _ I hw) fun u s1 ⟨x,H1,I1,r1,q1⟩=>?_
 obtain ⟨i,rfl,q⟩:=q1
 obtain ⟨t,rfl⟩:=r1
 exact ⟨some i,H1,I1,.int i t,q⟩
noncomputable def SlR (X:Cx) (r:V→Option Int→Option Int→Hp→VK→Prop):Prop:=
 ∀ (pins:List (Addr×Obj)) (s:Shared) (σ:St) (H:Hp) (x:V) (v vl vu:Value) (lo hi:Option Int) (sl:Addr) (Q:VK),Inv X pins σ H s→RelV x v→s.heap.IsSliceOf sl vl vu .none→IsPart vl lo→IsPart vu hi→r x lo hi H Q→
  ∃ T id,typeLookup (.type T) "__getitem__"=pure (some (.builtin id))∧s.TypeIs v T∧wpAny (model X.prog X.w) X.A (getItem v (.ref sl)) (EP X pins σ Q) X.xe s
noncomputable def tSl (r:V→Option Int→Option Int→Hp→VK→Prop) (te:TE) (tl th:TO):TE:=fun σ H Q=>te σ H fun x H1=>tl σ H1 fun l H2=>th σ H2 fun u H3=>r x l u H3 Q
theorem A6 {r:V→Option Int→Option Int→Hp→VK→Prop} (hr:SlR X r) (he:PE X e te) (hl:PO X lo tl) (hu:PO X hi th):PE X (.Subscript e (.Slice lo hi none p2) pos) (tSl r te tl th):=by
 intro pins s σ H Q I h
 refine Subscript_ (thn (he pins s σ H _ I h) fun v s1 ⟨x,H1,I1,r1,q1⟩=>?_)
 refine wpAny_Slice (thn (hl pins s1 σ H1 _ I1 q1) fun vl s2 ⟨l,H2,I2,pl,q2⟩=>thn (hu pins s2 σ H2 _ I2 q2) fun vu s3 ⟨u,H3,I3,pu,q3⟩=>?_)
 rw [evalPart_none]
 refine wpAny_pure ?_
 have I4:Inv X pins σ H3 {s3 with heap:=s3.heap.push {cls:= .type "slice",data:= .fields #[vl,vu,.none]}}:=I3.kept (t':=s3.toks) fun b ob q=>Heap.get?_push_of_some _ q
 obtain ⟨T,id,hT,ht,hg⟩:=hr pins {s3 with heap:=s3.heap.push {cls:= .type "slice",data:= .fields #[vl,vu,.none]}} σ H3 x v vl vu l u s3.heap.objs.size Q I4 r1 (Heap.IsSliceOf.new ..) pl pu q3
 show wpAny (model X.prog X.w) X.A (subscriptTail e (.Slice lo hi none p2) v (.ref s3.heap.objs.size)) (EP X pins σ Q) X.xe {s3 with heap:=s3.heap.push {cls:= .type "slice",data:= .fields #[vl,vu,.none]}}
 exact tail_any (ops:=[.ref s3.heap.objs.size,v]) ht hT hg (by with_unfolding_all rfl)
noncomputable def cutV (xs:List V) (lo hi:Option Int):List V:=(xs.drop (HT.sIx xs.length 0 lo)).take (HT.sIx xs.length xs.length hi - HT.sIx xs.length 0 lo)
theorem Ao (xs:List V) (lo hi:Option Int):(cutV xs lo hi).length≤xs.length:=by
 unfold cutV
 rw [List.length_take,List.length_drop]
 omega
end
noncomputable def ixN (n:Nat) (i:Int):Option Nat:=if 0≤i then (if i < n then some i.toNat else none) else if -(n:Int)≤i then some (i + n).toNat else none
noncomputable def atI {α:Type} (xs:List α) (i:Int):Option α:=(ixN xs.length i).bind fun j=>xs[j]?
theorem Fx {n:Nat} {i:Int} {j:Nat} (h:ixN n i=some j):seqIndex? i n=some j∧j < n∧-(n:Int)≤i∧i < n:=by
 unfold ixN at h
 by_cases h0:0≤i
 ·rw [if_pos h0] at h
  by_cases h1:i < n
  ·rw [if_pos h1] at h
   have e:i.toNat=j:=Option.some.inj h
   exact ⟨by rw [seqIndex_of h0 h1,e],by omega,by omega,h1⟩
  ·rw [if_neg h1] at h;cases h
 ·rw [if_neg h0] at h
  by_cases h1: -(n:Int)≤i
  ·rw [if_pos h1] at h
   have e:(i + n).toNat=j:=Option.some.inj h
   exact ⟨by rw [seqIndex_neg (by omega) h1,e],by omega,h1,by omega⟩
  ·rw [if_neg h1] at h;cases h
theorem Ax {α:Type} {xs:List α} {i:Int} {v:α} (h:atI xs i=some v):∃ j,seqIndex? i xs.length=some j∧xs[j]? =some v∧j < xs.length∧-(xs.length:Int)≤i∧i < xs.length:=by
 unfold atI at h
 cases e:ixN xs.length i with
 | none=>rw [e] at h;cases h
 | some j=>
   rw [e] at h
   obtain ⟨h1,h2,h3,h4⟩:=Fx e
   exact ⟨j,h1,h,h2,h3,h4⟩
theorem g7 {α:Type} {xs:List α} {j:Nat} {v:α} (h:xs[j]? =some v):atI xs (j:Int)=some v:=by
 have hj:j < xs.length:=(List.getElem?_eq_some_iff.mp h).1
 have e:ixN xs.length (j:Int)=some j:=by
  unfold ixN
  rw [if_pos (by omega),if_pos (by omega)];simp
 unfold atI;rw [e];exact h
noncomputable def KH (b:Expr):Prop:=∀ o i,subscripted b false o i=operate [o,i] (getItem o i)
noncomputable def IxR (X:Cx) (r:R2):Prop:=
 ∀ (value slice:Expr) (pins:List (Addr×Obj)) (s:Shared) (σ:St) (H:Hp) (x y:V) (v u:Value) (Q:VK),Inv X pins σ H s→RelV x v→RelV y u→r x y H Q→
  subscripted slice false v u=operate [v,u] (getItem v u)→wpAny (model X.prog X.w) X.A (subscriptTail value slice v u) (EP X pins σ Q) X.xe s
noncomputable def MtR (X:Cx) (id:String) (r:V→List V→Hp→VK→Prop):Prop:=
 ∀ (pins:List (Addr×Obj)) (s:Shared) (σ:St) (H:Hp) (x:V) (xs:List V) (v:Value) (us:List Value) (Q:VK),Inv X pins σ H s→RelV x v→Vals xs us→r x xs H Q→
  wpAny (model X.prog X.w) X.A (call (.builtin id) (v::us)) (EP X pins σ Q) X.xe s
section
variable {X:Cx} {a b:Expr} {ta tb:TE} {pos:Pos}
theorem cj {r:R2} (hr:IxR X r) (ha:PE X a ta) (hb:PE X b tb) (hs:KH b):PE X (.Subscript a b pos) (tOp r ta tb):=by
 intro pins s σ H Q I h
 exact Subscript_ (binT ha hb I h fun v u s2 x y H2 I2 rx ry q=>hr a b pins s2 σ H2 x y v u Q I2 rx ry q (hs _ _))
noncomputable def rIxL (K:PySem.W.Frag):R2:=fun x y H Q=>∃ p xs i v,x= .ref p∧y= .int i∧SqL K H p xs∧atI xs i=some v∧Q v H
noncomputable def rIxT (K:PySem.W.Frag):R2:=fun x y H Q=>∃ p xs i v,x= .ref p∧y= .int i∧SqT K H p xs∧atI xs i=some v∧Q v H
noncomputable def rIxS:R2:=fun x y H Q=>∃ z i c,x= .str z∧y= .int i∧z.length≤sizeLine∧atI z.cps.toList i=some c∧Q (.str ⟨#[c]⟩) H
theorem Kk:IxR X (rIxL X.K):=by
 intro value slice pins s σ H x y v u Q I rx ry h hs
 obtain ⟨p,xs,i,z,rfl,rfl,hq,he,q⟩:=h
 cases rx
 obtain ⟨t,rfl⟩:=ry
 obtain ⟨its,r,pl,hz⟩:=I.list hq
 obtain ⟨j,h1,h2,h3,h4,h5⟩:=Ax he
 obtain ⟨w,ew,rw'⟩:=r.get h2
 have hl:=r.length
 have hn:=ya
 have fin:EP X pins σ Q w s:=⟨z,H,I,rw',q⟩
 by_cases h0:0≤i
 ·have hj:i.toNat=j:=by
   rw [seqIndex_of h0 h5] at h1
   exact Option.some.inj h1
  exact item_listR pl.isList h0 (by omega) (by rw [hj];simpa using ew) fin hs
 ·have hj:(i + (its.toArray.size:Int)).toNat=j:=by
   rw [seqIndex_neg (by omega) h4] at h1
   rw [List.size_toArray,← hl]
   exact Option.some.inj h1
  exact subscriptTail_builtinR (x:=w) pl.isList.typeIs slot_list_getitem.lookup
   (wpAny_getItem_list_neg (Q:=fun r s'=>r=w∧EP X pins σ Q r s') pl.isList (by omega) (by rw [List.size_toArray]<;>omega) (by omega) (by rw [hj];simpa using ew) ⟨rfl,fin⟩) hs
theorem Mx:IxR X (rIxT X.K):=by
 intro value slice pins s σ H x y v u Q I rx ry h hs
 obtain ⟨p,xs,i,z,rfl,rfl,hq,he,q⟩:=h
 cases rx
 obtain ⟨t,rfl⟩:=ry
 obtain ⟨its,r,pl,hz⟩:=I.tuple hq
 obtain ⟨j,h1,h2,h3,h4,h5⟩:=Ax he
 obtain ⟨w,ew,rw'⟩:=r.get h2
 have hl:=r.length
 have hn:=ya
 have fin:EP X pins σ Q w s:=⟨z,H,I,rw',q⟩
 exact subscriptTail_builtinR (x:=w) pl.typeIs slot_tuple_getitem.lookup
  (getItem_tuple (j:=j) (Q:=fun r s'=>r=w∧EP X pins σ Q r s') pl (by omega) (by omega) (by rw [List.size_toArray,← hl];exact h1) (by simpa using ew) ⟨rfl,fin⟩) hs
theorem Fw:IxR X rIxS:=by
 intro value slice pins s σ H x y v u Q I rx ry h hs
 obtain ⟨z,i,c,rfl,rfl,hz,he,q⟩:=h
 obtain ⟨t,rfl⟩:=rx
 obtain ⟨t',rfl⟩:=ry
 obtain ⟨j,h1,h2,h3,h4,h5⟩:=Ax he
 have hl:z.cps.toList.length=z.length:=by simp [Str.length]
 rw [hl] at h1 h4 h5
 have hn:=ya
 exact tail_any (typeIs_str s z t) slot_str_getitem.lookup (getItem_str (c:=c) (by
  have e1:decide (i < -(2 ^ 63:Int))=false:=decide_eq_false (by omega)
  have e2:decide (i≥2 ^ 63)=false:=decide_eq_false (by omega)
  rw [e1,e2,Bool.or_false]) (by rw [h1];simpa using h2) ⟨.str ⟨#[c]⟩,H,I.tok _,⟨_,rfl⟩,q⟩) hs
theorem Cl (its:List Value) (n j:Nat) (u:Value):Obj.mapSeq (·.setIfInBounds j u) {cls:= .type "list",data:= .seq its.toArray n}={cls:= .type "list",data:= .seq (its.set j u).toArray n}:=by
 simp [Obj.mapSeq]
theorem Inv.lst {pins:List (Addr×Obj)} {σ:St} {H:Hp} {s:Shared} {p:Addr} {xs:List V} (I:Inv X pins σ H s) (h:H p=some (.lst xs)):
  ∃ (its:List Value) (n:Nat),Vals xs its∧s.heap.get? p=some {cls:= .type "list",data:= .seq its.toArray n}∧xs.length≤sizeLine:=by
 obtain ⟨z,its,n,r,e⟩:=I.hok p _ h
 exact ⟨its,n,r,e,z⟩
theorem Inv.lstUpd {pins:List (Addr×Obj)} {σ:St} {H:Hp} {s:Shared} {p:Addr} {xs ys:List V} {its its':List Value} {n n':Nat} {f:Obj→Obj} (I:Inv X pins σ H s) (h:H p=some (.lst xs))
  (ho:s.heap.get? p=some {cls:= .type "list",data:= .seq its.toArray n}) (hf:f {cls:= .type "list",data:= .seq its.toArray n}={cls:= .type "list",data:= .seq its'.toArray n'}) (r:Vals ys its') (hz:ys.length≤sizeLine) (t:Nat):
  Inv X pins σ (upd H p (.lst ys)) {s with heap:=s.heap.update p f,toks:=t}:=by
 have e:(s.heap.update p f).get? p=some {cls:= .type "list",data:= .seq its'.toArray n'}:=by
  rw [Heap.get?_update_self f ho (by rw [hf]<;>rfl),hf]
 refine I.write (x:=p) (e:=p) (by rw [h];trivial) (.inl rfl) (fun b u hb q=>(Heap.get?_update_other _ _ (Ne.symm hb)).trans q) ⟨_,e⟩ ?_
 exact ⟨hz,its',n',r,e⟩
noncomputable def JH:V→V→V→Hp→(Hp→Prop)→Prop:=fun o i v H Q=>∃ p xs k j,o= .ref p∧i= .int k∧H p=some (.lst xs)∧ixN xs.length k=some j∧Q (upd H p (.lst (xs.set j v)))
theorem GS:PSet X JH:=by
 intro pins s σ H o i v ov iv u Q I ro ri rv h
 obtain ⟨p,xs,k,j,rfl,rfl,hp,hj,q⟩:=h
 cases ro
 obtain ⟨t,rfl⟩:=ri
 obtain ⟨its,n,r,ho,hz⟩:=I.lst hp
 obtain ⟨h1,h2,h3,h4⟩:=Fx hj
 have hl:=r.length
 have hn:=ya
 have I':Inv X pins σ (upd H p (.lst (xs.set j v))) {s with heap:=s.heap.update p (Obj.mapSeq (·.setIfInBounds j u))}:=
  I.lstUpd hp ho (Cl its n j u) (r.set rv j) (by rw [List.length_set];exact hz) s.toks
 by_cases h0:0≤k
 ·have hk:k.toNat=j:=by
   rw [seqIndex_of h0 h4] at h1
   exact Option.some.inj h1
  exact PySem.W.ki_setAt ho h0 (by omega) (by rw [List.size_toArray,← hl];exact h4) (by rw [hk];exact ⟨_,I',q⟩)
 ·have hk:(k + (its.toArray.size:Int)).toNat=j:=by
   rw [seqIndex_neg (by omega) h3] at h1
   rw [List.size_toArray,← hl]
   exact Option.some.inj h1
  exact PySem.W.ki_setBack ho (by omega) (by rw [List.size_toArray,← hl];exact h3) (by omega) (by rw [hk];exact ⟨_,I',q⟩)
theorem w8 (lo hi:Option Int) (n:Nat):(sliceBounds lo hi none n).1=((HT.sIx n 0 lo:Nat):Int)∧(sliceBounds lo hi none n).2.1=((HT.sIx n n hi:Nat):Int)∧(sliceBounds lo hi none n).2.2=1:=by
 refine ⟨?_,?_,rfl⟩
 ·cases lo with
  | none=>simp [sliceBounds,HT.sIx]
  | some i=>
    simp only [sliceBounds,HT.sIx,Option.getD_none,show (1:Int) > 0 by decide,if_true]
    by_cases h:i < 0
    ·simp only [h,if_true]<;>omega
    ·simp only [h,if_false]<;>omega
 ·cases hi with
  | none=>simp [sliceBounds,HT.sIx]
  | some i=>
    simp only [sliceBounds,HT.sIx,Option.getD_none,show (1:Int) > 0 by decide,if_true]
    by_cases h:i < 0
    ·simp only [h,if_true]<;>omega
    ·simp only [h,if_false]<;>omega
theorem uQ (its:List Value) (lo hi:Option Int):slicePick its.toArray lo hi none=((its.drop (HT.sIx its.length 0 lo)).take (HT.sIx its.length its.length hi - HT.sIx its.length 0 lo)).toArray:=by
 obtain ⟨h1,h2,h3⟩:=w8 lo hi its.toArray.size
 unfold slicePick
 rw [h1,h2,h3]
 simp only [sliceRange_one,pick_run,List.size_toArray]<;>rfl
noncomputable def rSlL (K:PySem.W.Frag):V→Option Int→Option Int→Hp→VK→Prop:=fun x lo hi H Q=>∃ a xs,x= .ref a∧SqL K H a xs∧∀ p,H p=none→Q (.ref p) (upd H p (.lst (cutV xs lo hi)))
theorem Jo:SlR X (rSlL X.K):=by
 intro pins s σ H x v vl vu lo hi sl Q I rx hs pl pu h
 obtain ⟨a,xs,rfl,hx,q⟩:=h
 cases rx
 obtain ⟨its,r,ht,hz⟩:=I.list hx
 have hlen:=r.length
 refine ⟨"list",_,slot_list_getitem.lookup,ht.isList.typeIs,?_⟩
 refine wpAny_getItem_list_slice ht.isList hs pl pu .none (by simp) ?_ (by rw [List.size_toArray]<;>omega)
 rw [uQ,← hlen]
 refine ⟨.ref s.heap.objs.size,_,I.laid (t':=s.toks) (o:= .lst (cutV xs lo hi)) (fun b ob q=>Heap.get?_push_of_some _ q) (Nat.le_refl _) ?_,rfl,q _ (I.hok.fresh (Nat.le_refl _))⟩
 exact ⟨Nat.le_trans (Ao xs lo hi) hz,_,0,(r.drop (HT.sIx xs.length 0 lo)).take (HT.sIx xs.length xs.length hi - HT.sIx xs.length 0 lo),Heap.get?_push_size _ rfl⟩
noncomputable def yx:V→Bool
 | .non=>true
 | .bl _=>true
 | .int _=>true
 | .str _=>true
 | _=>false
noncomputable def eqV:V→V→Bool
 | .non,.non=>true
 | .bl a,.bl b=>a == b
 | .bl a,.int b=>(if a then 1 else 0) == b
 | .int a,.bl b=>a == (if b then 1 else 0)
 | .int a,.int b=>a == b
 | .str a,.str b=>a == b
 | _,_=>false
theorem ME {A:Around} {s:Shared} {y x:V} {u v:Value} (ry:RelV y u) (rx:RelV x v) (fy:yx y=true) (fx:yx x=true):SeqAt.EqAt A s u v (eqV y x):=by
 cases y with
 | non=>
   cases ry
   cases x with
   | non=>cases rx;exact SeqAt.EqAt.same _
   | bl b=>cases rx;exact SeqAt.EqAt.none_bool b
   | int b=>obtain ⟨t,rfl⟩:=rx;exact SeqAt.EqAt.none_int b t
   | str b=>obtain ⟨t,rfl⟩:=rx;exact SeqAt.EqAt.none_str b t
   | _=>exact absurd (show false=true from fx) Bool.false_ne_true
 | bl a=>
   cases ry
   cases x with
   | non=>cases rx;exact SeqAt.EqAt.bool_none a
   | bl b=>cases rx;exact SeqAt.EqAt.bool_bool a b
   | int b=>obtain ⟨t,rfl⟩:=rx;exact SeqAt.EqAt.bool_int a b t
   | str b=>obtain ⟨t,rfl⟩:=rx;exact SeqAt.EqAt.bool_str a b t
   | _=>exact absurd (show false=true from fx) Bool.false_ne_true
 | int a=>
   obtain ⟨t',rfl⟩:=ry
   cases x with
   | non=>cases rx;exact SeqAt.EqAt.int_none a t'
   | bl b=>cases rx;exact SeqAt.EqAt.int_bool a t' b
   | int b=>obtain ⟨t,rfl⟩:=rx;exact SeqAt.EqAt.int_int a t' b t
   | str b=>obtain ⟨t,rfl⟩:=rx;exact SeqAt.EqAt.int_str a t' b t
   | _=>exact absurd (show false=true from fx) Bool.false_ne_true
 | str a=>
   obtain ⟨t',rfl⟩:=ry
   cases x with
   | non=>cases rx;exact SeqAt.EqAt.str_none a t'
   | bl b=>cases rx;exact SeqAt.EqAt.str_bool a t' b
   | int b=>obtain ⟨t,rfl⟩:=rx;exact SeqAt.EqAt.str_int a t' b t
   | str b=>obtain ⟨t,rfl⟩:=rx;exact SeqAt.EqAt.str_str a t' b t
   | _=>exact absurd (show false=true from fx) Bool.false_ne_true
 | _=>exact absurd (show false=true from fy) Bool.false_ne_true
noncomputable def eqU (x:V) (u:Value):Bool:=match u with
 | .none=>eqV .non x
 | .bool b=>eqV (.bl b) x
 | .int i _=>eqV (.int i) x
 | .str z _=>eqV (.str z) x
 | _=>false
theorem IU {x y:V} {u:Value} (r:RelV y u) (f:yx y=true):eqU x u=eqV y x:=by
 cases y with
 | non=>cases r;rfl
 | bl b=>cases r;rfl
 | int i=>obtain ⟨t,rfl⟩:=r;rfl
 | str z=>obtain ⟨t,rfl⟩:=r;rfl
 | _=>exact absurd (show false=true from f) Bool.false_ne_true
theorem Ay {x:V}:∀ {xs:List V} {us:List Value},Vals xs us→xs.all yx=true→us.any (eqU x)=xs.any fun y=>eqV y x
 | _,_,.nil,_=>rfl
 | y::xs,u::us,.cons r t,f=>by
   rw [List.all_cons,Bool.and_eq_true] at f
   rw [List.any_cons,List.any_cons,IU r f.1,Ay t f.2]
theorem vF {A:Around} {s:Shared} {x:V} {v:Value} (rx:RelV x v) (fx:yx x=true):∀ {xs:List V} {us:List Value},Vals xs us→xs.all yx=true→∀ u∈us,SeqAt.EqAt A s u v (eqU x u)
 | _,_,.nil,_=>fun u hu=>by cases hu
 | y::xs,u::us,.cons r t,f=>fun u' hu=>by
   rw [List.all_cons,Bool.and_eq_true] at f
   rcases List.mem_cons.mp hu with rfl | hu
   ·rw [IU r f.1];exact ME r rx f.1 fx
   ·exact vF rx fx t f.2 u' hu
noncomputable def inV (x:V) (xs:List V):Bool:=xs.any fun y=>eqV y x
noncomputable def rIn (K:PySem.W.Frag) (neg:Bool):R2:=fun x y H Q=>∃ p xs,y= .ref p∧(SqL K H p xs∨SqT K H p xs)∧yx x=true∧xs.all yx=true∧Q (.bl (if neg then !inV x xs else inV x xs)) H
theorem EV:OpR X (compareOp .In) (rIn X.K false):=by
 intro pins s σ H x y v u Q I rx ry h
 obtain ⟨p,xs,rfl,hq,fx,fs,q⟩:=h
 cases ry
 rcases hq with hq | hq
 ·obtain ⟨its,r,pl,hz⟩:=I.list hq
  refine SeqAt.in_listAt (eqU x) pl.isList (fun w hw=>vF rx fx r fs w (by simpa using hw)) ⟨.bl _,H,I,rfl,?_⟩
  rw [show its.toArray.any (eqU x)=its.any (eqU x) by simp,Ay r fs]
  exact q
 ·obtain ⟨its,r,pl,hz⟩:=I.tuple hq
  refine SeqAt.in_tupleAt (eqU x) pl (fun w hw=>vF rx fx r fs w (by simpa using hw)) ⟨.bl _,H,I,rfl,?_⟩
  rw [show its.toArray.any (eqU x)=its.any (eqU x) by simp,Ay r fs]
  exact q
theorem yQ:i6 X (.type "list") (fun xs H Q=>∃ p ys,xs=[.ref p]∧(SqL X.K H p ys∨SqT X.K H p ys)∧∀ l,H l=none→Q (.ref l) (upd H l (.lst ys))):=by
 intro pins s σ H xs us Q I r h
 obtain ⟨p,ys,rfl,hq,q⟩:=h
 obtain ⟨u,rfl,rx⟩:=rU r
 cases rx
 have fin:∀ (its:List Value),Vals ys its→ys.length≤sizeLine→∀ (h':Heap) (c':Nat),(∀ b o',s.heap.get? b=some o'→h'.get? b=some o')→
   h'.get? s.heap.objs.size=some {cls:= .type "list",dict:=none,data:= .seq its.toArray c',slots:=#[]}→EP X pins σ Q (.ref s.heap.objs.size) {s with heap:=h'}:=fun its r' hz h' c' kp e=>
  ⟨.ref s.heap.objs.size,_,I.laid (t':=s.toks) kp (Nat.le_refl _) (show dh X.prog X.w _ h' _ (.lst ys) from ⟨hz,its,c',r',e⟩),rfl,q _ (I.hok.fresh (Nat.le_refl _))⟩
 rcases hq with hq | hq
 ·obtain ⟨its,r',pl,hz⟩:=I.list hq
  have hlen:=r'.length
  obtain ⟨o,ho,hc,n,hd⟩:=pl.isList
  exact call_list_seq p (.inl rfl) ho hc hd (fun h' c' kp e=>fin its r' hz h' c' kp e) (by simp only [List.size_toArray]<;>omega)
 ·obtain ⟨its,r',pl,hz⟩:=I.tuple hq
  have hlen:=r'.length
  obtain ⟨o,ho,hc,n,hd⟩:=pl
  exact call_list_seq p (.inr rfl) ho hc hd (fun h' c' kp e=>fin its r' hz h' c' kp e) (by simp only [List.size_toArray]<;>omega)
theorem wo:i6 X (.type "tuple") (fun xs H Q=>∃ p ys,xs=[.ref p]∧((SqL X.K H p ys∧∀ l,H l=none→Q (.ref l) (upd H l (.tup ys)))∨(SqT X.K H p ys∧Q (.ref p) H))):=by
 intro pins s σ H xs us Q I r h
 obtain ⟨p,ys,rfl,h⟩:=h
 obtain ⟨u,rfl,rx⟩:=rU r
 cases rx
 rcases h with ⟨hq,q⟩ | ⟨hq,q⟩
 ·obtain ⟨its,r',pl,hz⟩:=I.list hq
  have hlen:=r'.length
  refine call_tuple_list pl.isList (fun h' kp=>?_) (by simp only [List.size_toArray]<;>omega)
  have I1:Inv X pins σ H {s with heap:=h'}:=I.kept (t':=s.toks) kp
  have I2:Inv X pins σ (upd H h'.objs.size (.tup ys)) {s with heap:=h'.push {cls:= .type "tuple",data:= .seq its.toArray}}:=
   I1.laid (t':=s.toks) (fun b o e=>Heap.get?_push_of_some _ e) (Nat.le_refl _) (show dh X.prog X.w _ _ _ (.tup ys) from ⟨hz,its,r',IsTup.new _ _⟩)
  exact ⟨.ref h'.objs.size,_,I2,rfl,q _ (I1.hok.fresh (Nat.le_refl _))⟩
 ·obtain ⟨its,r',pl,hz⟩:=I.tuple hq
  exact call_tuple_same pl ⟨.ref p,H,I,rfl,q⟩
noncomputable def tyV (K:PySem.W.Frag) (T:String) (x:V) (H:Hp):Prop:=match x with
 | .str _=>T="str"
 | .int _=>T="int"
 | .ref p=>(T="list"∧∃ xs,SqL K H p xs)∨(T="tuple"∧∃ o,K.lookup p=some o∧o.cls= .type "tuple"∧o.dict=none)∨
   (T="dict"∧((∃ kvs,H p=some (.dK kvs))∨∃ kvs,H p=some (.dT kvs)))∨(T="set"∧∃ S n,H p=some (.set S n))
 | _=>False
theorem Ip {pins:List (Addr×Obj)} {σ:St} {H:Hp} {s:Shared} {T:String} {x:V} {v:Value} (I:Inv X pins σ H s) (r:RelV x v) (ty:tyV X.K T x H):
  s.TypeIs v T∧∀ a,v= .ref a→∃ ob,s.heap.get? a=some ob∧ob.dict=none:=by
 cases x with
 | str z=>
   obtain ⟨t,rfl⟩:=r
   cases (show T="str" from ty)
   exact ⟨typeIs_str s z t,fun _ e=>nomatch e⟩
 | int i=>
   obtain ⟨t,rfl⟩:=r
   cases (show T="int" from ty)
   exact ⟨typeIs_int s i t,fun _ e=>nomatch e⟩
 | ref p=>
   cases r
   rcases ty with ⟨rfl,xs,hq⟩ | ⟨rfl,o,hk,hc,hd⟩ | ⟨rfl,hk⟩ | ⟨rfl,S,n,hk⟩
   ·obtain ⟨its,_,pl,_⟩:=I.list hq
    refine ⟨pl.isList.typeIs,fun a e=>?_⟩
    cases e
    obtain ⟨o,n,e,c,hd,_⟩:=pl
    exact ⟨o,e,hd⟩
   ·refine ⟨⟨o,I.kIn p o hk,hc⟩,fun a e=>?_⟩
    cases e
    exact ⟨o,I.kIn _ o hk,hd⟩
   ·have z:∃ o,s.heap.get? p=some o∧o.ExactDict:=by
     rcases hk with ⟨kvs,hk⟩ | ⟨kvs,hk⟩
     ·obtain ⟨_,_,_,_,o,_,_,e,ex,_⟩:=I.hok p _ hk
      exact ⟨o,e,ex⟩
     ·obtain ⟨_,_,_,_,o,_,_,e,ex,_⟩:=I.hok p _ hk
      exact ⟨o,e,ex⟩
    obtain ⟨o,e,ex⟩:=z
    refine ⟨⟨o,e,ex.1⟩,fun a e2=>?_⟩
    cases e2
    exact ⟨o,e,ex.2.1⟩
   ·obtain ⟨o,_,_,_,e,ex,_⟩:=I.hok p _ hk
    refine ⟨⟨o,e,ex.1⟩,fun a e2=>?_⟩
    cases e2
    exact ⟨o,e,ex.2.1⟩
 | _=>exact False.elim ty
noncomputable def tBM0 (K:PySem.W.Frag) (T:String) (r:V→List V→Hp→VK→Prop) (to:TE):TE:=fun σ H Q=>to σ H fun x H1=>tyV K T x H1∧r x [] H1 Q
noncomputable def tBM (K:PySem.W.Frag) (T:String) (r:V→List V→Hp→VK→Prop) (to:TE) (t:TA):TE:=fun σ H Q=>to σ H fun x H1=>tyV K T x H1∧t σ H1 fun xs H2=>r x xs H2 Q
variable {o e:Expr} {es:List Expr} {to:TE} {t:TA} {name:Str} {apos cpos:Pos} {T id:String} {r:V→List V→Hp→VK→Prop}
theorem Mb (pa:PlainAttrs T) (slot:Slot T name id) (hty:typeOf (.builtin id)=pure (.type "method_descriptor")) (hm:MtR X id r) (ho:PE X o to)
  (hbase:attributeBase o name X.env (eval o X.env)=eval o X.env:=by rfl) (hline:(apos.endLine == cpos.line)=true:=by rfl):PE X (.Call (.Attribute o name apos) [] [] cpos) (tBM0 X.K T r to):=by
 intro pins s σ H Q I h
 refine wpAny_Call_method0_late hbase hline (thn (ho pins s σ H _ I h) fun v s1 ⟨x,H1,I1,r1,ty,q1⟩=>?_)
 obtain ⟨h1,h2⟩:=Ip I1 r1 ty
 exact ⟨T,id,pa,slot,hty,h1,h2,Calls.callWith_builtin rfl (PySem.evalArgs_none (hm pins s1 σ H1 x [] v [] Q I1 r1 .nil q1))⟩
theorem ND (pa:PlainAttrs T) (slot:Slot T name id) (hty:typeOf (.builtin id)=pure (.type "method_descriptor")) (hm:MtR X id r) (ho:PE X o to) (ha:PA X (e::es) t)
  (hbase:attributeBase o name X.env (eval o X.env)=eval o X.env:=by rfl)
  (hfew:((backTo cpos (starEach (e::es) X.env)).all (fun x=> !x.1)&&(backToKw cpos (keywordEach [] X.env)).all (fun x=>x.1.isSome)
   &&decide ((e::es).length + ([]:List Keyword).length + (if ([]:List Keyword).isEmpty then 0 else 1) < 30))=true:=by rfl)
  (hline:(apos.endLine == cpos.line)=true:=by rfl) (hs:starEach (e::es) X.env=(false,eval e X.env)::starEach es X.env:=by rfl) (hplain:(backTo cpos (starEach es X.env)).any (·.1)=false:=by rfl):
  PE X (.Call (.Attribute o name apos) (e::es) [] cpos) (tBM X.K T r to t):=by
 intro pins s σ H Q I h
 refine wpAny_Call_method_late hbase hfew hline rfl (thn (ho pins s σ H _ I h) fun v s1 ⟨x,H1,I1,r1,ty,q1⟩=>?_)
 obtain ⟨h1,h2⟩:=Ip I1 r1 ty
 refine ⟨T,id,pa,slot,hty,h1,h2,?_⟩
 have hA:=ha cpos pins s1 σ H1 _ I1 q1
 rw [hs] at hA ⊢
 refine Calls.callWith_builtin (by show (false||(backTo cpos (starEach es X.env)).any (·.1))=false;rw [hplain]<;>rfl) (Calls.evalArgs_plain ?_)
 exact thn hA fun us s2 ⟨vs,H2,I2,r2,q2⟩=>hm pins s2 σ H2 x vs v us Q I2 r1 r2 q2
end
noncomputable def MtM (X:Cx) (id:String) (r:V→List V→Hp→VK→Prop):Prop:=
 ∀ (pins:List (Addr×Obj)) (s:Shared) (σ:St) (H:Hp) (x:V) (xs:List V) (v:Value) (us:List Value) (Q:VK),Inv X pins σ H s→RelV x v→Vals xs us→r x xs H Q→
  wpAny (model X.prog X.w) X.A (call (.builtin id) (v::us)) (EP X pins σ Q) X.xe s
theorem Vals.one:∀ {x:V} {us:List Value},Vals [x] us→∃ u,us=[u]∧RelV x u
 | _,_,.cons r .nil=>⟨_,rfl,r⟩
theorem Vals.two:∀ {x y:V} {us:List Value},Vals [x,y] us→∃ u v,us=[u,v]∧RelV x u∧RelV y v
 | _,_,_,.cons r (.cons q .nil)=>⟨_,_,rfl,r,q⟩
theorem Vals.zero:∀ {us:List Value},Vals [] us→us=[]
 | _,.nil=>rfl
theorem Vals.reverse {xs:List V} {us:List Value} (h:Vals xs us):Vals xs.reverse us.reverse:=by
 induction h with
 | nil=>exact .nil
 | cons r t ih=>rw [List.reverse_cons,List.reverse_cons];exact Vals.append ih (.cons r .nil)
section
variable {X:Cx} {pins:List (Addr×Obj)} {σ:St} {H:Hp} {s:Shared} {l b:Addr} {xs ys zs:List V}
theorem Inv.lset {its its':List Value} {n:Nat} {f:Array Value→Array Value} {t':Nat} (I:Inv X pins σ H s) (hH:H l=some (.lst xs))
  (e:s.heap.get? l=some {cls:= .type "list",data:= .seq its.toArray n}) (hf:f its.toArray=its'.toArray) (hv:Vals ys its') (hz:ys.length≤sizeLine):
  Inv X pins σ (upd H l (.lst ys)) {s with heap:=s.heap.update l (Obj.mapSeq f),toks:=t'}:=by
 have q:=PySem.IsL.update e f
 rw [hf] at q
 refine I.write (x:=l) (e:=l) (by rw [hH];exact trivial) (.inl rfl) (fun b' u hb hu=>(Heap.get?_update_other s.heap (Obj.mapSeq f) (Ne.symm hb)).trans hu) ⟨_,q⟩ ?_
 exact ⟨hz,its',_,hv,q⟩
theorem Inv.lnew {its:List Value} {t':Nat} (I:Inv X pins σ H s) (hv:Vals ys its) (hz:ys.length≤sizeLine):
  Inv X pins σ (upd H s.heap.objs.size (.lst ys)) {s with heap:=s.heap.push {cls:= .type "list",data:= .seq its.toArray},toks:=t'}:=
 I.laid (fun _ _ q=>Heap.get?_push_of_some _ q) (Nat.le_refl _) ⟨hz,its,0,hv,Heap.get?_push_size _ rfl⟩
theorem Inv.fresh (I:Inv X pins σ H s):H s.heap.objs.size=none:=I.hok.fresh (Nat.le_refl _)
theorem Inv.lstM (I:Inv X pins σ H s) (hH:H l=some (.lst xs)):xs.length≤sizeLine∧∃ (its:List Value) (n:Nat),Vals xs its∧xs.length=its.length∧s.heap.get? l=some {cls:= .type "list",data:= .seq its.toArray n}:=by
 obtain ⟨z,its,n,r,e⟩:=I.hok l _ hH
 exact ⟨z,its,n,r,r.length,e⟩
theorem Hc {n:Nat} (h:n≤sizeLine):Builtin.List.listTooLong n=false:=by
 unfold Builtin.List.listTooLong
 exact decide_eq_false (by omega)
end
section
variable {X:Cx}
noncomputable def ED:V→List V→Hp→VK→Prop:=fun x vs H Q=>∃ l xs y,x= .ref l∧vs=[y]∧H l=some (.lst xs)∧xs.length < sizeLine∧Q .non (upd H l (.lst (xs++[y])))
theorem jv:MtM X "list.append" ED:=by
 intro pins s σ H x vs v us Q I rx rv h
 obtain ⟨l,xs,y,rfl,rfl,hH,hz,q⟩:=h
 cases rx
 obtain ⟨u,rfl,ru⟩:=rv.one
 obtain ⟨z,its,n,r,hl,e⟩:=I.lstM hH
 refine call_meets F.slot_list_append ⟨_,e,rfl⟩ F.entry_list_append (F.args_list_append_2 _ _) (PySem.list_append l its.toArray n u (by rw [List.size_toArray];omega)) ⟨e,?_⟩
 refine ⟨.non,_,I.lset (its':=its++[u]) hH e (by simp) (r.append (.cons ru .nil)) ?_,rfl,q⟩
 rw [List.length_append,List.length_singleton]
 omega
noncomputable def EC:V→List V→Hp→VK→Prop:=fun x vs H Q=>∃ l b xs zs,x= .ref l∧vs=[.ref b]∧H l=some (.lst xs)∧H b=some (.lst zs)∧xs.length + zs.length≤sizeLine∧Q .non (upd H l (.lst (xs++zs)))
theorem qB:MtM X "list.extend" EC:=by
 intro pins s σ H x vs v us Q I rx rv h
 obtain ⟨l,b,xs,zs,rfl,rfl,hH,hB,hz,q⟩:=h
 cases rx
 obtain ⟨u,rfl,ru⟩:=rv.one
 cases ru
 obtain ⟨z,its,n,r,hl,e⟩:=I.lstM hH
 obtain ⟨z2,its2,n2,r2,hl2,e2⟩:=I.lstM hB
 have hsz:its.toArray.size + its2.toArray.size≤sizeLine:=by rw [List.size_toArray,List.size_toArray];omega
 have hlong:¬ (!its.toArray.isEmpty&&Builtin.List.listTooLong (its.toArray.size + its2.toArray.size))=true:=by
  rw [Hc hsz,Bool.and_false]
  exact Bool.false_ne_true
 refine call_meets F.slot_list_extend ⟨_,e,rfl⟩ F.entry_list_extend (F.args_list_extend_2 _ _)
  (AutoSeq1.list_extend_list_list_0 l its.toArray n b its2.toArray n2 hlong (by rw [List.size_toArray];omega) (by omega)) ⟨e,e2,?_⟩
 refine ⟨.non,_,I.lset (its':=its++its2) hH e (by simp) (r.append r2) ?_,rfl,q⟩
 rw [List.length_append]
 omega
noncomputable def A5:V→List V→Hp→VK→Prop:=fun x vs H Q=>∃ l xs,x= .ref l∧vs=[]∧H l=some (.lst xs)∧Q .non (upd H l (.lst xs.reverse))
theorem Ck:MtM X "list.reverse" A5:=by
 intro pins s σ H x vs v us Q I rx rv h
 obtain ⟨l,xs,rfl,rfl,hH,q⟩:=h
 cases rx
 have hus:=rv.zero
 subst hus
 obtain ⟨z,its,n,r,hl,e⟩:=I.lstM hH
 refine call_meets F.slot_list_reverse ⟨_,e,rfl⟩ F.entry_list_reverse (F.args_list_reverse_1 _) (AutoSeq1.list_reverse_list_0 l its.toArray n (by rw [List.size_toArray];omega)) ⟨e,?_⟩
 refine ⟨.non,_,I.lset (its':=its.reverse) hH e (by simp) r.reverse ?_,rfl,q⟩
 rw [List.length_reverse]
 omega
noncomputable def IE:V→List V→Hp→VK→Prop:=fun x vs H Q=>∃ l xs,x= .ref l∧vs=[]∧H l=some (.lst xs)∧Q .non (upd H l (.lst []))
theorem Bd:MtM X "list.clear" IE:=by
 intro pins s σ H x vs v us Q I rx rv h
 obtain ⟨l,xs,rfl,rfl,hH,q⟩:=h
 cases rx
 have hus:=rv.zero
 subst hus
 obtain ⟨z,its,n,r,hl,e⟩:=I.lstM hH
 refine call_meets F.slot_list_clear ⟨_,e,rfl⟩ F.entry_list_clear (F.args_list_clear_1 _) (AutoSeq1.list_clear_list_0 l its.toArray n (by rw [List.size_toArray];omega)) ⟨e,?_⟩
 exact ⟨.non,_,I.lset (its':=[]) (ys:=[]) hH e rfl .nil (Nat.zero_le _),rfl,q⟩
noncomputable def rCat:R2:=fun x y H Q=>∃ l b xs zs,x= .ref l∧y= .ref b∧H l=some (.lst xs)∧H b=some (.lst zs)∧xs.length + zs.length≤sizeLine∧∀ p,H p=none→Q (.ref p) (upd H p (.lst (xs++zs)))
theorem jY:OpR X (binaryOp .Add) rCat:=by
 intro pins s σ H x y v u Q I rx ry h
 obtain ⟨l,b,xs,zs,rfl,rfl,hH,hB,hz,q⟩:=h
 cases rx
 cases ry
 obtain ⟨z,its,n,r,hl,e⟩:=I.lstM hH
 obtain ⟨z2,its2,n2,r2,hl2,e2⟩:=I.lstM hB
 refine PySem.P.add_list e e2 ?_ (by rw [List.size_toArray,List.size_toArray];omega)
 have ea:its.toArray++its2.toArray=(its++its2).toArray:=by simp
 rw [ea]
 exact ⟨.ref _,_,I.lnew (t':=s.toks) (r.append r2) (by rw [List.length_append];omega),rfl,q _ I.fresh⟩
end
end L2
namespace Att
open PySem PySem.W PySem.Calls PyProof.Rows
theorem qV {P:Params} {h:Heap}:∀ (ns:List Int) (vs:List Value),WellAll P h vs (ns.map WData.int)→IntsAre vs ns:=by
 intro ns
 induction ns with
 | nil=>
   intro vs w
   rw [List.map_nil] at w
   cases w
   exact .nil
 | cons n ns ih=>
   intro vs w
   rw [List.map_cons] at w
   cases w with
   | cons a b=>
     cases a
     exact .cons _ _ (ih _ b)
theorem El {l:OpenLaw} {n:Nat} (hn:l.most=some n) {P:Params} {h:Heap} {args:List WData} {vals:List Value}
  (hpre:l.row.toRowW.claim.pre args=true) (hwl:WellAll P h vals args):
  ∃ a vs ns,vals=[Value.ref a]∧args=[WData.list (ns.map WData.int)]∧h.get? a=some {cls:= .type "list",data:= .seq vs.toArray}∧IntsAre vs ns∧ns.length≤n:=by
 have hsh:WShape.hasAll [] args [.list .int]=true:=(pre_splitW hpre).1
 have hc:l.pre.holds [] {args:=args}=true:=(pre_splitW hpre).2
 obtain ⟨d,r,rfl,h1,h2⟩:=hasAllW_cons hsh
 obtain rfl:=hasAllW_nil h2
 obtain ⟨xs,rfl,h3⟩:=hasW_list h1
 obtain ⟨ns,rfl⟩:=items_int h3
 have hlen:ns.length≤n:=by
  unfold OpenLaw.pre at hc
  have h4:(WTm.not (.lt (.lit (.int (n:Int))) (.len (.arg 0)))).holds [] {args:=[.list (ns.map .int)]}=true:=by
   have h4:=(holds_andW hc).1
   rw [hn] at h4
   exact h4
  have h5:=condW_of h4 (w_not (w_lt w_lit (w_len_list (w_arg rfl))))
  rw [List.length_map] at h5
  refine Nat.le_of_not_lt fun q=>?_
  have q':(n:Int) < ((ns.length:Nat):Int):=by omega
  first
   | (rw [decide_eq_true q'] at h5;exact absurd h5 (by decide))
   | (simp at h5;omega)
 cases hwl with
 | cons w1 w2=>
   cases w2
   cases w1 with
   | list ho hall=>exact ⟨_,_,ns,rfl,rfl,ho,qV ns _ hall,hlen⟩
theorem EN (l:OpenLaw) (args:List WData):l.row.toRowW.claim.post args (.bool true) args=true:=
 postW_of (r:=l.row.toRowW) (X:=(true == true))
  (show WShape.has [] (.bool true) .bool=true by first | rfl | decide | simp [WShape.has,WShape.arms,WShape.armsAll])
  (show (WTm.eq .res (.lit (.bool true))).value [] {args:=args,res:=some (.bool true),after:=args}=some (.bool (true == true)) from w_eq_bool (w_res rfl) w_lit) rfl
theorem attach_call {l:OpenLaw} {n:Nat} {q:Program} {loose:List Str} {XP:(Str→Option Value)→Heap→Prop} {YP:World→Heap→Prop} {d:DefRec}
  (hn:l.most=some n) (hdf:d.params.defaults=[])
  (call:∀ (w:World) (s₀ s₁:Shared) (mg mb:Str→Option Value) (fa:Addr) (o:Obj) (pm cd doc:Value) (a:Addr) (vs:List Value) (ns:List Int),
   Ground q loose [] XP w s₀ mg mb s₁.heap→YP w s₁.heap→
   s₁.heap.get? fa=some o→o.data= .func (docDef d.name d.params d.body d.scope pm cd doc)→s₁.heap.CodeRec cd d.name→mg d.name=some (.ref fa)→
   s₁.heap.get? a=some {cls:= .type "list",data:= .seq vs.toArray}→IntsAre vs ns→ns.length≤n→s₁.gens=#[]→
   codeAny (model l.prog w) callerA (.call (.ref fa) ⟨[.ref a],[]⟩) (fun r s'=>r= .ok (.ret (.bool true))∧OldK s₁.heap s'.heap∧s'.os=s₁.os∧AllBare s'.gens) s₁):
  WalkO q loose XP YP l.row.toRowW d [] (fun f vs=>PySem.call f vs):=by
 intro w s₀ s₁ mg mb G Y fa o pm cd doc dV kV ho hd hcd hD hmg hg args vals as hpre hlay hrd hwl hlo
 obtain rfl:dV= .none:=Dflts.none hD hdf
 obtain rfl:kV= .none:=Dflts.noKw hD
 obtain ⟨a,vs,ns,rfl,rfl,hobj,hints,hlen⟩:=El hn hpre hwl
 refine enter_call (codeAny_mono (call w s₀ s₁ mg mb fa o pm cd doc a vs ns G Y ho (fd_plain hd) hcd hmg hobj hints hlen hg) fun r s' hq=>?_)
 obtain ⟨rfl,h2,h3,h4⟩:=hq
 exact ⟨.inl ⟨.bool true,.bool true,[],rfl,fun _=>rfl,.bool true,EN l _,fun _=>⟨List.Pairwise.nil,fun _ hm=>(nomatch hm)⟩⟩,h2,h3,h4⟩
end Att
namespace L2
open PySem PySem.Spec PyProof.Rows
theorem wS:∀ {vs:List Value} {ns:List Int},IntsAre vs ns→Vals (ns.map V.int) vs
 | _,_,.nil=> .nil
 | _,_,.cons n t h=> .cons ⟨t,rfl⟩ (wS h)
noncomputable def Only (H:Hp):Prop:=∀ b,H b=none∨∃ o xs,H b=some (.frz o (.lst xs))
theorem Ht {P:Program} {w:World} {K:PySem.W.Frag} {mg mb:Str→Option Value} {CX:CXT} {k:Nat} {fa a:Addr} {fd:FuncData} {x:Str} {sp:Sp} {s₁:Shared} {vs:List Value} {ns:List Int}
  (KX:K.In s₁.heap) (hns:s₁.heap.Ns mainGlobals mg) (hb:s₁.heap.Ns builtinsNs mb) (hbb:∀ x:Str,x≠"__name__"→mb x=bootBuiltins x) (hlim:s₁.heap.NoLimit) (hg:s₁.gens=#[])
  (ha:s₁.heap.get? a=some {cls:= .type "list",data:= .seq vs.toArray}) (hi:IntsAre vs ns) (hl:ns.length≤sizeLine) (hr:Room k callerA)
  (F:∀ base:Heap,K.In base→base.Ns mainGlobals mg→FnOk P w K mg base CX k fa fd [x] sp) (hbind:∀ (s:Shared) (u:Value),BindsTo s fd ⟨[u],[]⟩ [(x,u)])
  (hsp:∀ H:Hp,Only H→SqL K H a (ns.map V.int)→sp [.ref a] H (fun v _=>v= .bl true) fun _ _ _=>False)
  (hCX:∀ H e s',CX [] H s₁ (fun _ _ _=>False) e s'→False):
  codeAny (model P w) callerA (.call (.ref fa) ⟨[.ref a],[]⟩) (fun r s'=>r= .ok (.ret (.bool true))∧OldK s₁.heap s'.heap∧s'.os=s₁.os∧AllBare s'.gens) s₁:=by
 have rv:=wS hi
 have lenV:=hi.length
 have core:∀ H:Hp,Only H→SqL K H a (ns.map V.int)→HOk P w H s₁.heap→(∀ b,H b≠none→b=a)→(H a≠none→K.lookup a=none)→
   codeAny (model P w) callerA (.call (.ref fa) ⟨[.ref a],[]⟩) (fun r s'=>r= .ok (.ret (.bool true))∧OldK s₁.heap s'.heap∧s'.os=s₁.os∧AllBare s'.gens) s₁:=by
  intro H hO hS hok hA hK
  have base_of:∀ {b:Addr} {o:Obj},s₁.heap.get? b=some o→H b=none→(hidT s₁.heap H).get? b=some o:=fun e n=>HM e n
  have noA:∀ {b:Addr} {o:Obj} {es:Array DictEntry} {ep:Nat},s₁.heap.get? b=some o→o.data= .dict es ep→H b=none:=fun {b o es ep} e d=>by
   cases q:H b with
   | none=>rfl
   | some u=>
     have e':b=a:=hA b (by rw [q];simp)
     subst e'
     rw [ha] at e;cases e
     have d':Data.seq vs.toArray _=Data.dict es ep:=d
     cases d'
  have nsK:∀ {b:Addr} {m:Str→Option Value},s₁.heap.Ns b m→(hidT s₁.heap H).Ns b m:=fun {b m} ⟨o,es,ep,e,d,r⟩=>⟨o,es,ep,base_of e (noA e d),d,r⟩
  have hKb:K.In (hidT s₁.heap H):=fun b o e=>base_of (KX b o e) (by
   cases q:H b with
   | none=>rfl
   | some u=>
     have e':b=a:=hA b (by rw [q];simp)
     subst e'
     rw [hK (by rw [q];simp)] at e;cases e)
  have hM:Mod K mg (hidT s₁.heap H):=⟨hKb,nsK hns,⟨mb,nsK hb,hbb⟩,let ⟨mc,h1,h2⟩:=hlim;⟨mc,nsK h1,h2⟩⟩
  have e0:Env0 P w K mg (hidT s₁.heap H) callerA [] s₁ H:=⟨rfl,hM,fun b o e=>JV e,Nat.le_of_eq (FC _ _),trivial,fun b hb=>absurd (show b∈([]:List Addr) from hb) (by simp),hok,.of_eq hg⟩
  refine codeAny_mono ((F _ hKb (nsK hns)).run callerA [] s₁ H ⟨[.ref a],[]⟩ [.ref a] [.ref a] _ _ hr e0 (hbind s₁ (.ref a)) (.cons rfl .nil) (hsp H hO hS)) fun r s' h=>?_
  cases r with
  | error e=>exact (hCX H e s' h).elim
  | ok fl=>
    cases fl with
    | next=>exact False.elim h
    | brk=>exact False.elim h
    | cont=>exact False.elim h
    | ret u=>
      obtain ⟨v,H',os,bare,un,hok',r',q⟩:=h
      have q':v= .bl true:=q
      subst q'
      obtain rfl:u=Value.bool true:=r'
      refine ⟨rfl,OldK.of_keep fun b o e=>?_,os,bare⟩
      cases q:H b with
      | none=>exact un.keep b o e q (by intro z;exact absurd (show b∈([]:List Addr) from z) (by simp)) (by simp)
      | some u=>
        rcases hO b with z | ⟨ob,xs,z⟩
        ·rw [q] at z;cases z
        ·have z2:=un.frzs b ob _ z
         obtain ⟨e1,_⟩:=hok b _ z
         obtain ⟨e2,_⟩:=hok' b _ z2
         rw [e] at e1;cases e1
         exact e2
 cases hk:K.lookup a with
 | some o=>
   have e:=KX a o hk
   rw [ha] at e
   cases e
   refine core (fun _=>none) (fun _=> .inl rfl) (.inr ⟨_,vs.toArray,_,hk,rfl,rfl,rfl,by rw [List.size_toArray,lenV];exact hl,by simpa using rv⟩) (fun b u z=>by have z':(none:Option HO)=some u:=z;cases z') (fun b z=>absurd rfl z) fun z=>absurd rfl z
 | none=>
   refine core (fun b=>if b=a then some (.frz {cls:= .type "list",data:= .seq vs.toArray} (.lst (ns.map V.int))) else none) (fun b=>?_) (.inl (.inr ⟨{cls:= .type "list",data:= .seq vs.toArray},if_pos rfl⟩)) (fun b u z=>?_) (fun b z=>?_) fun _=>hk
   ·by_cases hb:b=a
    ·exact .inr ⟨_,_,if_pos hb⟩
    ·exact .inl (if_neg hb)
   ·by_cases hb:b=a
    ·have z':=(if_pos hb).symm.trans z
     cases z'
     subst hb
     exact ⟨ha,by rw [List.length_map];exact hl,vs,_,rv,ha⟩
    ·have z':=(if_neg hb).symm.trans z
     cases z'
   ·by_cases hb:b=a
    ·exact hb
    ·exact absurd (if_neg hb) z
theorem walk_of {l:PySem.W.OpenLaw} {n k:Nat} {q:Program} {loose:List Str} {XP:(Str→Option Value)→Heap→Prop} {YP:World→Heap→Prop} {d:DefRec} {K:Params→PySem.W.Frag} {CX:World→CXT} {sp:World→Sp} {x:Str}
  (hn:l.most=some n) (hn2:n≤sizeLine) (hdf:d.params.defaults=[]) (hr:Room k callerA)
  (hY:∀ (w:World) (h:Heap),YP w h→(K w.params).In h)
  (F:∀ (w:World) (mg:Str→Option Value) (fa:Addr) (h:Heap),(K w.params).In h→h.Ns mainGlobals mg→mg d.name=some (.ref fa)→
   ∃ fd:FuncData,(∀ (s:Shared) (u:Value),BindsTo s fd ⟨[u],[]⟩ [(x,u)])∧
     ∀ base:Heap,(K w.params).In base→base.Ns mainGlobals mg→FnOk l.prog w (K w.params) mg base (CX w) k fa fd [x] (sp w))
  (hsp:∀ (w:World) (H:Hp) (a:Addr) (ns:List Int),ns.length≤n→Only H→SqL (K w.params) H a (ns.map V.int)→sp w [.ref a] H (fun v _=>v= .bl true) fun _ _ _=>False)
  (hCX:∀ (w:World) (H:Hp) (s:Shared) (e:Value) (s':Shared),CX w [] H s (fun _ _ _=>False) e s'→False):
  PySem.W.WalkO q loose XP YP l.row.toRowW d [] (fun f vs=>PySem.call f vs):=by
 refine Att.attach_call hn hdf fun w s₀ s₁ mg mb fa o pm cd doc a vs ns G Y ho hd hcd hmg hobj hints hlen hg=>?_
 have KX:=hY w _ Y
 obtain ⟨fd,hb,hF⟩:=F w mg fa _ KX G.T.g hmg
 exact Ht KX G.T.g G.T.b G.T.builtins G.T.nolimit hg hobj hints (Nat.le_trans hlen hn2) hr hF hb (fun H hO hS=>hsp w H a ns hlen hO hS) fun H e s'=>hCX w H s₁ e s'
noncomputable def dE (s:Stmt) (j:Nat):Stmt:=match s with
 | .ClassDef _ _ _ body _ _ _ _ _ _ _=>body.getD j (.Pass ⟨0,0,0,0⟩)
 | _=> .Pass ⟨0,0,0,0⟩
noncomputable def aF (s:Stmt):Arguments:=match s with
 | .FunctionDef _ a _ _ _ _ _ _ _ _=>a
 | _=>{posonlyargs:=[],args:=[],vararg:=none,kwonlyargs:=[],kw_defaults:=[],kwarg:=none,defaults:=[]}
noncomputable def aD (s:Stmt):List Stmt:=match s with
 | .FunctionDef _ _ b _ _ _ _ _ _ _=>b
 | _=>[]
noncomputable def af (s:Stmt):Scope:=match s with
 | .FunctionDef _ _ _ _ _ _ sc _ _ _=>sc
 | _=>{kind:= .function,names:=[],isGenerator:=false,isCoroutine:=false}
noncomputable abbrev CX0:CXT:=fun _ _ _ _ _ _=>False
noncomputable abbrev E0:XK:=fun _ _ _=>False
theorem a0 {X:Cx}:oz CX0 X E0:=fun _ _ _ _ _ _ _ h=>h.elim
structure Fun (K:PySem.W.Frag) (x qual:Str) (st:Stmt) (f:Addr) (fd:FuncData):Prop where
 ex:∃ (oc:Value) (od:Option Addr) (kV doc pm:Value) (an:Option Addr) (cdv ct:Value) (osl:Array (Option Value)),
  fd=PySem.W.fnOf x qual (aF st) (aD st) (af st) .none kV doc pm an cdv ct∧K.lookup f=some ⟨oc,od,.func fd,osl⟩∧PySem.W.codeIn K cdv qual=true
 kp:PySem.W.keepIn K (.ref f)=true
section
variable {P:Program} {w:World} {K:PySem.W.Frag} {mg:Str→Option Value} {base:Heap}
theorem Fun.ok {x qual:Str} {st:Stmt} {f:Addr} {fd:FuncData} {N ps:List Str} {k:Nat} {sp:Sp} (F:Fun K x qual st f fd) (S:aG N ps (af st)) (len:∀ vs H Q E,sp vs H Q E→vs.length=ps.length)
  (hbody:∀ (cdv:Value) (A:Around) (outer:List Env) (s:Shared) (H:Hp) (vs:List V) (Q:VK) (E:XK),Room k (A.deeper (envOfC qual (af st) s.heap.objs.size f cdv))→sp vs H Q E→
   ∃ t,PSs (cxOf CX0 P w K mg base N qual (af st) f cdv A outer s H E).nox (aD st) t∧t {nx:=fun _ H'=>Q .non H',rt:=Q} (start N vs) H):FnOk P w K mg base CX0 (k + 1) f fd ps sp:=by
 obtain ⟨oc,od,kV,doc,pm,an,cdv,ct,osl,rfl,lk,hcd⟩:=F.ex
 refine MD lk hcd S len fun A outer s H vs Q E hr hsp=>?_
 obtain ⟨t,h,q⟩:=hbody cdv A outer s H vs Q E hr hsp
 exact ⟨t,h.nox,q⟩
theorem Fun.binds {x qual:Str} {st:Stmt} {f:Addr} {fd:FuncData} {ps:List Str} (F:Fun K x qual st f fd)
  (h:∀ (kV doc pm:Value) (an:Option Addr) (cdv ct:Value) (us:List Value),us.length=ps.length→bindArgs (PySem.W.fnOf x qual (aF st) (aD st) (af st) .none kV doc pm an cdv ct) ⟨us,[]⟩=pure (ps.zip us)):bP K fd ps []:=by
 obtain ⟨oc,od,kV,doc,pm,an,cdv,ct,osl,rfl,lk,hcd⟩:=F.ex
 exact .all (h kV doc pm an cdv ct)
theorem bD {x qual:Str} {st:Stmt} {f:Addr} {oc:Value} {od an:Option Addr} {osl:Array (Option Value)} {kV doc pm cdv ct:Value} (l:K.lookup f=some ⟨oc,od,.func (PySem.W.fnOf x qual (aF st) (aD st) (af st) .none kV doc pm an cdv ct),osl⟩)
  (c:PySem.W.codeIn K cdv qual=true) (k:PySem.W.keepIn K (.ref f)=true):Fun K x qual st f (PySem.W.fnOf x qual (aF st) (aD st) (af st) .none kV doc pm an cdv ct):=⟨⟨oc,od,kV,doc,pm,an,cdv,ct,osl,rfl,l,c⟩,k⟩
end
theorem Hz {A:Around} {k:Nat} (hr:Room k A):A.units + 1 < cLine:=Nat.lt_of_le_of_lt (Nat.add_le_add_left (by decide:1≤64) _) hr.units
theorem bz {n:Nat} (h:n≤1000):n < sizeLine:=Nat.lt_of_le_of_lt h (by decide)
section
variable {X:Cx}
theorem pv (i:Nat) {x:Str} {pos:Pos} (hN:X.N[i]? =some x:=by rfl) (hv:Vis X.env.scope x:=by first | exact Or.inl rfl | exact Or.inr (Or.inl rfl) | exact Or.inr (Or.inr rfl)) (hd:(x == ("__debug__":Str))=false:=by decide)
  (hcd:(x == ("__classdict__":Str))=false:=by decide):PE X (.Name x pos) (tVar i):=L6 hN hv hd hcd
end
theorem ite2 {c A B:Prop} [Decidable c] (h1:c→A) (h2:¬ c→B):if c then A else B:=by
 by_cases h:c
 ·rw [if_pos h]
  exact h1 h
 ·rw [if_neg h]
  exact h2 h
noncomputable def Same (H H':Hp):Prop:=∀ b o,H b=some o→H' b=some o
theorem Same.refl (H:Hp):Same H H:=fun _ _ h=>h
theorem Same.trans {H H1 H2:Hp} (a:Same H H1) (b:Same H1 H2):Same H H2:=fun c o h=>b c o (a c o h)
theorem Same.free {H H':Hp} (e:Same H H') {l:Addr} (h:H' l=Option.none):H l=Option.none:=by
 cases q:H l with
 | none=>rfl
 | some o=>
   rw [e l o q] at h
   cases h
theorem Same.seq {K:PySem.W.Frag} {H H':Hp} {a:Addr} {xs:List V} (e:Same H H') (h:SqL K H a xs):SqL K H' a xs:=by
 rcases h with (h | ⟨o,h⟩) | h
 ·exact .inl (.inl (e _ _ h))
 ·exact .inl (.inr ⟨o,e _ _ h⟩)
 ·exact .inr h
section
variable {κ:Type} [DecidableEq κ]
noncomputable def valV (kvs:List (κ×V)) (k:κ):Option V:=(kvs.find? fun kv=>decide (kv.1=k)).map (·.2)
noncomputable def putK (kvs:List (κ×V)) (k:κ) (v:V):List (κ×V):=
 if (kvs.any fun kv=>decide (kv.1=k))=true then kvs.map (fun kv=>if kv.1=k then (kv.1,v) else kv) else kvs++[(k,v)]
theorem pH {p:κ×V} {r:List (κ×V)} {k:κ} (e:p.1=k):valV (p::r) k=some p.2:=by simp [valV,List.find?_cons,e]
theorem pI {p:κ×V} {r:List (κ×V)} {k:κ} (e:¬ p.1=k):valV (p::r) k=valV r k:=by simp [valV,List.find?_cons,e]
theorem kO (k:κ):∀ kvs:List (κ×V),(kvs.any fun kv=>decide (kv.1=k))=(valV kvs k).isSome
 | []=>rfl
 | p::r=>by
   rw [List.any_cons]
   by_cases e:p.1=k
   ·simp only [pH e,decide_eq_true e,Bool.true_or,Option.isSome_some]
   ·rw [pI e,decide_eq_false e,Bool.false_or];exact kO k r
theorem qI (kvs:List (κ×V)) (k:κ) (v:V):(putK kvs k v).length≤kvs.length + 1:=by
 unfold putK
 split
 ·rw [List.length_map];omega
 ·rw [List.length_append,List.length_cons,List.length_nil];omega
theorem RelO.isSome_eq {o:Option V} {u:Option Value} (r:RelO o u):o.isSome=u.isSome:=by
 cases o with
 | none=>cases u with
   | none=>rfl
   | some _=>exact (show False from r).elim
 | some _=>cases u with
   | none=>exact (show False from r).elim
   | some _=>rfl
theorem KV.val {kvs:List (κ×V)} {vs:List (κ×Value)} (r:KV kvs vs) (k:κ):RelO (valV kvs k) (valueAt vs k):=by
 unfold KV at r
 induction r with
 | nil=>exact True.intro
 | @cons p q ps qs h t ih=>
   obtain ⟨h1,h2⟩:=h
   by_cases e:p.1=k
   ·have e':q.1=k:=h1.symm.trans e
    have b:valueAt (q::qs) k=some q.2:=by simp [valueAt,List.find?_cons,e']
    rw [pH e,b];exact h2
   ·have e':¬ q.1=k:=fun z=>e (h1.trans z)
    have b:valueAt (q::qs) k=valueAt qs k:=by simp [valueAt,List.find?_cons,e']
    rw [pI e,b];exact ih
theorem KV.any {kvs:List (κ×V)} {vs:List (κ×Value)} (r:KV kvs vs) (k:κ):(kvs.any fun kv=>decide (kv.1=k))=vs.any fun kv=>decide (kv.1=k):=by
 unfold KV at r
 induction r with
 | nil=>rfl
 | cons h t ih=>rw [List.any_cons,List.any_cons,ih,h.1]
theorem KV.repl {kvs:List (κ×V)} {vs:List (κ×Value)} (r:KV kvs vs) (k:κ) {y:V} {u:Value} (ry:RelV y u):
  KV (kvs.map fun kv=>if kv.1=k then (kv.1,y) else kv) (vs.map fun kv=>if kv.1=k then (kv.1,u) else kv):=by
 unfold KV at r ⊢
 induction r with
 | nil=>exact .nil
 | @cons p q ps qs h t ih=>
   rw [List.map_cons,List.map_cons]
   refine .cons ?_ ih
   obtain ⟨h1,h2⟩:=h
   by_cases e:p.1=k
   ·rw [if_pos e,if_pos (h1.symm.trans e)];exact ⟨h1,ry⟩
   ·rw [if_neg e,if_neg (fun z=>e (h1.trans z))];exact ⟨h1,h2⟩
theorem KV.put {kvs:List (κ×V)} {vs:List (κ×Value)} (r:KV kvs vs) (k:κ) {y:V} {u:Value} (ry:RelV y u):KV (putK kvs k y) (stored vs k u):=by
 unfold putK stored
 rw [r.any k]
 by_cases e:(vs.any fun kv=>decide (kv.1=k))=true
 ·rw [if_pos e,if_pos e];exact r.repl k ry
 ·rw [if_neg e,if_neg e];exact Paired.snoc r ⟨rfl,ry⟩
theorem KV.keys {kvs:List (κ×V)} {vs:List (κ×Value)} (r:KV kvs vs):kvs.map (·.1)=vs.map (·.1):=by
 unfold KV at r
 induction r with
 | nil=>rfl
 | cons h t ih=>rw [List.map_cons,List.map_cons,ih,h.1]
theorem KV.length {kvs:List (κ×V)} {vs:List (κ×Value)} (r:KV kvs vs):kvs.length=vs.length:=Paired.length r
end
theorem CB {P:Program} {w:World} {k:Key} {u:Value} (r:RelV (kV k) u):(cH P w).is k u=true:=by
 cases k with
 | inl i=>obtain ⟨t,e⟩:=(show ∃ t,u=Value.int i t from r);subst e;exact zS P w i t
 | inr x=>obtain ⟨t,e⟩:=(show ∃ t,u=Value.str x t from r);subst e;exact zR P w x t
theorem yn {P:Program} {w:World}:∀ {ks:List Key} {us:List Value},Vals (ks.map kV) us→ItemsAre (cH P w) ks us
 | [],_,r=>by rw [List.map_nil] at r;cases r;exact .nil
 | k::ks,_,r=>by
   rw [List.map_cons] at r
   cases r with
   | cons h t=>exact .cons (CB h) (yn t)
noncomputable abbrev KT (H:Hp):List (List Key×V)→List (List Key×Addr×Value)→Prop:=Paired fun p q=>p.1=q.1∧H q.2.1=some (.tup (p.1.map kV))∧RelV p.2 q.2.2
theorem KT.val {H:Hp} {kvs:List (List Key×V)} {xs:List (List Key×Addr×Value)} (r:KT H kvs xs) (k:List Key):RelO (valV kvs k) ((atKey xs k).map (·.2)):=by
 induction r with
 | nil=>exact True.intro
 | @cons p q ps qs h t ih=>
   obtain ⟨h1,_,h2⟩:=h
   by_cases e:p.1=k
   ·have e':q.1=k:=h1.symm.trans e
    have b:atKey (q::qs) k=some q.2:=by simp [atKey,List.find?_cons,e']
    rw [pH e,b];exact h2
   ·have e':¬ q.1=k:=fun z=>e (h1.trans z)
    have b:atKey (q::qs) k=atKey qs k:=by simp [atKey,List.find?_cons,e']
    rw [pI e,b];exact ih
theorem KT.repl {H:Hp} {kvs:List (List Key×V)} {xs:List (List Key×Addr×Value)} (r:KT H kvs xs) (k:List Key) {y:V} {u:Value} (ry:RelV y u):
  KT H (kvs.map fun kv=>if kv.1=k then (kv.1,y) else kv) (xs.map (putAt k u)):=by
 induction r with
 | nil=>exact .nil
 | @cons p q ps qs h t ih=>
   rw [List.map_cons,List.map_cons]
   refine .cons ?_ ih
   obtain ⟨h1,h2,h3⟩:=h
   unfold putAt
   by_cases e:p.1=k
   ·rw [if_pos e,if_pos (h1.symm.trans e)];exact ⟨h1,h2,ry⟩
   ·rw [if_neg e,if_neg (fun z=>e (h1.trans z))];exact ⟨h1,h2,h3⟩
theorem KT.put {H:Hp} {kvs:List (List Key×V)} {xs:List (List Key×Addr×Value)} (r:KT H kvs xs) (k:List Key) {b:Addr} {y:V} {u:Value} (hb:H b=some (.tup (k.map kV))) (ry:RelV y u):
  KT H (putK kvs k y) (storedH xs k b u):=by
 have e:(kvs.any fun kv=>decide (kv.1=k))=(atKey xs k).isSome:=by
  rw [kO,(r.val k).isSome_eq,Option.isSome_map]
 unfold putK storedH
 rw [e]
 by_cases q:(atKey xs k).isSome=true
 ·rw [if_pos q,if_pos q];exact r.repl k ry
 ·rw [if_neg q,if_neg q];exact Paired.snoc r ⟨rfl,hb,ry⟩
theorem KT.keeps {H H':Hp} {kvs:List (List Key×V)} {xs:List (List Key×Addr×Value)} (r:KT H kvs xs) (ht:∀ b ys,H b=some (.tup ys)→H' b=some (.tup ys)):KT H' kvs xs:=
 Paired.mapP r fun _ _ z=>⟨z.1,ht _ _ z.2.1,z.2.2⟩
section
variable {P:Program} {w:World} {H:Hp} {h:Heap} {a:Addr}
theorem LQ {u:HO} (ok:HOk P w H h) (e:Rd H a u):dh P w H h a u:=e.ok ok
theorem FP {kvs:List (Key×V)} (ok:HOk P w H h) (e:Rd H a (.dK kvs)):kvs.length≤sizeLine∧(a == sysModules)=false∧∃ vs,KV kvs vs∧h.DictOf (cH P w) a vs:=
 show dh P w H h a (.dK kvs) from LQ ok e
theorem MJ {kvs:List (Key×V)} (ok:HOk P w H h) (e:H a=some (.dK kvs)):kvs.length≤sizeLine∧(a == sysModules)=false∧∃ vs,KV kvs vs∧h.DictOf (cH P w) a vs:=FP ok (.inl e)
theorem yj {ks:List Key} (ok:HOk P w H h) (e:H a=some (.tup (ks.map kV))):(tupleKind (cH P w)).is h ks a:=by
 obtain ⟨_,its,r,o,h1,h2,n,h3⟩:=(show dh P w H h a (.tup (ks.map kV)) from ok a _ e)
 exact ⟨o,its.toArray,n,h1,h2,h3,by simpa using yn r⟩
theorem FO {kvs:List (List Key×V)} (ok:HOk P w H h) (e:Rd H a (.dT kvs)):kvs.length≤sizeLine∧(a == sysModules)=false∧
  ∃ xs,KT H kvs xs∧h.DictOfH (tupleKind (cH P w)) a xs:=by
 obtain ⟨z,y,xs,r,o,es,ep,h1,h2,h3,h4,h5⟩:=(show dh P w H h a (.dT kvs) from LQ ok e)
 refine ⟨z,y,xs,r,o,es,ep,h1,h2,h3,h4,fun x hx=>?_,h5⟩
 have all:∀ {l:List (List Key×V)} {m:List (List Key×Addr×Value)},KT H l m→∀ x∈m,(tupleKind (cH P w)).is h x.1 x.2.1:=by
  intro l m q
  induction q with
  | nil=>intro x hx;exact nomatch hx
  | @cons p q ps qs hq t ih=>
    intro x hx
    rcases List.mem_cons.mp hx with e | hx
    ·subst e
     exact yj ok (by rw [← hq.1];exact hq.2.1)
    ·exact ih x hx
 exact all r x hx
theorem NL {kvs:List (List Key×V)} (ok:HOk P w H h) (e:H a=some (.dT kvs)):kvs.length≤sizeLine∧(a == sysModules)=false∧
  ∃ xs,KT H kvs xs∧h.DictOfH (tupleKind (cH P w)) a xs:=FO ok (.inl e)
end
noncomputable def DGet (H:Hp) (a:Addr) (y:V) (r:Option V):Prop:=
 (∃ kvs k,Rd H a (.dK kvs)∧y=kV k∧r=valV kvs k)∨∃ kvs k b,Rd H a (.dT kvs)∧y= .ref b∧H b=some (.tup (k.map kV))∧r=valV kvs k
noncomputable def DPut (H:Hp) (a:Addr) (y v:V) (H':Hp):Prop:=
 (∃ kvs k,H a=some (.dK kvs)∧y=kV k∧kvs.length < sizeLine∧H'=upd H a (.dK (putK kvs k v)))∨
 ∃ kvs k b,H a=some (.dT kvs)∧y= .ref b∧H b=some (.tup (k.map kV))∧kvs.length < sizeLine∧H'=upd H a (.dT (putK kvs k v))
theorem DGet.k {H:Hp} {a:Addr} {kvs:List (Key×V)} {k:Key} (e:H a=some (.dK kvs)):DGet H a (kV k) (valV kvs k):= .inl ⟨kvs,k,.inl e,rfl,rfl⟩
theorem DPut.k {H:Hp} {a:Addr} {kvs:List (Key×V)} {k:Key} {v:V} (e:H a=some (.dK kvs)) (hl:kvs.length < sizeLine):DPut H a (kV k) v (upd H a (.dK (putK kvs k v))):= .inl ⟨kvs,k,e,rfl,hl,rfl⟩
section
variable {X:Cx} {pins:List (Addr×Obj)} {σ:St} {H:Hp} {s:Shared} {a:Addr} {y v:V} {u r:Value} {o:Option V} {A:Around} {E:Value→Shared→Prop}
theorem Inv.big (I:Inv X pins σ H s):sysModules < s.heap.objs.size:=by
 have h:mainGlobals < s.heap.objs.size:=(I.mod.glob.keeps I.bk).lt
 exact Nat.lt_trans (by decide) h
theorem FU {Q:Value→Shared→Prop} (hu:A.units + 1 < cLine) (I:Inv X pins σ H s) (g:DGet H a y (some v)) (ry:RelV y u) (h:∀ w' s',Inv X pins σ H s'→RelV v w'→Q w' s'):
  wpAny (model X.prog X.w) A (getItem (.ref a) u) Q E s:=by
 rcases g with ⟨kvs,k,e,ey,l⟩ | ⟨kvs,k,b,e,ey,eb,l⟩
 ·subst ey
  obtain ⟨z,hd,vs,rel,dd⟩:=FP I.hok e
  obtain ⟨w',hw,rw'⟩:=RelO.some_of (v:=v) (o:=valueAt vs k) (by rw [l];exact rel.val k)
  exact wpAny_getItem_of (CB ry) dd.mapOf hw (h w' _ (I.tok _) rw')
 ·subst ey
  cases (show u=Value.ref b from ry)
  obtain ⟨z,hd,xs,rel,dd⟩:=FO I.hok e
  obtain ⟨w',hw,rw'⟩:=RelO.some_of (v:=v) (o:=(atKey xs k).map (·.2)) (by rw [l];exact rel.val k)
  obtain ⟨p,hp,hp2⟩:=Option.map_eq_some_iff.mp hw
  refine wpAny_getItem_heap (tupleKind_room_in1 hu) (yj I.hok eb) dd hp ?_
  rw [hp2]
  exact h w' _ (I.tok _) rw'
theorem d_in {Q:Value→Shared→Prop} (hu:A.units + 1 < cLine) (I:Inv X pins σ H s) (g:DGet H a y o) (ry:RelV y u) (h:∀ s',Inv X pins σ H s'→Q (.bool o.isSome) s'):
  wpAny (model X.prog X.w) A (compareOp .In u (.ref a)) Q E s:=by
 rcases g with ⟨kvs,k,e,ey,l⟩ | ⟨kvs,k,b,e,ey,eb,l⟩
 ·subst ey
  obtain ⟨z,hd,vs,rel,dd⟩:=FP I.hok e
  refine wpAny_in_of (CB ry) hd dd.mapOf ?_
  rw [← (rel.val k).isSome_eq,← l]
  exact h _ (I.tok _)
 ·subst ey
  cases (show u=Value.ref b from ry)
  obtain ⟨z,hd,xs,rel,dd⟩:=FO I.hok e
  refine wpAny_in_heap (tupleKind_room_in1 hu) (yj I.hok eb) hd dd ?_
  have q:=(rel.val k).isSome_eq
  rw [Option.isSome_map] at q
  rw [← q,← l]
  exact h _ (I.tok _)
theorem Ky {Q:Value→Shared→Prop} (hu:A.units + 1 < cLine) (I:Inv X pins σ H s) (g:DGet H a y o) (ry:RelV y u) (h:∀ s',Inv X pins σ H s'→Q (.bool (!o.isSome)) s'):
  wpAny (model X.prog X.w) A (compareOp .NotIn u (.ref a)) Q E s:=by
 rcases g with ⟨kvs,k,e,ey,l⟩ | ⟨kvs,k,b,e,ey,eb,l⟩
 ·subst ey
  obtain ⟨z,hd,vs,rel,dd⟩:=FP I.hok e
  refine wpAny_notIn_of (CB ry) hd dd.mapOf ?_
  rw [← (rel.val k).isSome_eq,← l]
  exact h _ (I.tok _)
 ·subst ey
  cases (show u=Value.ref b from ry)
  obtain ⟨z,hd,xs,rel,dd⟩:=FO I.hok e
  refine wpAny_notIn_heap (tupleKind_room_in1 hu) (yj I.hok eb) hd dd ?_
  have q:=(rel.val k).isSome_eq
  rw [Option.isSome_map] at q
  rw [← q,← l]
  exact h _ (I.tok _)
theorem FS {h':Heap} {t':Nat} {ob:HO} (I:Inv X pins σ H s) (mu:Mut (H a)) (hs:Heap.SameBut a s.heap h') (he:∃ q,h'.get? a=some q) (new:dh X.prog X.w (upd H a ob) h' a ob):
  Inv X pins σ (upd H a ob) {s with heap:=h',toks:=t'}:=
 I.write (x:=a) (e:=a) mu (.inl rfl) (fun b q hb z=>(hs.2 b hb).trans z) he new
theorem MK {P:Program} {w:World} {H':Hp} {h':Heap} {kvs:List (Key×V)} {vs:List (Key×Value)} (z:kvs.length≤sizeLine) (hd:(a == sysModules)=false) (rel:KV kvs vs) (dd:h'.DictOf (cH P w) a vs):
  dh P w H' h' a (.dK kvs):=⟨z,hd,vs,rel,dd⟩
theorem FT {H':Hp} {Q:Unit→Shared→Prop} (hu:A.units + 1 < cLine) (I:Inv X pins σ H s) (g:DPut H a y v H') (ry:RelV y u) (rv:RelV v r) (h:∀ s',Inv X pins σ H' s'→Q () s'):
  wpAny (model X.prog X.w) A (setItem (.ref a) u r) Q E s:=by
 rcases g with ⟨kvs,k,e,ey,l,eH⟩ | ⟨kvs,k,b,e,ey,eb,l,eH⟩
 ·subst ey eH
  obtain ⟨z,hd,vs,rel,dd⟩:=MJ I.hok e
  have hz:vs.length≤sizeLine:=by rw [← rel.length];exact z
  have hl:(putK kvs k v).length≤sizeLine:=by have:=qI kvs k v;omega
  refine wpAny_setItem_pairs (hsz:=hz) (CB ry) dd fun h' dd' hs=>h _ ?_
  have he:∃ q,h'.get? a=some q:=let ⟨q,_,_,hq,_⟩:=dd';⟨q,hq⟩
  exact FS I (by rw [e];exact True.intro) hs he (MK hl hd (rel.put k rv) dd')
 ·subst ey eH
  cases (show u=Value.ref b from ry)
  obtain ⟨z,hd,xs,rel,dd⟩:=NL I.hok e
  have hz:xs.length≤sizeLine:=by rw [← Paired.length rel];exact z
  have hl:(putK kvs k v).length≤sizeLine:=by have:=qI kvs k v;omega
  refine wpAny_setItem_heap (hsz:=hz) (tupleKind_room_in1 hu) (yj I.hok eb) dd fun h' dd' hs=>h _ ?_
  obtain ⟨q,es,ep,hq,h2,h3,h4,_,h5⟩:=dd'
  refine FS I (by rw [e];exact True.intro) hs ⟨q,hq⟩ ⟨hl,hd,_,(rel.put k eb rv).keeps fun c ys ec=>?_,q,es,ep,hq,h2,h3,h4,h5⟩
  rw [aq (jq ec e (fun z=>nomatch z))]
  exact ec
end
noncomputable def NoSl (i:Expr):Prop:=∀ ov iv,subscripted i false ov iv=operate [ov,iv] (getItem ov iv)
theorem Jk {prog:Program} {w:World} {A:Around} {E:Value→Shared→Prop} {s:Shared} {env:Env} {value slice:Expr} {pos:Pos} {T id:String} {Q:Value→Shared→Prop}
  (hl:typeLookup (.type T) "__getitem__"=pure (some (.builtin id))) (hs:NoSl slice)
  (h:wpAny (model prog w) A (eval value env) (fun o s₁=>wpAny (model prog w) A (eval slice env) (fun i s₂=>s₂.TypeIs o T∧wpAny (model prog w) A (getItem o i) Q E s₂) E s₁) E s):
  wpAny (model prog w) A (eval (.Subscript value slice pos) env) Q E s:=by
 refine Subscript_ (wpAny_mono h (fun o s₁ h₁=>wpAny_mono h₁ (fun i s₂ h₂=>?_) fun _ _ x=>x) fun _ _ x=>x)
 obtain ⟨hT,h₂⟩:=h₂
 unfold subscriptTail
 refine wpAny_bind ?_
 rw [getitemInPython_of_ne hT.not_modules]
 refine wpAny_bind (wpAny_specialOf hT hl ?_)
 have fin:wpAny (model prog w) A (subscripted slice false o i) (fun r s₃=>wpAny (model prog w) A (letTemporaryGo value o r >>=fun _=>pure r) Q E s₃) E s₂:=by
  rw [hs o i]
  exact wpAny_operating (wpAny_mono h₂ (fun r s₃ h₃=>wpAny_bind (wpAny_letTemporaryGo (wpAny_pure h₃))) fun _ _ x=>x)
 first
  | exact wpAny_pure (wpAny_bind fin)
  | exact wpAny_bind (wpAny_pure (wpAny_bind fin))
  | exact wpAny_bind fin
theorem Ai {X:Cx} {pins:List (Addr×Obj)} {σ:St} {H:Hp} {s:Shared} {a:Addr} {y:V} {o:Option V} (I:Inv X pins σ H s) (g:DGet H a y o):s.TypeIs (.ref a) "dict":=by
 rcases g with ⟨kvs,k,e,_,_⟩ | ⟨kvs,k,b,e,_,_,_⟩
 ·obtain ⟨_,_,vs,_,dd⟩:=FP I.hok e
  exact dd.typeIs
 ·obtain ⟨_,_,xs,_,dd⟩:=FO I.hok e
  exact dd.typeIs
noncomputable def K6 (td ty:TE):TE:=fun σ H Q=>td σ H fun x H1=>ty σ H1 fun y H2=>∃ a v,x= .ref a∧DGet H2 a y (some v)∧Q v H2
noncomputable def tDIn (ty td:TE):TE:=fun σ H Q=>ty σ H fun y H1=>td σ H1 fun x H2=>∃ a o,x= .ref a∧DGet H2 a y o∧Q (.bl o.isSome) H2
noncomputable def DT (ty td:TE):TE:=fun σ H Q=>ty σ H fun y H1=>td σ H1 fun x H2=>∃ a o,x= .ref a∧DGet H2 a y o∧Q (.bl (!o.isSome)) H2
noncomputable def LO (td ty tv:TE):TS:=fun D σ H=>tv σ H fun v H1=>td σ H1 fun x H2=>ty σ H2 fun y H3=>∃ a H4,x= .ref a∧DPut H3 a y v H4∧D.nx σ H4
section
variable {X:Cx} {o i e value:Expr} {pos pos' tpos:Pos} {td ty tv:TE}
theorem JQ (hu:X.A.units + 1 < cLine) (ho:PE X o td) (hi:PE X i ty) (hs:NoSl i):PE X (.Subscript o i pos) (K6 td ty):=by
 intro pins s σ H Q I h
 refine Jk PySem.F.slot_dict_getitem.lookup hs (thn (ho pins s σ H _ I h) fun u s1 ⟨x,H1,I1,rx,q1⟩=>thn (hi pins s1 σ H1 _ I1 q1) fun iv s2 ⟨y,H2,I2,ry,a,v,ex,g,q2⟩=>?_)
 subst ex
 obtain rfl:u=Value.ref a:=rx
 exact ⟨Ai I2 g,FU hu I2 g ry fun w' s3 I3 rw'=>⟨v,H2,I3,rw',q2⟩⟩
theorem IL (hu:X.A.units + 1 < cLine) (hi:PE X i ty) (ho:PE X o td):PC X .In i o (tDIn ty td):=by
 intro pins s σ H Q I h
 refine thn (hi pins s σ H _ I h) fun iv s1 ⟨y,H1,I1,ry,q1⟩=>thn (ho pins s1 σ H1 _ I1 q1) fun u s2 ⟨x,H2,I2,rx,a,ov,ex,g,q2⟩=>?_
 subst ex
 obtain rfl:u=Value.ref a:=rx
 exact d_in hu I2 g ry fun s3 I3=>⟨.bl ov.isSome,H2,I3,rfl,q2⟩
theorem ES (hu:X.A.units + 1 < cLine) (hi:PE X i ty) (ho:PE X o td):PC X .NotIn i o (DT ty td):=by
 intro pins s σ H Q I h
 refine thn (hi pins s σ H _ I h) fun iv s1 ⟨y,H1,I1,ry,q1⟩=>thn (ho pins s1 σ H1 _ I1 q1) fun u s2 ⟨x,H2,I2,rx,a,ov,ex,g,q2⟩=>?_
 subst ex
 obtain rfl:u=Value.ref a:=rx
 exact Ky hu I2 g ry fun s3 I3=>⟨.bl (!ov.isSome),H2,I3,rfl,q2⟩
theorem JM (hu:X.A.units + 1 < cLine) (ho:PE X o td) (hi:PE X i ty) (hv:PE X value tv) (hs:swapsWith value (some (.Subscript o i pos')) pos.line X.env=pure false):
  PS X (.Assign [.Subscript o i pos'] value pos) (LO td ty tv):=by
 intro pins s σ H D I h
 refine wpAny_Assign_Subscript (thn (hv pins s σ H _ I h) fun r s1 ⟨v,H1,I1,rv,q1⟩=>thn (ho pins s1 σ H1 _ I1 q1) fun u s2 ⟨x,H2,I2,rx,q2⟩=>thn (hi pins s2 σ H2 _ I2 q2) fun iv s3 ⟨y,H3,I3,ry,a,H4,ex,g,q3⟩=>?_) hs
 subst ex
 obtain rfl:u=Value.ref a:=rx
 exact FT hu I3 g ry rv fun s4 I4=>⟨σ,H4,I4,q3⟩
end
theorem HU {P:Program} {w:World} {H:Hp} (h:Heap) (hb:sysModules < h.objs.size):dh P w H (h.push {cls:= .type "dict",data:= .dict #[]}) h.objs.size (.dK []):=
 ⟨Nat.zero_le _,beq_eq_false_iff_ne.mpr (Ne.symm (Nat.ne_of_lt hb)),[],.nil,Heap.DictOf.new h⟩
noncomputable def Iu:TE:=fun _ H Q=>∀ p,H p=none→Q (.ref p) (upd H p (.dK []))
section
variable {X:Cx} {pos:Pos}
theorem G7:PE X (.Dict [] [] pos) Iu:=fun pins s σ H Q I h=>
 wpAny_Dict_empty ⟨.ref s.heap.objs.size,_,I.laid (a:=s.heap.objs.size) (o:= .dK []) (t':=s.toks) (fun _ _ q=>Heap.get?_push_of_some _ q) (Nat.le_refl _) (HU s.heap I.big),rfl,h _ (I.hok.fresh (Nat.le_refl _))⟩
end
structure M1 (X:Cx) (o:Expr) (m:Str) (apos:Pos) (e:Expr) (cpos:Pos):Prop where
 base:attributeBase o m X.env (eval o X.env)=eval o X.env
 few:((backTo cpos (starEach [e] X.env)).all (fun x=> !x.1)&&(backToKw cpos (keywordEach [] X.env)).all (fun x=>x.1.isSome)
  &&decide (([e]:List Expr).length + ([]:List Keyword).length + (if ([]:List Keyword).isEmpty then 0 else 1) < 30))=true
 line:(apos.endLine == cpos.line)=true
 trees:backTo cpos (starEach [e] X.env)=[(false,eval e X.env)]
structure M2 (X:Cx) (o:Expr) (m:Str) (apos:Pos) (e f:Expr) (cpos:Pos):Prop where
 base:attributeBase o m X.env (eval o X.env)=eval o X.env
 few:((backTo cpos (starEach [e,f] X.env)).all (fun x=> !x.1)&&(backToKw cpos (keywordEach [] X.env)).all (fun x=>x.1.isSome)
  &&decide (([e,f]:List Expr).length + ([]:List Keyword).length + (if ([]:List Keyword).isEmpty then 0 else 1) < 30))=true
 line:(apos.endLine == cpos.line)=true
 trees:backTo cpos (starEach [e,f] X.env)=[(false,eval e X.env),(false,eval f X.env)]
section
variable {κ:Type} [DecidableEq κ]
theorem GD {kvs:List (κ×V)} {k:κ} (h:valV kvs k=none):¬ k∈kvs.map (·.1):=by
 intro m
 obtain ⟨p,hp,e⟩:=List.mem_map.mp m
 have q:(kvs.any fun kv=>decide (kv.1=k))=true:=List.any_eq_true.mpr ⟨p,hp,decide_eq_true e⟩
 rw [kO,h] at q
 exact absurd q (by simp)
theorem Jj {kvs:List (κ×V)} {k:κ} {v:V} (h:valV kvs k=some v):k∈kvs.map (·.1):=by
 have q:(kvs.any fun kv=>decide (kv.1=k))=true:=by
  rw [kO,h]
  all_goals rfl
 obtain ⟨p,hp,e⟩:=List.any_eq_true.mp q
 exact List.mem_map.mpr ⟨p,hp,of_decide_eq_true e⟩
end
end L2
set_option maxHeartbeats 4000000
namespace L2
open PySem PySem.Spec PyProof.Rows
section
variable {P0:Program} {w0:World} {A0:Around} {R0:Result→Shared→Prop} {t0:Shared}
theorem CU {elt tg iter:Expr} {ifs:List Expr} {sc:Scope} {pos:Pos} {it acc:Value} {ce:Env} (J:Nat→Shared→Prop)
  (turn:∀ n s,J n s→wpAny (model P0 w0) A0 (pyNext it) (fun r s₁=>match r with
   | none=>R0 (.ok .next) s₁
   | some v=>wpAny (model P0 w0) A0 (letOwnedTupleGo tg it v) (fun _ s₂=>wpAny (model P0 w0) A0 (assign tg ce v) (fun _ s₃=>
     wpAny (model P0 w0) A0 (forIn ifs true fun c r=>if r=true then do let ok ← isTrue c ce (eval c ce);pure (ForInStep.yield ok) else pure (ForInStep.yield r)) (fun ok s₄=>
      if ok=true then wpAny (model P0 w0) A0 (eval elt ce) (fun x s₅=>
       wpAny (model P0 w0) A0 (call (.builtin "list.append") [acc,x]) (fun _ s₆=>∃ m,m < n∧J m s₆) (fun _ _=>False) s₅) (fun _ _=>False) s₄
      else ∃ m,m < n∧J m s₄) (fun _ _=>False) s₃) (fun _ _=>False) s₂) (fun _ _=>False) s₁) (fun _ _=>False) s)
  (n:Nat) (h:J n t0):
  codeAny (model P0 w0) A0 (.compLoop (.ListComp elt [⟨tg,iter,ifs,0⟩] sc pos) 0 it acc ce) R0 t0:=by
 have no:∀ {α:Type} {t:Sem α} {Q:α→Shared→Prop} {E:Value→Shared→Prop} {s:Shared},wpAny (model P0 w0) A0 t Q (fun _ _=>False) s→wpAny (model P0 w0) A0 t Q E s:=
  fun h=>wpAny_mono h (fun _ _ q=>q) fun _ _ z=>z.elim
 refine codeAny_loop rfl J (fun n s hJ=>?_) n h
 show wpAny _ A0 ((compTurn (.ListComp elt [⟨tg,iter,ifs,0⟩] sc pos) 0 it acc ce).onRaise (fun x=>do noteFrame x ce;theTreesLotGoes x)) _ _ s
 refine wpAny_noted ?_
 rw [compTurn_list]
 refine wpAny_bind (wpAny_standAt (wpAny_bind (thn (no (turn n s hJ)) fun r s₁ h₁=>?_)))
 cases r with
 | none=>exact wpAny_pure h₁
 | some v=>
   refine wpAny_bind (thn (no h₁) fun _ s₂ h₂=>?_)
   refine wpAny_bind (thn (no h₂) fun _ s₃ h₃=>wpAny_bind (thn (no h₃) fun ok s₄ h₄=>?_))
   cases ok with
   | false=>exact wpAny_pure ⟨rfl,h₄⟩
   | true=>
     rw [if_pos rfl] at h₄
     refine wpAny_bind (wpAny_bind (thn (no h₄) fun x s₅ h₅=>?_))
     refine wpAny_bind (thn (no h₅) fun _ s₆ h₆=>?_)
     exact wpAny_pure (wpAny_pure ⟨rfl,h₆⟩)
end
theorem nC (env:Env):∀ (l:List (Str×NameKind)) (cs:List (Str×Addr)),(∀ y∈l,y.2= .free→∃ c,env.cells.lookup y.1=some c)→
  ∃ r:List (Str×Addr),(forIn l cs (fun (x:Str×NameKind) (r:List (Str×Addr))=>if x.2 == NameKind.free then (do let c ← cellOf env x.1;pure (ForInStep.yield ((x.1,c)::r))) else pure (ForInStep.yield r)):Sem (List (Str×Addr)))=pure r∧
   (∀ p∈r,p∈cs∨env.cells.lookup p.1=some p.2)∧(∀ p∈cs,p∈r)∧(∀ y∈l,y.2= .free→∃ c,(y.1,c)∈r)
 | [],cs,_=>⟨cs,rfl,fun p hp=> .inl hp,fun p hp=>hp,fun y hy=>nomatch hy⟩
 | (x,k)::l,cs,h=>by
   by_cases hk:k= .free
   ·subst hk
    obtain ⟨c,hc⟩:=h (x,.free) List.mem_cons_self rfl
    obtain ⟨r,e,h1,h2,h3⟩:=nC env l ((x,c)::cs) fun y hy=>h y (List.mem_cons_of_mem _ hy)
    refine ⟨r,?_,fun p hp=>?_,fun p hp=>h2 p (List.mem_cons_of_mem _ hp),fun y hy hf=>?_⟩
    ·rw [List.forIn_cons]
     have e2:cellOf env x=pure c:=by unfold cellOf;rw [hc]
     simp only [beq_self_eq_true,if_true,e2,pure_bind]
     exact e
    ·rcases h1 p hp with q | q
     ·rcases List.mem_cons.mp q with z | z
      ·subst z;exact .inr hc
      ·exact .inl z
     ·exact .inr q
    ·rcases List.mem_cons.mp hy with z | z
     ·subst z;exact ⟨c,h2 _ List.mem_cons_self⟩
     ·exact h3 y z hf
   ·obtain ⟨r,e,h1,h2,h3⟩:=nC env l cs fun y hy=>h y (List.mem_cons_of_mem _ hy)
    refine ⟨r,?_,h1,h2,fun y hy hf=>?_⟩
    ·rw [List.forIn_cons]
     have hb:(k == NameKind.free)=false:=by cases k<;>first | rfl | exact absurd rfl hk
     simp only [hb,Bool.false_eq_true,if_false,pure_bind]
     exact e
    ·rcases List.mem_cons.mp hy with z | z
     ·subst z;exact absurd hf hk
     ·exact h3 y z hf
theorem uI (sc:Scope) (env:Env) (h:∀ y∈sc.names,y.2= .free→∃ c,env.cells.lookup y.1=some c):
  ∃ cl,closureFor sc env=pure cl∧(∀ p∈cl,env.cells.lookup p.1=some p.2)∧∀ y∈sc.names,y.2= .free→∃ c,(y.1,c)∈cl:=by
 obtain ⟨r,e,h1,h2,h3⟩:=nC env sc.names [] h
 refine ⟨r,?_,fun p hp=>(h1 p hp).resolve_left (fun z=>nomatch z),h3⟩
 unfold closureFor
 have:=e
 simp only [bind_pure] at *
 exact e
theorem vE {κ β:Type} [BEq κ] [LawfulBEq κ]:∀ {l:List (κ×β)} {x:κ} {c:β},(x,c)∈l→∃ c',l.lookup x=some c'
 | [],_,_,h=>nomatch h
 | (y,d)::l,x,c,h=>by
   by_cases e:x=y
   ·subst e;exact ⟨d,by simp [List.lookup_cons]⟩
   ·have hb:(x == y)=false:=beq_eq_false_iff_ne.mpr e
    rcases List.mem_cons.mp h with z | z
    ·exact absurd (congrArg Prod.fst z) e
    ·obtain ⟨c',q⟩:=vE z
     exact ⟨c',by rw [List.lookup_cons,hb];exact q⟩
theorem k6 {env:Env}:∀ {names:List (Str×NameKind)} {x:Str} {k':NameKind},
  (names.map fun (n,k)=>if (k == NameKind.free&&env.scope.kind == .function&&env.kindOf n == some .cell) then (n,NameKind.cell) else (n,k)).lookup x=some k'→∃ k,(x,k)∈names∧(k'=k∨k= .free)
 | [],_,_,h=>by cases h
 | (y,k)::l,x,k',h=>by
   rw [List.map_cons,List.lookup_cons] at h
   by_cases e:x=y
   ·subst e
    by_cases hc:(k == NameKind.free&&env.scope.kind == .function&&env.kindOf x == some .cell)=true
    ·refine ⟨k,List.mem_cons_self,.inr ?_⟩
     rw [Bool.and_eq_true,Bool.and_eq_true] at hc
     exact eq_of_beq hc.1.1
    ·refine ⟨k,List.mem_cons_self,.inl ?_⟩
     simp only [if_neg hc,beq_self_eq_true] at h
     exact (Option.some.inj h).symm
   ·have hb:(x == y)=false:=beq_eq_false_iff_ne.mpr e
    have h':(l.map fun (n,k)=>if (k == NameKind.free&&env.scope.kind == .function&&env.kindOf n == some .cell) then (n,NameKind.cell) else (n,k)).lookup x=some k':=by
     by_cases hc:(k == NameKind.free&&env.scope.kind == .function&&env.kindOf y == some .cell)=true
     ·simp only [if_pos hc,hb] at h;exact h
     ·simp only [if_neg hc,hb] at h;exact h
    obtain ⟨q,hm,z⟩:=k6 h'
    exact ⟨q,List.mem_cons_of_mem _ hm,z⟩
theorem nU {env:Env}:∀ {names:List (Str×NameKind)} {x:Str},names.lookup x=some .free→
  (names.map fun (n,k)=>if (k == NameKind.free&&env.scope.kind == .function&&env.kindOf n == some .cell) then (n,NameKind.cell) else (n,k)).lookup x=some .cell∨
  (names.map fun (n,k)=>if (k == NameKind.free&&env.scope.kind == .function&&env.kindOf n == some .cell) then (n,NameKind.cell) else (n,k)).lookup x=some .free
 | [],_,h=>by cases h
 | (y,k)::l,x,h=>by
   rw [List.lookup_cons] at h
   rw [List.map_cons,List.lookup_cons]
   by_cases e:x=y
   ·subst e
    simp only [beq_self_eq_true] at h
    cases h
    by_cases hc:(NameKind.free == NameKind.free&&env.scope.kind == .function&&env.kindOf x == some .cell)=true
    ·refine .inl ?_
     rw [if_pos hc]
     simp only [beq_self_eq_true]
    ·refine .inr ?_
     rw [if_neg hc]
     simp only [beq_self_eq_true]
   ·have hb:(x == y)=false:=beq_eq_false_iff_ne.mpr e
    simp only [hb] at h
    have q:=nU (env:=env) h
    by_cases hc:(k == NameKind.free&&env.scope.kind == .function&&env.kindOf y == some .cell)=true
    ·simp only [if_pos hc,hb];exact q
    ·simp only [if_neg hc,hb];exact q
structure ij (osc:Scope) (ON N:List Str) (n:Nat) (fx:List Nat) (sc:Scope):Prop where
 kind:sc.kind= .function
 noc:∀ y∈sc.names,y.2≠.cell
 own:∀ y∈sc.names,y.2= .local→sc.names.lookup y.1=some .local
 fre:∀ y∈sc.names,y.2= .free→osc.names.lookup y.1=some .cell∨osc.names.lookup y.1=some .free
 len:N.length=n + fx.length
 frn:∀ k,k < fx.length→∃ x j,N[n + k]? =some x∧fx[k]? =some j∧ON[j]? =some x∧sc.names.lookup x=some .free
noncomputable def HR (ON:List Str) (sc:Scope):List Str→List Nat→Bool
 | [],[]=>true
 | x::xs,j::js=>decide (ON[j]? =some x)&&decide (sc.names.lookup x=some .free)&&HR ON sc xs js
 | _,_=>false
theorem yw {ON:List Str} {sc:Scope}:∀ {xs:List Str} {js:List Nat},HR ON sc xs js=true→xs.length=js.length∧∀ k,k < js.length→∃ x j,xs[k]? =some x∧js[k]? =some j∧ON[j]? =some x∧sc.names.lookup x=some .free
 | [],[],_=>⟨rfl,fun k h=>absurd h (Nat.not_lt_zero k)⟩
 | [],_::_,h=>by cases h
 | _::_,[],h=>by cases h
 | x::xs,j::js,h=>by
   simp only [HR,Bool.and_eq_true,decide_eq_true_eq] at h
   obtain ⟨l,q⟩:=yw h.2
   refine ⟨congrArg Nat.succ l,fun k hk=>?_⟩
   cases k with
   | zero=>exact ⟨x,j,rfl,rfl,h.1.1,h.1.2⟩
   | succ k=>
     obtain ⟨x',j',a,b,c⟩:=q k (Nat.lt_of_succ_lt_succ hk)
     exact ⟨x',j',by simpa using a,by simpa using b,c⟩
noncomputable def Bq (osc:Scope) (ON N:List Str) (n:Nat) (fx:List Nat) (sc:Scope):Bool:=
 decide (sc.kind= .function)&&decide (∀ y∈sc.names,y.2≠.cell)&&decide (∀ y∈sc.names,y.2= .local→sc.names.lookup y.1=some .local)&&
 decide (∀ y∈sc.names,y.2= .free→osc.names.lookup y.1=some .cell∨osc.names.lookup y.1=some .free)&&decide (n≤N.length)&&HR ON sc (N.drop n) fx
theorem ij.of {osc:Scope} {ON N:List Str} {n:Nat} {fx:List Nat} {sc:Scope} (h:Bq osc ON N n fx sc=true):ij osc ON N n fx sc:=by
 simp only [Bq,Bool.and_eq_true,decide_eq_true_eq] at h
 obtain ⟨⟨⟨⟨⟨h1,h2⟩,h3⟩,h4⟩,h5⟩,h6⟩:=h
 obtain ⟨l,q⟩:=yw h6
 refine ⟨h1,h2,h3,h4,?_,fun k hk=>?_⟩
 ·rw [List.length_drop] at l;omega
 ·obtain ⟨x,j,a,b⟩:=q k hk
  exact ⟨x,j,by rw [List.getElem?_drop] at a;exact a,b⟩
noncomputable def iZ (X:Cx) (N:List Str) (sc:Scope) (cl:List (Str×Addr)) (C:Addr) (fp:List Addr) (s:Shared) (H:Hp):Cx where
 prog:=X.prog
 w:=X.w
 K:=X.K
 mg:=X.mg
 base:=X.base
 A:=X.A
 N:=N
 s₀:=s
 H₀:=H
 env:=compEnvC sc cl C X.env
 outer:=X.stack
 stack:=X.stack
 ex:=fp
 fn:=fun _=>false
 calm:=X.calm
 pn:=[]
 xe:=fun _ _=>False
noncomputable def c7 (n:Nat) (fx:List Nat) (σ:St):St:=List.replicate n none++fx.map fun j=>(σ[j]?).join
noncomputable def Ds (n:Nat) (g:TG):Prop:=∀ v σ H (Q Q':St→Hp→Prop),(∀ σ' H',Q σ' H'→σ'.drop n=σ.drop n→σ'.length=σ.length→Q' σ' H')→g v σ H Q→g v σ H Q'
noncomputable def Bv (n:Nat) (g:TGs):Prop:=∀ vs σ H (Q Q':St→Hp→Prop),(∀ σ' H',Q σ' H'→σ'.drop n=σ.drop n→σ'.length=σ.length→Q' σ' H')→g vs σ H Q→g vs σ H Q'
theorem bo {n i:Nat} (h:i < n):Ds n (FI i):=fun v σ H Q Q' k q=>k _ _ q (by rw [List.drop_set_of_lt h]) (by rw [List.length_set])
theorem vU {n:Nat}:Bv n gNil:=fun vs σ H Q Q' k ⟨e,q⟩=>⟨e,k _ _ q rfl rfl⟩
theorem gF {n:Nat} {t:TG} {u:TGs} (ht:Ds n t) (hu:Bv n u):Bv n (Ko t u):=fun vs σ H Q Q' k ⟨v,r,e,q⟩=>
 ⟨v,r,e,ht v σ H _ _ (fun σ1 H1 q1 e1 l1=>hu r σ1 H1 Q Q' (fun σ2 H2 q2 e2 l2=>k σ2 H2 q2 (e2.trans e1) (l2.trans l1)) q1) q⟩
theorem Bh {K:PySem.W.Frag} {n m:Nat} {t:TGs} (h:Bv n t):Ds n (gTup K m t):=fun v σ H Q Q' k ⟨a,xs,e,hs,hl,q⟩=>⟨a,xs,e,hs,hl,h xs σ H Q Q' k q⟩
noncomputable def PTs (X:Cx) (ifs:List Expr) (t:TT):Prop:=
 ∀ (pins:List (Addr×Obj)) (s:Shared) (σ:St) (H:Hp) (Q:Bool→Hp→Prop),Inv X pins σ H s→t σ H Q→
  wpAny (model X.prog X.w) X.A (forIn ifs true fun c r=>if r=true then do let ok ← isTrue c X.env (eval c X.env);pure (ForInStep.yield ok) else pure (ForInStep.yield r)) (TP X pins σ Q) X.xe s
noncomputable def tYes:TT:=fun _ H Q=>Q true H
theorem bQ {X:Cx}:PTs X [] tYes:=fun _ _ _ H _ I h=>wpAny_tests_nil ⟨H,I,h⟩
theorem zu {X:Cx} {c:Expr} {t:TT} (h:PT X c t):PTs X [c] t:=fun pins s σ H Q I q=>wpAny_tests_one (h pins s σ H Q I q)
noncomputable def GF (n:Nat) (fx:List Nat) (wi:TI) (g:TG) (tc:TT) (te:TE):TE:=fun σ H Q=>wi σ H fun J H1=>∀ D,H1 D=none→
 ∃ W:Nat→Nat→List V→Hp→Prop,(∃ m,W 0 m [] (upd H1 D (.lst [])))∧∀ i m ys H2,W i m ys H2→(J.stop i H2∧Q (.ref D) H2)∨
   (J.go i H2∧∃ N:List V→Hp→Prop,(∀ ys' H',N ys' H'→∃ m',m' < m∧W (i + 1) m' ys' H')∧∀ x H3,J.yld i H2 x H3→g x (c7 n fx σ) H3 fun σ4 H4=>tc σ4 H4 fun b H5=>
    if b=true then te σ4 H5 fun v H6=>H6 D=some (.lst ys)∧ys.length < sizeLine∧N (ys++[v]) (upd H6 D (.lst (ys++[v]))) else N ys H5)
section
variable {X:Cx} {pins:List (Addr×Obj)} {σ:St} {H:Hp} {s:Shared}
theorem CV {n:Nat} {fx:List Nat}:(c7 n fx σ).length=n + fx.length:=by unfold c7;simp
theorem uH {n:Nat} {fx:List Nat} {i:Nat} {v:V} (e:(c7 n fx σ)[i]? =some (some v)):∃ k j,i=n + k∧fx[k]? =some j∧σ[j]? =some (some v):=by
 unfold c7 at e
 by_cases h:i < n
 ·rw [List.getElem?_append_left (by simpa using h),List.getElem?_replicate,if_pos h] at e
  cases e
 ·rw [List.getElem?_append_right (by simpa using h),List.length_replicate,List.getElem?_map] at e
  cases q:fx[i - n]? with
  | none=>rw [q] at e;cases e
  | some j=>
    rw [q] at e
    have e':(σ[j]?).join=some v:=Option.some.inj e
    refine ⟨i - n,j,by omega,q,?_⟩
    cases z:σ[j]? with
    | none=>rw [z] at e';cases e'
    | some o=>rw [z] at e';have:o=some v:=e';rw [this]
theorem Ib {osc:Scope} {ON N:List Str} {n:Nat} {fx:List Nat} {sc:Scope} {cl:List (Str×Addr)} {fp:List Addr} {h4:Heap} {tk:Nat}
  (ho:X.env.scope=osc) (hN:X.N=ON) (S:ij osc ON N n fx sc)
  (hcl1:∀ p∈cl,X.env.cells.lookup p.1=some p.2) (hcl2:∀ y∈sc.names,y.2= .free→∃ c,(y.1,c)∈cl)
  (I:Inv X pins σ H s) (hf:∀ b∈fp,FpOk X pins H b) (hfo:∀ b∈fp,b < s.heap.objs.size)
  (hns:∃ m,h4.Ns s.heap.objs.size m) (old:∀ b o,s.heap.get? b=some o→h4.get? b=some o):
  Inv (iZ X N sc cl s.heap.objs.size fp s H) [] (c7 n fx σ) H {s with heap:=h4,toks:=tk}:=by
 have look:∀ {x:Str} {c:Addr},cl.lookup x=some c→X.env.cells.lookup x=some c:=fun {x c} e=>hcl1 (x,c) (PySem.mem_of_lookup e)
 have ok:(iZ X N sc cl s.heap.objs.size fp s H).Ok:=by
  refine ⟨I.ok.mod,S.kind,I.ok.glob,I.ok.blt,Nat.le_refl _,fun x y c h1 h2=>I.ok.inj x y c (look h1) (look h2),fun x hx=>?_,fun x c z=>(by cases z),I.ok.hd,I.ok.frames,.inl rfl,fun b hb=>⟨Nat.ne_of_lt (hfo b hb),fun x c e=>(hf b hb).2.2.2.2.1 x c (look e)⟩,
   I.bs,Nat.le_trans I.ok.bsz I.sz,fun b o e hb=>?_,fun b hb z=>?_,I.stack,I.stkFree⟩
  ·have hx':∃ k',(k'=NameKind.cell∨k'=NameKind.free)∧(sc.names.map fun (n,k)=>if (k == NameKind.free&&X.env.scope.kind == .function&&X.env.kindOf n == some .cell) then (n,NameKind.cell) else (n,k)).lookup x=some k':=by
    rcases hx with hx | hx
    ·exact ⟨_,.inl rfl,hx⟩
    ·exact ⟨_,.inr rfl,hx⟩
   obtain ⟨k',hk,e⟩:=hx'
   obtain ⟨k,hm,z⟩:=k6 e
   have kf:k= .free:=by
    rcases z with z | z
    ·subst z
     rcases hk with q | q
     ·exact absurd q (S.noc _ hm)
     ·exact q
    ·exact z
   subst kf
   obtain ⟨c,hc⟩:=hcl2 _ hm rfl
   exact vE hc
  ·rcases (hf b hb).2.2.2.1 with z | z
   ·exact I.ok.noex b o e z
   ·exact absurd (Nat.lt_of_lt_of_le (Heap.lt_size (I.ok.bs b o e).1) z) (Nat.lt_irrefl _)
  ·rcases List.mem_cons.mp (I.stkSub b z) with q | q
   ·exact (hf b hb).2.1 q
   ·exact (hf b hb).2.2.1 q
 obtain ⟨m,hns⟩:=hns
 refine ⟨ok,rfl,I.bare,Un.kept old,⟨m,hns,fun i x v e1 e2 e3=>?_⟩,fun x c e=>?_,I.hok.fresh (Nat.le_refl _),fun x c e=>I.freeC x c (look e),fun p hp=>absurd (show p∈([]:List (Addr×Obj)) from hp) (by simp),I.hok.kept old,?_⟩
 ·obtain ⟨k,j,rfl,hj,hv⟩:=uH e2
  obtain ⟨x',j',a1,a2,a3,a4⟩:=S.frn k (List.getElem?_eq_some_iff.mp hj).1
  have ex:x'=x:=Option.some.inj (a1.symm.trans e1)
  have ej:j'=j:=Option.some.inj (a2.symm.trans hj)
  subst ex;subst ej
  obtain ⟨m',_,hl⟩:=I.loc
  have hk:X.env.scope.names.lookup x'=some .cell∨X.env.scope.names.lookup x'=some .free:=by rw [ho];exact S.fre _ (PySem.mem_of_lookup a4) rfl
  have vis:Vis X.env.scope x':=by rcases hk with z | z;exact .inr (.inl z);exact .inr (.inr z)
  obtain ⟨u,r,q⟩:=hl j' x' v (by rw [hN];exact a3) hv vis
  rcases q with ⟨z,_⟩ | ⟨_,c,ec,ic⟩
  ·have z':X.env.scope.names.lookup x'=some .local:=z
   rcases hk with q | q<;>(rw [q] at z';cases z')
  ·refine ⟨u,r,.inr ⟨nU a4,c,?_,ic.keeps old⟩⟩
   obtain ⟨c0,hc0⟩:=hcl2 _ (PySem.mem_of_lookup a4) rfl
   obtain ⟨c1,hc1⟩:=vE hc0
   have:=look hc1
   rw [ec] at this
   cases this
   exact hc1
 ·obtain ⟨v,q⟩:=I.cell x c (look e)
  exact ⟨v,q.keeps old⟩
 ·show _=N.length
  rw [CV,S.len]
theorem yP {osc:Scope} {ON N:List Str} {n:Nat} {fx:List Nat} {sc:Scope} {cl:List (Str×Addr)} {elt tg iter:Expr} {ifs:List Expr} {pos:Pos} {wi:TI} {g:TG} {tc:TT} {te:TE} {Q:VK} {RR:Value→Addr→Result→Shared→Prop}
  (hcalm:X.calm=true) (ho:X.env.scope=osc) (hN:X.N=ON) (S:ij osc ON N n fx sc)
  (hcl1:∀ p∈cl,X.env.cells.lookup p.1=some p.2) (hcl2:∀ y∈sc.names,y.2= .free→∃ c,(y.1,c)∈cl)
  (hi:PI X tg iter wi) (gk:Ds n g) (hb:∀ cl C fp s H,PG (iZ X N sc cl C fp s H) tg g∧PTs (iZ X N sc cl C fp s H) ifs tc∧PE (iZ X N sc cl C fp s H) elt te)
  (I:Inv X pins σ H s) (h:GF n fx wi g tc te σ H Q)
  (hRR:∀ D C H' s',Inv X pins σ H' s'→(∃ m,s'.heap.Ns C m)→FpOk X pins H' C→Q (.ref D) H'→RR (.ref D) C (.ok .next) s'):
  wpAny (model X.prog X.w) X.A (eval iter X.env) (fun x s₁=>wpAny (model X.prog X.w) X.A (pyIter x) (fun it s₂=>wpAny (model X.prog X.w) X.A (newList []) (fun acc s₃=>
   wpAny (model X.prog X.w) X.A (newFunctionEnv sc X.env.globals cl [] X.env.qual none .none (some X.env)) (fun cenv s₄=>
    codeAny (model X.prog X.w) X.A (.compStart (.ListComp elt [⟨tg,iter,ifs,0⟩] sc pos) 0 it acc {cenv with scope:=relabel sc X.env}) (RR acc cenv.locals) s₄) X.xe s₃) X.xe s₂) X.xe s₁) X.xe s:=by
 refine thn (hi pins s σ H _ I h) fun v s1 h1=>thn h1 fun itv s2 h2=>?_
 obtain ⟨it,fp,tn,J,H2,e2,I2,T,st2,f2,hW⟩:=h2
 subst e2
 obtain ⟨W,⟨m0,w0⟩,hturn⟩:=hW s2.heap.objs.size I2.fresh
 refine wpAny_newObj_type ?_
 have I3:Inv X pins σ (upd H2 s2.heap.objs.size (.lst [])) {s2 with heap:=s2.heap.push {cls:= .type "list",data:= .seq ([]:List Value).toArray}}:=I2.lnew (t':=s2.toks) (its:=[]) .nil (Nat.zero_le _)
 have f3:∀ b∈fp,FpOk X pins (upd H2 s2.heap.objs.size (.lst [])) b∧b < s2.heap.objs.size:=fun b hb=>by
  obtain ⟨o,e,_⟩:=T.obj _ _ st2 b hb
  have l:=Heap.lt_size e
  obtain ⟨a1,a2⟩:=f2 b hb
  exact ⟨⟨by rw [aq (Nat.ne_of_lt l)];exact a1,a2⟩,l⟩
 have sz:({s2 with heap:=s2.heap.push {cls:= .type "list",data:= .seq ([]:List Value).toArray}}:Shared).heap.objs.size=s2.heap.objs.size + 1:=Heap.size_push ..
 generalize hs3:({s2 with heap:=s2.heap.push {cls:= .type "list",data:= .seq ([]:List Value).toArray}}:Shared)=s3 at I3 sz ⊢
 generalize hH3:upd H2 s2.heap.objs.size (.lst [])=H3 at I3 f3 w0
 have old3:∀ b o,s2.heap.get? b=some o→s3.heap.get? b=some o:=fun b o e=>by rw [← hs3];exact Heap.get?_push_of_some _ e
 refine wpAny_newFunctionEnv (fun y hy=>S.noc y hy) (fun y hy=>nomatch hy) (fun h4 hns hsb=>?_) S.kind
 have old4:∀ b o,s3.heap.get? b=some o→h4.get? b=some o:=fun b o e=>hsb.extBut b o (Nat.ne_of_lt (Heap.lt_size e)) (Heap.get?_push_of_some _ e)
 have I4:=Ib (tk:=s3.toks + ([]:List (Str×Value)).length) ho hN S hcl1 hcl2 I3 (fun b hb=>(f3 b hb).1) (fun b hb=>by rw [sz];exact Nat.lt_succ_of_lt (f3 b hb).2) ⟨_,hns⟩ old4
 have hb':=hb cl s3.heap.objs.size fp s3 H3
 generalize hY:iZ X N sc cl s3.heap.objs.size fp s3 H3=Y at I4 hb'
 have stat:∀ {H':Hp},(∀ b∈fp,H' b=none)→∀ b∈fp,FpOk Y [] H' b:=fun {H'} hn b hb=>by
  subst hY
  obtain ⟨⟨a1,a2,a3,a4,a5,a6⟩,l⟩:=f3 b hb
  refine ⟨hn b hb,Nat.ne_of_lt (show b < s3.heap.objs.size by rw [sz];exact Nat.lt_succ_of_lt l),fun z=>?_,.inl hb,fun x c e=>a5 x c (hcl1 (x,c) (PySem.mem_of_lookup e)),fun p hp=>absurd (show p∈([]:List (Addr×Obj)) from hp) (by simp)⟩
  rcases List.mem_cons.mp (I3.stkSub b z) with q | q
  ·exact a2 q
  ·exact a3 q
 have fin:∀ {σ6:St} {H6:Hp} {s6:Shared},Inv Y [] σ6 H6 s6→Q (.ref s2.heap.objs.size) H6→RR (.ref s2.heap.objs.size) s3.heap.objs.size (.ok .next) s6:=fun {σ6 H6 s6} I6 q=>by
  subst hY
  refine hRR _ _ H6 s6 ?_ (let ⟨m,hm,_⟩:=I6.loc;⟨m,hm⟩) (I3.fpOk (Nat.le_refl _) I6.free) q
  obtain ⟨hh,gg,dd,tt,os'⟩:=s6
  obtain rfl:os'=s3.os:=I6.os
  exact I3.call (h':=hh) (g':=gg) (d':=dd) (t':=tt) (ch:=fp) I6.base I6.hok I6.bare fun b hb=>by
   obtain ⟨⟨a1,a2,a3,a4,a5,a6⟩,l⟩:=f3 b hb
   exact ⟨a4,a2,a5,a6⟩
 have pY:Y.prog=X.prog:=by subst hY;rfl
 have wY:Y.w=X.w:=by subst hY;rfl
 have kY:Y.K=X.K:=by subst hY;rfl
 have aY:Y.A=X.A:=by subst hY;rfl
 have cY:Y.calm=true:=by subst hY;exact hcalm
 have eY:Y.env=compEnvC sc cl s3.heap.objs.size X.env:=by subst hY;rfl
 have xY:Y.xe=fun _ _=>False:=by subst hY;rfl
 have T':Turn Y.prog Y.w Y.K tg J fp it tn:=by rw [pY,wY,kY];exact T
 have tn4:tn 0 h4:=T.keep _ _ _ st2 fun b hb o e=>old4 b o (old3 b o e)
 have loop:codeAny (model X.prog X.w) X.A (.compLoop (.ListComp elt [⟨tg,iter,ifs,0⟩] sc pos) 0 (.ref it) (.ref s2.heap.objs.size) (compEnvC sc cl s3.heap.objs.size X.env)) (RR (.ref s2.heap.objs.size) s3.heap.objs.size)
   {s3 with heap:=h4,toks:=s3.toks + ([]:List (Str×Value)).length}:=by
  rw [← pY,← wY,← aY,← eY]
  refine CU (fun k s'=>∃ i ys σ' H',Inv Y [] σ' H' s'∧σ'.drop n=(c7 n fx σ).drop n∧σ'.length=(c7 n fx σ).length∧tn i s'.heap∧(∀ b∈fp,H' b=none)∧W i k ys H') ?_ m0 ⟨0,[],_,H3,I4,rfl,rfl,tn4,fun b hb=>(f3 b hb).1.1,w0⟩
  rintro k s5 ⟨i,ys,σ5,H5,I5,ed,el,st5,fr5,w5⟩
  have I5:Inv Y [] (c7 n fx σ) H5 s5:=I5.weak el.symm fun j v e=>by
   obtain ⟨k',j',rfl,_,_⟩:=uH e
   have q:=congrArg (fun l=>l[k']?) ed
   simp only [List.getElem?_drop] at q
   rw [q];exact e
  rcases hturn i k ys H5 w5 with ⟨stop,q⟩ | ⟨go,N',hN',step⟩
  ·refine wpAny_mono (T'.done Y rfl rfl rfl cY i [] s5 _ H5 (fun _ _=>False) I5 (stat fr5) st5 stop) (fun r s6 ⟨hr,I6⟩=>?_) fun _ _ z=>z
   subst hr
   exact fin I6 q
  ·rw [← xY]
   refine thn (T'.item Y rfl rfl rfl cY i [] s5 _ H5 Y.xe I5 (stat fr5) st5 go) fun r s6 ⟨u,hr,h6⟩=>?_
   subst hr
   show wpAny _ _ _ _ _ _
   refine thn h6 fun _ s7 ⟨x,H7,I7,r7,y7,st7,fr7⟩=>?_
   have I7':=I7.pinned (stat fr7) (T.obj _ _ st7)
   refine thn (hb'.1 _ s7 _ H7 x u _ I7' r7 (gk _ _ _ _ _ (fun σ' H' q e l=>(⟨q,e,l⟩:_∧_∧_)) (step x H7 y7))) fun _ s8 ⟨σ8,H8,I8,q8,ed8,el8⟩=>?_
   refine thn (hb'.2.1 _ s8 σ8 H8 _ I8 q8) fun ok s9 ⟨H9,I9,q9⟩=>?_
   have again:∀ {H10:Hp} {s10:Shared} {zs:List V},Inv Y ([]++xA fp s7.heap) σ8 H10 s10→N' zs H10→
     ∃ m,m < k∧∃ i ys σ' H',Inv Y [] σ' H' s10∧σ'.drop n=(c7 n fx σ).drop n∧σ'.length=(c7 n fx σ).length∧tn i s10.heap∧(∀ b∈fp,H' b=none)∧W i m ys H':=fun {H10 s10 zs} I10 n10=>by
    obtain ⟨m',hm,w10⟩:=hN' _ _ n10
    refine ⟨m',hm,i + 1,zs,σ8,H10,I10.unpinned,ed8,el8,T.keep _ _ _ st7 fun b hb o e=>(I10.pin (b,o) (List.mem_append_right _ (List.mem_append_right _ (jL hb e)))).1,fun b hb=>?_,w10⟩
    obtain ⟨o,e,d⟩:=T.obj _ _ st7 b hb
    exact (I10.pin (b,o) (List.mem_append_right _ (List.mem_append_right _ (jL hb e)))).2.1
   cases ok with
   | false=>exact again I9 q9
   | true=>
     rw [if_pos rfl]
     refine thn (hb'.2.2 _ s9 σ8 H9 _ I9 q9) fun y s10 ⟨v',H10,I10,r10,hD10,hl10,n10⟩=>?_
     refine thn (jv (X:=Y) _ s10 σ8 H10 (.ref s2.heap.objs.size) [v'] (.ref s2.heap.objs.size) [y] (fun _ H'=>H'=upd H10 s2.heap.objs.size (.lst (ys++[v']))) I10 rfl (.cons r10 .nil) ⟨_,ys,v',rfl,rfl,hD10,hl10,rfl⟩) fun _ s11 ⟨_,H11,I11,_,e11⟩=>?_
     subst e11
     exact again I11 n10
 exact codeAny_compStart_list loop (T.self X.A 0 _ _ _ tn4 loop)
theorem cr {osc:Scope} {ON N:List Str} {n:Nat} {fx:List Nat} {sc:Scope} {elt tg iter:Expr} {ifs:List Expr} {pos:Pos} {wi:TI} {g:TG} {tc:TT} {te:TE}
  (hcalm:X.calm=true) (ho:X.env.scope=osc) (hN:X.N=ON) (S:Bq osc ON N n fx sc=true) (hi:PI X tg iter wi) (gk:Ds n g)
  (hb:∀ cl C fp s H,PG (iZ X N sc cl C fp s H) tg g∧PTs (iZ X N sc cl C fp s H) ifs tc∧PE (iZ X N sc cl C fp s H) elt te)
  (hs:∀ x,foldedSetIterable iter X.env x=pure x:=by intro _;rfl):PE X (.ListComp elt [⟨tg,iter,ifs,0⟩] sc pos) (GF n fx wi g tc te):=by
 intro pins s σ H Q I h
 have S:=ij.of S
 obtain ⟨cl,hcl,hcl1,hcl2⟩:=uI sc X.env fun y hy hf=>I.ok.has y.1 (by show X.env.scope.names.lookup y.1=some .cell∨X.env.scope.names.lookup y.1=some .free;rw [ho];exact S.fre y hy hf)
 rw [eval_ListComp]
 refine wpAny_comprehension_free (use:=none) rfl hs hcl S.kind S.own (yP (RR:=fun acc C=>compPost (model X.prog X.w) X.A X.xe none (EP X pins σ Q) acc C) hcalm ho hN S hcl1 hcl2 hi gk hb I h ?_)
 intro D C H' s' I' hm hf q
 obtain ⟨m,hm⟩:=hm
 obtain ⟨f0,f1,f2,f3,f4,f5⟩:=hf
 exact ⟨m,hm,fun h' hsb=>⟨.ref D,H',I'.turned (t':=s'.toks) (fun b o hb e=>(hsb.2 b hb).trans e) f0 f1 f3 f4 f5,rfl,q⟩⟩
theorem ko {i:Nat} {x:Str} {px:Pos} {spos:Pos} {osc:Scope} {ON N:List Str} {n:Nat} {fx:List Nat} {sc:Scope} {elt tg iter:Expr} {ifs:List Expr} {pos:Pos} {wi:TI} {g:TG} {tc:TT} {te:TE}
  (hnd:X.N.Nodup) (hx:X.N[i]? =some x) (hl:X.env.scope.names.lookup x=some .local) (hsw:swapsWith (.ListComp elt [⟨tg,iter,ifs,0⟩] sc pos) (some (.Name x px)) spos.line X.env=pure true)
  (hcalm:X.calm=true) (ho:X.env.scope=osc) (hN:X.N=ON) (S:Bq osc ON N n fx sc=true) (hi:PI X tg iter wi) (gk:Ds n g)
  (hb:∀ cl C fp s H,PG (iZ X N sc cl C fp s H) tg g∧PTs (iZ X N sc cl C fp s H) ifs tc∧PE (iZ X N sc cl C fp s H) elt te)
  (hs:∀ x,foldedSetIterable iter X.env x=pure x:=by intro _;rfl):PS X (.Assign [.Name x px] (.ListComp elt [⟨tg,iter,ifs,0⟩] sc pos) spos) (tAsg (GF n fx wi g tc te) (FI i)):=by
 intro pins s σ H D I h
 have S:=ij.of S
 obtain ⟨cl,hcl,hcl1,hcl2⟩:=uI sc X.env fun y hy hf=>I.ok.has y.1 (by show X.env.scope.names.lookup y.1=some .cell∨X.env.scope.names.lookup y.1=some .free;rw [ho];exact S.fre y hy hf)
 rw [exec_Assign_Name_used _ _ _ _ hsw]
 refine wpAny_bind (wpAny_standAt (wpAny_bind ?_))
 show wpAny _ X.A (do let _ ← comprehension (.ListComp elt [⟨tg,iter,ifs,0⟩] sc pos) sc X.env _ (newList []) false (eval iter X.env) (some (assign (.Name x px) X.env))) _ _ s
 refine wpAny_bind (thn (wpAny_comprehension_free (use:=some (assign (.Name x px) X.env)) (Q:=fun _ s'=>SP X pins D .next s') rfl hs hcl S.kind S.own
  (yP (RR:=fun acc C=>compPost (model X.prog X.w) X.A X.xe (some (assign (.Name x px) X.env)) (fun _ s'=>SP X pins D .next s') acc C) hcalm ho hN S hcl1 hcl2 hi gk hb I h ?_)) fun _ s' q=>wpAny_pure (wpAny_pure q))
 intro D' C H' s' I' hm hf q
 obtain ⟨m,hm⟩:=hm
 obtain ⟨f0,f1,f2,f3,f4,f5⟩:=hf
 show wpAny _ X.A (assign (.Name x px) X.env (.ref D')) _ _ _
 refine wpAny_assign_Name (wZ I' hnd hx (.inl hl) (v:= .ref D') rfl (fun s2 I2 hch=>?_) (.inr hl))
 obtain ⟨a,hsb,ha⟩:=hch
 have hCa:C≠a:=by
  rcases ha with z | z
  ·rw [z];exact f1
  ·exact fun e=>f4 _ _ z e.symm
 exact ⟨m,hm.sameBut hsb hCa,fun h' hsb'=>⟨_,H',I2.turned (t':=s2.toks) (fun b o hb e=>(hsb'.2 b hb).trans e) f0 f1 f3 f4 f5,q⟩⟩
end
section
variable {K:PySem.W.Frag} {n:Nat} {fx:List Nat} {g:TG} {tc:TT} {te:TE} {σ:St} {H1:Hp} {D:Addr} {Q:Hp→Prop}
theorem fT {lo:Int} {k:Nat} (Pv:Nat→List V→Hp→Prop) (h0:Pv 0 [] (upd H1 D (.lst [])))
  (hs:∀ i ys H,i < k→Pv i ys H→g (.int (lo + i)) (c7 n fx σ) H fun σ4 H4=>tc σ4 H4 fun b H5=>if b=true then te σ4 H5 fun v H6=>H6 D=some (.lst ys)∧ys.length < sizeLine∧Pv (i + 1) (ys++[v]) (upd H6 D (.lst (ys++[v]))) else Pv (i + 1) ys H5)
  (hd:∀ ys H,Pv k ys H→Q H):
  ∃ W:Nat→Nat→List V→Hp→Prop,(∃ m,W 0 m [] (upd H1 D (.lst [])))∧∀ i m ys H2,W i m ys H2→((Itr lo k).stop i H2∧Q H2)∨
    ((Itr lo k).go i H2∧∃ N:List V→Hp→Prop,(∀ ys' H',N ys' H'→∃ m',m' < m∧W (i + 1) m' ys' H')∧∀ x H3,(Itr lo k).yld i H2 x H3→g x (c7 n fx σ) H3 fun σ4 H4=>tc σ4 H4 fun b H5=>
      if b=true then te σ4 H5 fun v H6=>H6 D=some (.lst ys)∧ys.length < sizeLine∧N (ys++[v]) (upd H6 D (.lst (ys++[v]))) else N ys H5):=by
 refine ⟨fun i m ys H=>m=k - i∧i≤k∧Pv i ys H,⟨k,by simp,Nat.zero_le _,h0⟩,?_⟩
 rintro i m ys H ⟨rfl,hi,p⟩
 by_cases hlt:i < k
 ·refine .inr ⟨hlt,Pv (i + 1),fun ys' H' p'=>⟨k - (i + 1),by omega,rfl,hlt,p'⟩,fun x H' y=>?_⟩
  obtain ⟨e,y⟩:=y
  subst e;subst y
  exact hs i ys _ hlt p
 ·have e:i=k:=by omega
  subst e
  exact .inl ⟨Nat.le_refl _,hd ys H p⟩
theorem bT {a:Addr} {xs:List V} (Pv:Nat→List V→Hp→Prop) (h0:Pv 0 [] (upd H1 D (.lst []))) (hl:∀ i ys H,i≤xs.length→Pv i ys H→SqL K H a xs)
  (hs:∀ i x ys H,xs[i]? =some x→Pv i ys H→g x (c7 n fx σ) H fun σ4 H4=>tc σ4 H4 fun b H5=>if b=true then te σ4 H5 fun v H6=>H6 D=some (.lst ys)∧ys.length < sizeLine∧Pv (i + 1) (ys++[v]) (upd H6 D (.lst (ys++[v]))) else Pv (i + 1) ys H5)
  (hd:∀ ys H,Pv xs.length ys H→Q H):
  ∃ W:Nat→Nat→List V→Hp→Prop,(∃ m,W 0 m [] (upd H1 D (.lst [])))∧∀ i m ys H2,W i m ys H2→((Itl K a).stop i H2∧Q H2)∨
    ((Itl K a).go i H2∧∃ N:List V→Hp→Prop,(∀ ys' H',N ys' H'→∃ m',m' < m∧W (i + 1) m' ys' H')∧∀ x H3,(Itl K a).yld i H2 x H3→g x (c7 n fx σ) H3 fun σ4 H4=>tc σ4 H4 fun b H5=>
      if b=true then te σ4 H5 fun v H6=>H6 D=some (.lst ys)∧ys.length < sizeLine∧N (ys++[v]) (upd H6 D (.lst (ys++[v]))) else N ys H5):=by
 refine ⟨fun i m ys H=>m=xs.length - i∧i≤xs.length∧Pv i ys H,⟨xs.length,by simp,Nat.zero_le _,h0⟩,?_⟩
 rintro i m ys H ⟨rfl,hi,p⟩
 have q:=hl i ys H hi p
 by_cases hlt:i < xs.length
 ·refine .inr ⟨⟨xs,xs[i],q,by simp [hlt]⟩,Pv (i + 1),fun ys' H' p'=>⟨xs.length - (i + 1),by omega,rfl,hlt,p'⟩,fun x H' y=>?_⟩
  obtain ⟨e,y⟩:=y
  subst e
  exact hs i x ys _ (y xs q) p
 ·have e:i=xs.length:=by omega
  subst e
  exact .inl ⟨⟨xs,q,Nat.le_refl _⟩,hd ys H p⟩
theorem Bp {a:Addr} {xs:List V} (Pv:Nat→List V→Hp→Prop) (h0:Pv 0 [] (upd H1 D (.lst []))) (hl:∀ i ys H,i≤xs.length→Pv i ys H→SqT K H a xs)
  (hs:∀ i x ys H,xs[i]? =some x→Pv i ys H→g x (c7 n fx σ) H fun σ4 H4=>tc σ4 H4 fun b H5=>if b=true then te σ4 H5 fun v H6=>H6 D=some (.lst ys)∧ys.length < sizeLine∧Pv (i + 1) (ys++[v]) (upd H6 D (.lst (ys++[v]))) else Pv (i + 1) ys H5)
  (hd:∀ ys H,Pv xs.length ys H→Q H):
  ∃ W:Nat→Nat→List V→Hp→Prop,(∃ m,W 0 m [] (upd H1 D (.lst [])))∧∀ i m ys H2,W i m ys H2→((Itt K a).stop i H2∧Q H2)∨
    ((Itt K a).go i H2∧∃ N:List V→Hp→Prop,(∀ ys' H',N ys' H'→∃ m',m' < m∧W (i + 1) m' ys' H')∧∀ x H3,(Itt K a).yld i H2 x H3→g x (c7 n fx σ) H3 fun σ4 H4=>tc σ4 H4 fun b H5=>
      if b=true then te σ4 H5 fun v H6=>H6 D=some (.lst ys)∧ys.length < sizeLine∧N (ys++[v]) (upd H6 D (.lst (ys++[v]))) else N ys H5):=by
 refine ⟨fun i m ys H=>m=xs.length - i∧i≤xs.length∧Pv i ys H,⟨xs.length,by simp,Nat.zero_le _,h0⟩,?_⟩
 rintro i m ys H ⟨rfl,hi,p⟩
 have q:=hl i ys H hi p
 by_cases hlt:i < xs.length
 ·refine .inr ⟨⟨xs,xs[i],q,by simp [hlt]⟩,Pv (i + 1),fun ys' H' p'=>⟨xs.length - (i + 1),by omega,rfl,hlt,p'⟩,fun x H' y=>?_⟩
  obtain ⟨e,y⟩:=y
  subst e
  exact hs i x ys _ (y xs q) p
 ·have e:i=xs.length:=by omega
  subst e
  exact .inl ⟨⟨xs,q,Nat.le_refl _⟩,hd ys H p⟩
end
noncomputable def tQ (K:PySem.W.Frag) (H:Hp) (x:V) (k:String):Prop:=match x with
 | .non=>k="NoneType"
 | .bl _=>k="bool"
 | .int _=>k="int"
 | .str _=>k="str"
 | .ref p=>(k="list"∧∃ xs,SqL K H p xs)∨(k="tuple"∧∃ xs,SqT K H p xs)∨(k="dict"∧∃ kvs,Rd H p (.dK kvs))
 | _=>False
noncomputable def subB (k T:String):Bool:=k == T||(k == "bool"&&T == "int")
noncomputable def rIsi (K:PySem.W.Frag):List V→Hp→VK→Prop:=fun xs H Q=>∃ x k T,xs=[x,.ty T]∧tQ K H x k∧T∈["int","bool","str","list","tuple","dict"]∧Q (.bl (subB k T)) H
section
variable {X:Cx}
theorem Id:i6 X (.builtin "isinstance") (rIsi X.K):=by
 intro pins s σ H xs us Q I r h
 obtain ⟨x,k,T,rfl,hk,hT,q⟩:=h
 obtain ⟨u,v,rfl,rx,rt⟩:=GB r
 cases rt
 have f0:∀ b,b=subB k T→EP X pins σ Q (.bool b) s:=fun b e=>⟨.bl b,H,I,rfl,by rw [e];exact q⟩
 have f1:∀ b,b=subB k T→EP X pins σ Q (.bool b) {s with toks:=s.toks + 1}:=fun b e=>⟨.bl b,H,I.tok _,rfl,by rw [e];exact q⟩
 simp only [List.mem_cons,List.not_mem_nil,or_false] at hT
 cases x with
 | non=>
   cases rx;cases hk
   rcases hT with rfl | rfl | rfl | rfl | rfl | rfl
   ·exact IsiPair.NoneType_int (f1 _ (by decide))
   ·exact IsiPair.NoneType_bool (f1 _ (by decide))
   ·exact IsiPair.NoneType_str (f1 _ (by decide))
   ·exact IsiPair.NoneType_list (f1 _ (by decide))
   ·exact IsiPair.NoneType_tuple (f1 _ (by decide))
   ·exact IsiPair.NoneType_dict (f1 _ (by decide))
 | bl b=>
   cases rx;cases hk
   rcases hT with rfl | rfl | rfl | rfl | rfl | rfl
   ·exact IsiPair.bool_int (f0 _ (by decide))
   ·exact IsiPair.bool_bool (f0 _ (by decide))
   ·exact IsiPair.bool_str (f1 _ (by decide))
   ·exact IsiPair.bool_list (f1 _ (by decide))
   ·exact IsiPair.bool_tuple (f1 _ (by decide))
   ·exact IsiPair.bool_dict (f1 _ (by decide))
 | int i=>
   obtain ⟨t,rfl⟩:=rx;cases hk
   rcases hT with rfl | rfl | rfl | rfl | rfl | rfl
   ·exact IsiPair.int_int (f0 _ (by decide))
   ·exact IsiPair.int_bool (f1 _ (by decide))
   ·exact IsiPair.int_str (f1 _ (by decide))
   ·exact IsiPair.int_list (f1 _ (by decide))
   ·exact IsiPair.int_tuple (f1 _ (by decide))
   ·exact IsiPair.int_dict (f1 _ (by decide))
 | str z=>
   obtain ⟨t,rfl⟩:=rx;cases hk
   rcases hT with rfl | rfl | rfl | rfl | rfl | rfl
   ·exact IsiPair.str_int (f1 _ (by decide))
   ·exact IsiPair.str_bool (f1 _ (by decide))
   ·exact IsiPair.str_str (f0 _ (by decide))
   ·exact IsiPair.str_list (f1 _ (by decide))
   ·exact IsiPair.str_tuple (f1 _ (by decide))
   ·exact IsiPair.str_dict (f1 _ (by decide))
 | ref p=>
   cases rx
   rcases hk with ⟨rfl,xs,hq⟩ | ⟨rfl,xs,hq⟩ | ⟨rfl,kvs,hq⟩
   ·obtain ⟨its,_,pl,_⟩:=I.list hq
    obtain ⟨o,ho,hc,_⟩:=pl.isList
    rcases hT with rfl | rfl | rfl | rfl | rfl | rfl
    ·exact IsiPair.list_int ho hc (f1 _ (by decide))
    ·exact IsiPair.list_bool ho hc (f1 _ (by decide))
    ·exact IsiPair.list_str ho hc (f1 _ (by decide))
    ·exact IsiPair.list_list ho hc (f0 _ (by decide))
    ·exact IsiPair.list_tuple ho hc (f1 _ (by decide))
    ·exact IsiPair.list_dict ho hc (f1 _ (by decide))
   ·obtain ⟨its,_,pl,_⟩:=I.tuple hq
    obtain ⟨o,ho,hc,_⟩:=pl
    rcases hT with rfl | rfl | rfl | rfl | rfl | rfl
    ·exact IsiPair.tuple_int ho hc (f1 _ (by decide))
    ·exact IsiPair.tuple_bool ho hc (f1 _ (by decide))
    ·exact IsiPair.tuple_str ho hc (f1 _ (by decide))
    ·exact IsiPair.tuple_list ho hc (f1 _ (by decide))
    ·exact IsiPair.tuple_tuple ho hc (f0 _ (by decide))
    ·exact IsiPair.tuple_dict ho hc (f1 _ (by decide))
   ·obtain ⟨_,_,_,_,o,_,_,ho,ex,_⟩:=hq.ok I.hok
    have hc:o.cls= .type "dict":=ex.1
    rcases hT with rfl | rfl | rfl | rfl | rfl | rfl
    ·exact IsiPair.dict_int ho hc (f1 _ (by decide))
    ·exact IsiPair.dict_bool ho hc (f1 _ (by decide))
    ·exact IsiPair.dict_str ho hc (f1 _ (by decide))
    ·exact IsiPair.dict_list ho hc (f1 _ (by decide))
    ·exact IsiPair.dict_tuple ho hc (f1 _ (by decide))
    ·exact IsiPair.dict_dict ho hc (f0 _ (by decide))
 | _=>exact False.elim hk
theorem uN {xs:List V} {us:List Value} (r:Vals xs us) {j:Nat} (h:j < us.toArray.size):RelV (xs.getD j .non) (us.toArray[j]):=by
 have hl:=r.length
 have h':j < us.length:=by simpa using h
 obtain ⟨u,e,ru⟩:=r.get (i:=j) (x:=xs.getD j .non) (by rw [List.getD_eq_getElem?_getD,List.getElem?_eq_getElem (by omega)];rfl)
 have e2:us.toArray[j]=u:=by
  rw [List.getElem?_eq_getElem h'] at e
  have:=Option.some.inj e
  simpa using this
 rw [e2];exact ru
end
theorem E4:typeLookup (.type "list_reverseiterator") "__len__"=pure none:=by rw [typeLookup_type,builtinLookup_eq_fast];kernel_rfl
theorem HL:typeLookup (.type "list_reverseiterator") "__length_hint__"=pure (some (.builtin "list_reverseiterator.__length_hint__")):=by rw [typeLookup_type,builtinLookup_eq_fast];kernel_rfl
section
variable {P0:Program} {w0:World} {A0:Around} {E0':Value→Shared→Prop} {t0:Shared}
theorem CG {R:Result→Shared→Prop} {it l:Addr} {items:Array Value} (hh:A0.handled=none) (hne:l≠it) (hit:t0.heap.IsRevIter it l ((items.size:Int) - 1)) (hl:t0.heap.IsList l items) (hz:items.size≤sizeLine)
  (S:Addr) (res:Value) (c₀:Nat) (hS:t0.heap.get? S=some {cls:= .type "list",data:= .seq #[] c₀}) (hSi:S≠it) (hSl:S≠l)
  (hR:∀ h' tk acc' c',(∀ b o,b≠S→b≠it→t0.heap.get? b=some o→h'.get? b=some o)→h'.get? S=some {cls:= .type "list",dict:=none,data:= .seq acc' c',slots:=#[]}→
   ItemsOf (fun i v=>items[items.size - 1 - i]? =some v) acc' items.size→R (.ok (.ret res)) {t0 with heap:=h',toks:=tk}):
  wpAny (model P0 w0) A0.in1 (Builtin.List.listExtendWith (.ref S) (.ref it) res)
   (fun fin s'=>match fin with | .done f=>R (.ok f) s' | .again c'=>c'.quiet=true∧codeAny (model P0 w0) A0 c' R s') (fun e s'=>R (.error e) s') t0:=by
 have W:=(Walks.listRev (prog:=P0) (w:=w0) (A:=A0.in1) hh it l hne items).toS
 have st0:(0:Nat)≤items.size∧t0.heap.IsRevIter it l ((items.size:Int) - 1 - ((0:Nat):Int))∧t0.heap.IsList l items:=⟨Nat.zero_le _,by simpa using hit,hl⟩
 have h1:Builtin.List.listSameRef (.ref S) (.ref it)=false:=by simp [Builtin.List.listSameRef,hSi]
 have hSf:S∉[it,l]:=by simp [hSi,hSl]
 unfold Builtin.List.listExtendWith
 refine wpAny_bind (wpAny_typeOf hit.typeIs ?_)
 rw [if_neg (by rw [h1];decide)]
 refine wpAny_bind (wpAny_pyIter_revIter hit ?_)
 refine wpAny_bind (wpAny_holding ?_)
 unfold Builtin.List.listLengthHint
 refine wpAny_bind (wpAny_specialOf hit.typeIs E4 ?_)
 show wpAny _ A0.in1 (specialOf (Value.ref it) (Str.ofString "__length_hint__") >>=_) _ _ _
 refine wpAny_bind (wpAny_specialOf hit.typeIs HL ?_)
 (generalize hid:("list_reverseiterator.__length_hint__":String)=id0;wp_delta;rw [show splitId id0=some ("list_reverseiterator","__length_hint__") from by subst hid;decide +kernel];subst hid)
 refine wpAny_bind (wpAny_isInstance (b:=true) hit.typeIs (by rw [isSubtype_type];kernel_rfl) ?_)
 refine wpAny_pure ?_
 rw [if_neg (by decide)]
 refine wpAny_pure ⟨plainId_quiet F.plain_extend_loop _,codeAny_extend_loopS W hz S hSf res items.size 0 t0 #[] c₀ rfl (Nat.zero_le _) st0 hS (ItemsOf.nil _) fun s' acc' c' hm hS' hacc=>?_⟩
 rw [Moved.eq_with hm]
 refine hR s'.heap s'.toks acc' c' (fun b o hb hb2 e=>hm.heap b o (fun hmem=>?_) e) hS' hacc
 rcases List.mem_cons.mp hmem with z | z
 ·exact hb z
 ·exact hb2 (List.mem_singleton.mp z)
theorem Hy {R:Result→Shared→Prop} {it l:Addr} {items:Array Value} (hh:A0.handled=none) (hne:l≠it) (hit:t0.heap.IsRevIter it l ((items.size:Int) - 1)) (hl:t0.heap.IsList l items) (hz:items.size≤sizeLine)
  (S:Addr) (hS:t0.heap.get? S=some {cls:= .type "list",data:= .seq #[]}) (hSi:S≠it) (hSl:S≠l)
  (hR:∀ h' tk acc' c',(∀ b o,b≠S→b≠it→t0.heap.get? b=some o→h'.get? b=some o)→h'.get? S=some {cls:= .type "list",dict:=none,data:= .seq acc' c',slots:=#[]}→
   ItemsOf (fun i v=>items[items.size - 1 - i]? =some v) acc' items.size→R (.ok (.ret .none)) {t0 with heap:=h',toks:=tk}):
  wpAny (model P0 w0) A0.in1 (Builtin.«list.__init__» ⟨[.ref S,.ref it],[]⟩)
   (fun fin s'=>match fin with | .done f=>R (.ok f) s' | .again c'=>c'.quiet=true∧codeAny (model P0 w0) A0 c' R s') (fun e s'=>R (.error e) s') t0:=by
 show wpAny _ _ (do let old ← Builtin.List.listItems (.ref S);Builtin.List.listUpdate (.ref S) (fun _=>#[]);letGo old.toList.reverse;Builtin.List.listExtendWith (.ref S) (.ref it) .none) _ _ t0
 refine wpAny_bind ?_
 unfold Builtin.List.listItems
 refine wpAny_bind (wpAny_seqItems hS rfl (wpAny_pure ?_))
 show wpAny _ _ (updateSeq S (fun _=>#[]) >>=fun _=>letGo (#[]:Array Value).toList.reverse >>=fun _=>Builtin.List.listExtendWith (.ref S) (.ref it) .none) _ _ t0
 refine wpAny_bind (wpAny_updateSeq hS rfl ?_)
 have hS2:=Heap.get?_update_self (Obj.mapSeq (fun _=>(#[]:Array Value))) hS rfl
 have oth:∀ b o,b≠S→t0.heap.get? b=some o→(t0.heap.update S (Obj.mapSeq (fun _=>(#[]:Array Value)))).get? b=some o:=fun b o hb e=>(Heap.get?_update_other _ _ (Ne.symm hb)).trans e
 refine wpAny_bind (wpAny_letGo ?_)
 refine CG hh hne (hit.at fun o e=>oth it o (Ne.symm hSi) e) (let ⟨o,e,c⟩:=hl;⟨o,oth l o (Ne.symm hSl) e,c⟩) hz S .none _ hS2 hSi hSl fun h' tk acc' c' hk hS' hacc=>?_
 exact hR h' tk acc' c' (fun b o hb hb2 e=>hk b o hb hb2 (oth b o hb e)) hS' hacc
theorem wp {Q:Value→Shared→Prop} {it l:Addr} {items:Array Value} (hh:A0.handled=none) (hne:l≠it) (hit:t0.heap.IsRevIter it l ((items.size:Int) - 1)) (hl:t0.heap.IsList l items) (hz:items.size≤sizeLine)
  (hQ:∀ h' tk acc' c',(∀ b o,b≠it→t0.heap.get? b=some o→h'.get? b=some o)→h'.get? t0.heap.objs.size=some {cls:= .type "list",dict:=none,data:= .seq acc' c',slots:=#[]}→
   ItemsOf (fun i v=>items[items.size - 1 - i]? =some v) acc' items.size→Q (.ref t0.heap.objs.size) {t0 with heap:=h',toks:=tk}):
  wpAny (model P0 w0) A0 (call (.type "list") [.ref it]) Q E0' t0:=by
 have lt1:it < t0.heap.objs.size:=let ⟨o,e,_⟩:=hit;Heap.lt_size e
 have lt2:l < t0.heap.objs.size:=let ⟨o,e,_⟩:=hl;Heap.lt_size e
 refine callType_codes (Q₁:=fun obj s₁=>obj= .ref t0.heap.objs.size∧s₁={t0 with heap:=t0.heap.push {cls:= .type "list",data:= .seq #[]}}) F.called_list (F.typeCall_list_1 _) F.entry_list_init (code_list_new _ ⟨rfl,rfl⟩) fun obj s₁ h₁=>?_
 obtain ⟨rfl,rfl⟩:=h₁
 have hS:(t0.heap.push {cls:= .type "list",data:= .seq #[]}).get? t0.heap.objs.size=some {cls:= .type "list",data:= .seq #[]}:=Heap.get?_push_size _ rfl
 refine ⟨⟨_,hS,rfl⟩,F.args_list_init_2 _ _,Hy (A0:=A0.in1) hh hne (hit.at fun o e=>Heap.get?_push_of_some _ e) (let ⟨o,e,c⟩:=hl;⟨o,Heap.get?_push_of_some _ e,c⟩) hz _ hS (Ne.symm (Nat.ne_of_lt lt1)) (Ne.symm (Nat.ne_of_lt lt2)) fun h' tk acc' c' hk hS' hacc=>?_⟩
 exact ⟨rfl,hQ h' tk acc' c' (fun b o hb e=>hk b o (Nat.ne_of_lt (Heap.lt_size e)) hb (Heap.get?_push_of_some _ e)) hS' hacc⟩
end
theorem Inv.laidT {X:Cx} {pins:List (Addr×Obj)} {σ:St} {H:Hp} {s:Shared} {h':Heap} {a it:Addr} {o:HO} {t':Nat} (I:Inv X pins σ H s) (k:∀ b u,b≠it→s.heap.get? b=some u→h'.get? b=some u) (hp:s.heap.objs.size≤a)
  (new:dh X.prog X.w (upd H a o) h' a o) (fp:FpOk X pins H it):Inv X pins σ (upd H a o) {s with heap:=h',toks:=t'}:=by
 obtain ⟨f0,f1,f2,f3,f4,f5⟩:=fp
 have fr:H a=none:=I.hok.fresh hp
 have nit:∀ b u,H b=some u→b≠it:=fun b u e z=>by rw [z,f0] at e;cases e
 have nci:∀ {b:Addr},b∉[it]→b≠it:=fun hb z=>hb (by rw [z];exact List.mem_singleton.mpr rfl)
 refine I.step (g':=s.gens) (d':=s.drawn) (ch:=[it]) (fun b hb=>?_) (fun b ob _ _ hc e _=>k b ob (nci hc) e) (fun b ob _ _ hc e _=>⟨ob.slots,k b ob (nci hc) e⟩) (fun b ob _ e n=>?_) (fun b ob hc e=>⟨ob,k b ob (nci hc) e⟩)
  (fun b xs e=>by rw [aq (aj e fr)];exact e) (fun b ob u e=>by rw [aq (aj e fr)];exact e) (fun b ps e=>⟨#[],by rw [aq (aj e fr),e];simp⟩) (fun m hm=>?_) (fun b u e=>?_) I.bare
 ·have e:b=it:=List.mem_singleton.mp hb
  subst e
  exact ⟨f3,f1,f4,f5⟩
 ·rw [aq (Nat.ne_of_lt (Nat.lt_of_lt_of_le (Heap.lt_size e) hp))];exact n
 ·obtain ⟨ob,es,ep,ho,r⟩:=hm
  exact ⟨ob,es,ep,k _ ob (Ne.symm f1) ho,r⟩
 ·by_cases hb:b=a
  ·subst hb;rw [au] at e;cases e;exact new
  ·rw [aq hb] at e
   refine (I.hok b u e).stay (fun c v hc q=>k c v ?_ q) (fun c q=>by rw [aq (aj q fr)];exact q) fun c xs q=>by rw [aq (aj q fr)];exact q
   rcases hc with z | z
   ·rw [z];exact nit b u e
   ·exact nit c _ z
theorem Fy {its:List Value} {acc:Array Value} (h:ItemsOf (fun i v=>its.toArray[its.toArray.size - 1 - i]? =some v) acc its.toArray.size):acc=its.reverse.toArray:=by
 obtain ⟨h1,h2⟩:=h
 apply Array.ext_getElem?
 intro i
 have hs:its.toArray.size=its.length:=by simp
 by_cases hi:i < acc.size
 ·have e:=h2 i acc[i] (Array.getElem?_eq_getElem hi)
  rw [Array.getElem?_eq_getElem hi,← e]
  rw [List.getElem?_toArray,List.getElem?_toArray,List.getElem?_reverse (by omega),hs]
 ·rw [Array.getElem?_eq_none (by omega),Array.getElem?_eq_none (by simp;omega)]
noncomputable def tRev (K:PySem.W.Frag) (te:TE):TE:=fun σ H Q=>te σ H fun x H1=>∃ a xs,x= .ref a∧SqL K H1 a xs∧∀ l,H1 l=none→Q (.ref l) (upd H1 l (.lst xs.reverse))
section
variable {X:Cx}
theorem B0 {e:Expr} {te:TE} {p1 p2 q1 q2:Pos} (g1:Gl X "list") (g2:Gl X "reversed") (n1:X.mg "list"=none) (n2:X.mg "reversed"=none) (hc:X.calm=true) (he:PE X e te)
  (h1:starEach [Expr.Call (.Name "reversed" p1) [e] [] p2] X.env=[(false,eval (.Call (.Name "reversed" p1) [e] [] p2) X.env)]:=by rfl) (h2:starEach [e] X.env=[(false,eval e X.env)]:=by rfl):
  PE X (.Call (.Name "list" q1) [.Call (.Name "reversed" p1) [e] [] p2] [] q2) (tRev X.K te):=by
 intro pins s σ H Q I h
 have inner:∀ Q':Value→Shared→Prop,(∀ v s1,(∃ a xs its H1 r,v= .ref r∧SqL X.K H1 a xs∧Vals xs its∧a≠r∧Inv X pins σ H1 s1∧s1.heap.IsRevIter r a ((its.toArray.size:Int) - 1)∧s1.heap.IsList a its.toArray∧its.length≤sizeLine∧H1 r=none∧FpOk X pins H1 r∧(∀ l,H1 l=none→Q (.ref l) (upd H1 l (.lst xs.reverse))))→Q' v s1)→
   wpAny (model X.prog X.w) X.A (eval (.Call (.Name "reversed" p1) [e] [] p2) X.env) Q' X.xe s:=fun Q' hQ'=>by
  refine Call_ (oh I g2 n2 PyProof.Rows.boot_reversed (PyProof.Rows.callWith_type1 (thn (aa he ad h2 p2 pins s σ H (fun vs H1=>match vs with | [x]=>∃ a xs,x= .ref a∧SqL X.K H1 a xs∧∀ l,H1 l=none→Q (.ref l) (upd H1 l (.lst xs.reverse)) | _=>False) I h) fun us s1 ⟨vs,H1,I1,r1,q1⟩=>?_) h2 rfl))
  match vs,r1,q1 with
  | [x],r1,⟨a,xs,e1,hq,q⟩=>
  obtain ⟨u,rfl,ru⟩:=r1.one
  subst e1
  cases ru
  obtain ⟨its,rv,pl,hz⟩:=I1.list hq
  have lt:a < s1.heap.objs.size:=let ⟨o,e,_⟩:=pl.isList;Heap.lt_size e
  refine call_reversed_list pl.isList (hQ' _ _ ⟨a,xs,its,H1,s1.heap.objs.size,rfl,hq,rv,Nat.ne_of_lt lt,I1.kept (t':=s1.toks) fun b o e=>Heap.get?_push_of_some _ e,⟨_,Heap.get?_push_size _ rfl,rfl,rfl⟩,let ⟨o,e,c⟩:=pl.isList;⟨o,Heap.get?_push_of_some _ e,c⟩,by rw [← rv.length];exact hz,I1.fresh,I1.fpOk (Nat.le_refl _) I1.fresh,q⟩)
 refine Call_ (oh I g1 n1 PyProof.Rows.boot_list (PyProof.Rows.callWith_type1 (Q:=EP X pins σ Q) ?_ h1 rfl))
 rw [h1]
 show wpAny _ _ (spliced ((false,eval (.Call (.Name "reversed" p1) [e] [] p2) X.env)::backTo q2 [])) _ _ s
 refine Calls.spliced_cons (inner _ fun v s1 hv=>Calls.spliced_nil ?_)
 obtain ⟨a,xs,its,H1,r,rfl,hq,rv,hne,I1,hit,hl,hz,hf,fp,q⟩:=hv
 refine wp (I1.ok.hd hc) hne hit hl (by simpa using hz) fun h' tk acc c hk hS hacc=>?_
 have e:=Fy hacc
 subst e
 exact ⟨.ref s1.heap.objs.size,upd H1 s1.heap.objs.size (.lst xs.reverse),I1.laidT hk (Nat.le_refl _) ⟨by rw [List.length_reverse,rv.length];exact hz,its.reverse,c,rv.reverse,hS⟩ fp,rfl,q _ I1.fresh⟩
end
section
variable {X:Cx} {K:PySem.W.Frag}
theorem b9 (h:X.K=K):IxR X (rIxL K):=by subst h;exact Kk
theorem b6 (h:X.K=K):IxR X (rIxT K):=by subst h;exact Mx
theorem AV (h:X.K=K):SlR X (rSlL K):=by subst h;exact Jo
theorem ii (h:X.K=K):i6 X (.builtin "isinstance") (rIsi K):=by subst h;exact Id
noncomputable def rLen (K:PySem.W.Frag):List V→Hp→VK→Prop:=fun xs H Q=>∃ x n,xs=[x]∧LenV K x H n∧Q (.int n) H
theorem bu (h:X.K=K):i6 X (.builtin "len") (rLen K):=by subst h;exact Ic
noncomputable def zq (K:PySem.W.Frag):List V→Hp→VK→Prop:=fun xs H Q=>∃ p ys,xs=[.ref p]∧(SqL K H p ys∨SqT K H p ys)∧∀ l,H l=none→Q (.ref l) (upd H l (.lst ys))
theorem bi (h:X.K=K):i6 X (.type "list") (zq K):=by subst h;exact yQ
noncomputable def EA (K:PySem.W.Frag):List V→Hp→VK→Prop:=fun xs H Q=>∃ p ys,xs=[.ref p]∧((SqL K H p ys∧∀ l,H l=none→Q (.ref l) (upd H l (.tup ys)))∨(SqT K H p ys∧Q (.ref p) H))
theorem b8 (h:X.K=K):i6 X (.type "tuple") (EA K):=by subst h;exact wo
theorem bx {tg l:Expr} {tl:TE} (h:X.K=K) (hl:PE X l tl):PI X tg l (Km K tl):=by subst h;exact JO hl
theorem mI {tg l:Expr} {tl:TE} (h:X.K=K) (hl:PE X l tl):PI X tg l (iTup K tl):=by subst h;exact LZ hl
theorem zz {o:Expr} {to:TE} {name:Str} {apos cpos:Pos} {T id:String} {r:V→List V→Hp→VK→Prop} (h:X.K=K) (pa:PlainAttrs T) (slot:Slot T name id) (hty:typeOf (.builtin id)=pure (.type "method_descriptor")) (hm:MtR X id r) (ho:PE X o to)
  (hbase:attributeBase o name X.env (eval o X.env)=eval o X.env:=by rfl) (hline:(apos.endLine == cpos.line)=true:=by rfl):PE X (.Call (.Attribute o name apos) [] [] cpos) (tBM0 K T r to):=by subst h;exact Mb pa slot hty hm ho hbase hline
theorem jh {o e:Expr} {es:List Expr} {to:TE} {t:TA} {name:Str} {apos cpos:Pos} {T id:String} {r:V→List V→Hp→VK→Prop} (h:X.K=K) (pa:PlainAttrs T) (slot:Slot T name id) (hty:typeOf (.builtin id)=pure (.type "method_descriptor")) (hm:MtR X id r) (ho:PE X o to) (ha:PA X (e::es) t)
  (hbase:attributeBase o name X.env (eval o X.env)=eval o X.env:=by rfl)
  (hfew:((backTo cpos (starEach (e::es) X.env)).all (fun x=> !x.1)&&(backToKw cpos (keywordEach [] X.env)).all (fun x=>x.1.isSome)
   &&decide ((e::es).length + ([]:List Keyword).length + (if ([]:List Keyword).isEmpty then 0 else 1) < 30))=true:=by rfl)
  (hline:(apos.endLine == cpos.line)=true:=by rfl) (hs:starEach (e::es) X.env=(false,eval e X.env)::starEach es X.env:=by rfl) (hplain:(backTo cpos (starEach es X.env)).any (·.1)=false:=by rfl):
  PE X (.Call (.Attribute o name apos) (e::es) [] cpos) (tBM K T r to t):=by subst h;exact ND pa slot hty hm ho ha hbase hfew hline hs hplain
end
noncomputable def Its (x:Str):It:=⟨fun i _=>i < x.cps.size,fun i H v H'=>H'=H∧∃ c,x.cps[i]? =some c∧v= .str ⟨#[c]⟩,fun i _=>i=x.cps.size⟩
theorem AS {P:Program} {w:World} {K:PySem.W.Frag} {tg:Expr} {it:Addr} {x:Str} {t:Tok} {n:String}
  (hn:["enumerate","zip","dict_itemiterator","dict_reverseitemiterator","odict_iterator","itertools.zip_longest","itertools.pairwise"].contains n=false)
  (W:∀ A:Around,A.handled=none→Walks P w A it [it] [it] x.cps.size (SignAt x) (fun i h=>h.IsStrIter it n x t i))
  (hself:∀ (A:Around) (i:Nat) (s:Shared) (Q:Value→Shared→Prop) (E:Value→Shared→Prop),s.heap.IsStrIter it n x t i→Q (.ref it) s→wpAny (model P w) A (pyIter (.ref it)) Q E s):
  Turn P w K tg (Its x) [it] it (fun i h=>h.IsStrIter it n x t i) where
 mem:=by simp
 obj:=fun i h st b hb=>by
  have e:b=it:=by simpa using hb
  subst e
  obtain ⟨o,e,c,d⟩:=st
  exact ⟨o,e,fun v z=>by rw [d] at z;cases z⟩
 keep:=fun i h h' st k=>let ⟨o,e,r⟩:=st;⟨o,k it (by simp) o e,r⟩
 item:=by
  intro X hP hw hK hc i pins s σ H E I hf st hg
  subst hP hw hK
  obtain ⟨f0,f1,f2,f3,f4,f5⟩:=hf it (by simp)
  refine (W X.A (I.ok.hd hc)).item i s _ _ hg st fun v h' tk hv st' kk=>?_
  obtain ⟨c,u,hx,rfl⟩:=hv
  have I1:Inv X pins σ H {s with heap:=h',toks:=tk}:=I.turned (fun b o hb e=>kk b o (by simpa using hb) e) f0 f1 f3 f4 f5
  obtain ⟨o,e,c',d⟩:=id st'
  exact ⟨_,rfl,HP (s:={s with heap:=h',toks:=tk}) (n:=n) e c' d hn ⟨.str ⟨#[c]⟩,H,I1,⟨u,rfl⟩,⟨rfl,c,hx,rfl⟩,st',fun b hb=>(hf b hb).1⟩⟩
 done:=by
  intro X hP hw hK hc i pins s σ H E I hf st hg
  subst hP hw hK
  obtain ⟨f0,f1,f2,f3,f4,f5⟩:=hf it (by simp)
  have hg:i=x.cps.size:=hg
  subst hg
  exact (W X.A (I.ok.hd hc)).done s _ _ st fun h' tk kk=>⟨rfl,I.turned (fun b o hb e=>kk b o (by simpa using hb) e) f0 f1 f3 f4 f5⟩
 self:=hself
noncomputable def iStr (tl:TE):TI:=fun σ H R=>tl σ H fun x H1=>∃ z,x= .str z∧R (Its z) H1
section
variable {X:Cx} {tg:Expr}
theorem L4 {l:Expr} {tl:TE} (hl:PE X l tl):PI X tg l (iStr tl):=by
 intro pins s σ H R I h
 refine thn (hl pins s σ H _ I h) fun v s1 ⟨x,H1,I1,r1,q1⟩=>?_
 obtain ⟨z,e,q⟩:=q1
 subst e
 obtain ⟨t,rfl⟩:=r1
 have fp:∀ (o:Obj),∀ b∈[s1.heap.objs.size],FpOk X pins H1 b:=fun o b hb=>by
  have e:b=s1.heap.objs.size:=by simpa using hb
  subst e
  exact I1.fpOk (Nat.le_refl _) (I1.hok.fresh (Nat.le_refl _))
 cases ha:z.cps.all (· < 128)
 ·refine wpAny_pyIter_wide ha ⟨s1.heap.objs.size,[s1.heap.objs.size],_,_,H1,rfl,I1.kept (t':=s1.toks) fun b o e=>Heap.get?_push_of_some _ e,
   AS (n:="str_iterator") (t:=t) (by decide) (fun A hA=>Walks.strWide hA _ z t) (fun _ _ _ _ _ st h=>wpAny_pyIter_striter_wide st h),⟨_,Heap.get?_push_size _ rfl,rfl,rfl⟩,fp default,q⟩
 ·refine wpAny_pyIter_ascii ha ⟨s1.heap.objs.size,[s1.heap.objs.size],_,_,H1,rfl,I1.kept (t':=s1.toks) fun b o e=>Heap.get?_push_of_some _ e,
   AS (n:="str_ascii_iterator") (t:=t) (by decide) (fun A hA=>Walks.strAscii hA _ z t) (fun _ _ _ _ _ st h=>wpAny_pyIter_striter_ascii st h),⟨_,Heap.get?_push_size _ rfl,rfl,rfl⟩,fp default,q⟩
end
section
variable {n:Nat} {fx:List Nat} {g:TG} {tc:TT} {te:TE} {σ:St} {H1:Hp} {D:Addr} {Q:Hp→Prop}
theorem Ia {z:Str} (Pv:Nat→List V→Hp→Prop) (h0:Pv 0 [] (upd H1 D (.lst [])))
  (hs:∀ i c ys H,z.cps[i]? =some c→Pv i ys H→g (.str ⟨#[c]⟩) (c7 n fx σ) H fun σ4 H4=>tc σ4 H4 fun b H5=>if b=true then te σ4 H5 fun v H6=>H6 D=some (.lst ys)∧ys.length < sizeLine∧Pv (i + 1) (ys++[v]) (upd H6 D (.lst (ys++[v]))) else Pv (i + 1) ys H5)
  (hd:∀ ys H,Pv z.cps.size ys H→Q H):
  ∃ W:Nat→Nat→List V→Hp→Prop,(∃ m,W 0 m [] (upd H1 D (.lst [])))∧∀ i m ys H2,W i m ys H2→((Its z).stop i H2∧Q H2)∨
    ((Its z).go i H2∧∃ N:List V→Hp→Prop,(∀ ys' H',N ys' H'→∃ m',m' < m∧W (i + 1) m' ys' H')∧∀ x H3,(Its z).yld i H2 x H3→g x (c7 n fx σ) H3 fun σ4 H4=>tc σ4 H4 fun b H5=>
      if b=true then te σ4 H5 fun v H6=>H6 D=some (.lst ys)∧ys.length < sizeLine∧N (ys++[v]) (upd H6 D (.lst (ys++[v]))) else N ys H5):=by
 refine ⟨fun i m ys H=>m=z.cps.size - i∧i≤z.cps.size∧Pv i ys H,⟨z.cps.size,by simp,Nat.zero_le _,h0⟩,?_⟩
 rintro i m ys H ⟨rfl,hi,p⟩
 by_cases hlt:i < z.cps.size
 ·refine .inr ⟨hlt,Pv (i + 1),fun ys' H' p'=>⟨z.cps.size - (i + 1),by omega,rfl,hlt,p'⟩,fun x H' y=>?_⟩
  obtain ⟨e,c,hc,y⟩:=y
  subst e;subst y
  exact hs i c ys _ hc p
 ·have e:i=z.cps.size:=by omega
  subst e
  exact .inl ⟨rfl,hd ys H p⟩
end
theorem BJ {ns:List Str}:∀ {us:List Value},Vals (ns.map V.str) us→StrsAre us ns:=by
 induction ns with
 | nil=>intro us r;rw [List.map_nil] at r;cases r;exact .nil
 | cons n ns ih=>
   intro us r
   rw [List.map_cons] at r
   cases r with
   | cons r1 r2=>
     obtain ⟨t,e⟩:=r1
     subst e
     exact .cons n t (ih r2)
noncomputable def LT (K:PySem.W.Frag):List V→Hp→VK→Prop:=fun xs H Q=>∃ (a:Addr) (bs:List Bool),xs=[.ref a]∧SqL K H a (bs.map V.bl)∧Q (.bl (bs.all id)) H
noncomputable def LS (K:PySem.W.Frag):List V→Hp→VK→Prop:=fun xs H Q=>∃ (a:Addr) (bs:List Bool),xs=[.ref a]∧SqL K H a (bs.map V.bl)∧Q (.bl (bs.any id)) H
section
variable {X:Cx} {K:PySem.W.Frag}
theorem F3 {bs:List Bool} {its:List Value} (rv:Vals (bs.map V.bl) its) {i:Nat} {v:Value} (h:its.toArray[i]? =some v):v= .bool (bs.getD i false):=by
 have h':its[i]? =some v:=by simpa using h
 have hi:i < its.length:=(List.getElem?_eq_some_iff.mp h').1
 have hl:=rv.length
 rw [List.length_map] at hl
 obtain ⟨u,e,r⟩:=rv.get (i:=i) (x:= .bl (bs.getD i false)) (by rw [List.getElem?_map,List.getElem?_eq_getElem (by omega),List.getD_eq_getElem?_getD,List.getElem?_eq_getElem (by omega)];rfl)
 rw [h'] at e
 cases e
 exact r
theorem MT (bs:List Bool):(List.range bs.length).all (fun i=>bs.getD i false)=bs.all id:=by
 rw [Bool.eq_iff_iff,List.all_eq_true,List.all_eq_true]
 constructor
 ·intro h x hx
  obtain ⟨i,hi,e⟩:=List.mem_iff_getElem.mp hx
  have:=h i (List.mem_range.mpr hi)
  rw [List.getD_eq_getElem?_getD,List.getElem?_eq_getElem hi,e] at this
  exact this
 ·intro h i hi
  have hi:=List.mem_range.mp hi
  rw [List.getD_eq_getElem?_getD,List.getElem?_eq_getElem hi]
  exact h _ (List.getElem_mem hi)
theorem MR (bs:List Bool):(List.range bs.length).any (fun i=>bs.getD i false)=bs.any id:=by
 rw [Bool.eq_iff_iff,List.any_eq_true,List.any_eq_true]
 constructor
 ·rintro ⟨i,hi,h⟩
  have hi:=List.mem_range.mp hi
  rw [List.getD_eq_getElem?_getD,List.getElem?_eq_getElem hi] at h
  exact ⟨_,List.getElem_mem hi,h⟩
 ·rintro ⟨x,hx,h⟩
  obtain ⟨i,hi,e⟩:=List.mem_iff_getElem.mp hx
  refine ⟨i,List.mem_range.mpr hi,?_⟩
  rw [List.getD_eq_getElem?_getD,List.getElem?_eq_getElem hi,e]
  exact h
theorem FY (h:X.K=K) (hc:X.calm=true):i6 X (.builtin "all") (LT K):=by
 subst h
 intro pins s σ H xs us Q I r h
 obtain ⟨a,bs,rfl,hq,q⟩:=h
 obtain ⟨u,rfl,ru⟩:=rU r
 cases ru
 obtain ⟨its,rv,pl,hz⟩:=I.list hq
 have lt:a < s.heap.objs.size:=let ⟨o,e,_⟩:=pl.isList;Heap.lt_size e
 have hl:its.toArray.size=bs.length:=by have:=rv.length;rw [List.length_map] at this;simp [this]
 refine call_all_walk (wpAny_pyIter_list pl.isList ⟨s.heap.objs.size,_,_,its.toArray.size,_,_,fun i=>bs.getD i false,rfl,Walks.list (A:=X.A.in1) (I.ok.hd hc) s.heap.objs.size a (Nat.ne_of_lt lt) its.toArray,⟨⟨_,Heap.get?_push_size _ rfl,rfl,rfl⟩,let ⟨o,e,c⟩:=pl.isList;⟨o,Heap.get?_push_of_some _ e,c⟩⟩,fun i v s Q E hv hQ=>by rw [F3 rv hv];exact wpAny_truthy_bool hQ,fun h' tk kk=>?_⟩)
 rw [hl,MT]
 exact ⟨.bl _,H,I.kept (fun b o e=>kk b o (fun hm=>by have:=Heap.lt_size e;rw [List.mem_singleton.mp hm] at this;exact absurd this (Nat.lt_irrefl _)) (Heap.get?_push_of_some _ e)),rfl,q⟩
theorem yR (h:X.K=K) (hc:X.calm=true):i6 X (.builtin "any") (LS K):=by
 subst h
 intro pins s σ H xs us Q I r h
 obtain ⟨a,bs,rfl,hq,q⟩:=h
 obtain ⟨u,rfl,ru⟩:=rU r
 cases ru
 obtain ⟨its,rv,pl,hz⟩:=I.list hq
 have lt:a < s.heap.objs.size:=let ⟨o,e,_⟩:=pl.isList;Heap.lt_size e
 have hl:its.toArray.size=bs.length:=by have:=rv.length;rw [List.length_map] at this;simp [this]
 refine call_any_walk (wpAny_pyIter_list pl.isList ⟨s.heap.objs.size,_,_,its.toArray.size,_,_,fun i=>bs.getD i false,rfl,Walks.list (A:=X.A.in1) (I.ok.hd hc) s.heap.objs.size a (Nat.ne_of_lt lt) its.toArray,⟨⟨_,Heap.get?_push_size _ rfl,rfl,rfl⟩,let ⟨o,e,c⟩:=pl.isList;⟨o,Heap.get?_push_of_some _ e,c⟩⟩,fun i v s Q E hv hQ=>by rw [F3 rv hv];exact wpAny_truthy_bool hQ,fun h' tk kk=>?_⟩)
 rw [hl,MR]
 exact ⟨.bl _,H,I.kept (fun b o e=>kk b o (fun hm=>by have:=Heap.lt_size e;rw [List.mem_singleton.mp hm] at this;exact absurd this (Nat.lt_irrefl _)) (Heap.get?_push_of_some _ e)),rfl,q⟩
end
inductive Dt where
 | non | bl (b:Bool) | int (i:Int) | str (x:Str) | lst (xs:List Dt) | tup (xs:List Dt)
inductive Rep (K:PySem.W.Frag) (H:Hp):V→Dt→Prop where
 | non:Rep K H .non .non
 | bl (b:Bool):Rep K H (.bl b) (.bl b)
 | int (i:Int):Rep K H (.int i) (.int i)
 | str (x:Str):Rep K H (.str x) (.str x)
 | lst {p:Addr} {xs:List V} {ds:List Dt} (h:SqL K H p xs) (l:xs.length=ds.length) (r:∀ (i:Nat) x d,xs[i]? =some x→ds[i]? =some d→Rep K H x d):Rep K H (.ref p) (.lst ds)
 | tup {p:Addr} {xs:List V} {ds:List Dt} (h:SqT K H p xs) (l:xs.length=ds.length) (r:∀ (i:Nat) x d,xs[i]? =some x→ds[i]? =some d→Rep K H x d):Rep K H (.ref p) (.tup ds)
theorem Same.tup {K:PySem.W.Frag} {H H':Hp} {a:Addr} {xs:List V} (e:Same H H') (h:SqT K H a xs):SqT K H' a xs:=by
 rcases h with (h | ⟨o,h⟩) | h
 ·exact .inl (.inl (e _ _ h))
 ·exact .inl (.inr ⟨o,e _ _ h⟩)
 ·exact .inr h
theorem Rep.same {K:PySem.W.Frag} {H H':Hp} (e:Same H H') {x:V} {d:Dt} (r:Rep K H x d):Rep K H' x d:=by
 induction r with
 | non=>exact .non
 | bl b=>exact .bl b
 | int i=>exact .int i
 | str x=>exact .str x
 | lst h l r ih=>exact .lst (e.seq h) l ih
 | tup h l r ih=>exact .tup (e.tup h) l ih
mutual
noncomputable def eqD:Dt→Dt→Bool
 | .non,.non=>true
 | .bl a,.bl b=>a == b
 | .bl a,.int b=>(if a then 1 else 0) == b
 | .int a,.bl b=>a == (if b then 1 else 0)
 | .int a,.int b=>a == b
 | .str a,.str b=>a == b
 | .lst xs,.lst ys=>eqDs xs ys
 | .tup xs,.tup ys=>eqDs xs ys
 | _,_=>false
noncomputable def eqDs:List Dt→List Dt→Bool
 | [],[]=>true
 | x::xs,y::ys=>eqD x y&&eqDs xs ys
 | _,_=>false
end
mutual
noncomputable def depD:Dt→Nat
 | .lst xs=>cU xs + 1
 | .tup xs=>cU xs + 1
 | _=>0
noncomputable def cU:List Dt→Nat
 | []=>0
 | x::xs=>max (depD x) (cU xs)
end
theorem FQ {ds:List Dt} {d:Dt} (h:d∈ds):depD d≤cU ds:=by
 induction ds with
 | nil=>cases h
 | cons x xs ih=>
   rw [cU]
   rcases List.mem_cons.mp h with rfl | h
   ·omega
   ·have:=ih h;omega
theorem wc:∀ {xs ys:List Dt},xs.length≠ys.length→eqDs xs ys=false
 | [],[],h=>absurd rfl h
 | [],_::_,_=>rfl
 | _::_,[],_=>rfl
 | x::xs,y::ys,h=>by rw [eqDs,wc (fun z=>h (by simp [z])),Bool.and_false]
theorem we:∀ {xs ys:List Dt},xs.length=ys.length→eqDs xs ys=(List.range xs.length).all fun i=>eqD (xs.getD i .non) (ys.getD i .non)
 | [],[],_=>rfl
 | [],_::_,h=>by cases h
 | _::_,[],h=>by cases h
 | x::xs,y::ys,h=>by
   rw [eqDs,we (by simpa using h),List.length_cons,List.range_succ_eq_map,List.all_cons,List.all_map]
   rfl
theorem iA:∀ d:Dt,eqD d d=true:=by
 intro d
 refine Dt.rec (motive_1:=fun d=>eqD d d=true) (motive_2:=fun ds=>eqDs ds ds=true) ?_ ?_ ?_ ?_ ?_ ?_ ?_ ?_ d
 ·rfl
 ·intro b;simp [eqD]
 ·intro b;simp [eqD]
 ·intro b;simp [eqD]
 ·intro xs h;rw [eqD];exact h
 ·intro xs h;rw [eqD];exact h
 ·rfl
 ·intro x xs h1 h2;rw [eqDs,h1,h2];rfl
theorem Bm:∀ {d e:Dt},d=e→eqD d e=true:=fun h=>by subst h;exact iA _
section
variable {X:Cx} {pins:List (Addr×Obj)} {σ:St} {H:Hp} {s:Shared}
theorem Inv.notBoth (I:Inv X pins σ H s) {p:Addr} {xs ys:List V} (h1:SqL X.K H p xs) (h2:SqT X.K H p ys):False:=by
 obtain ⟨_,_,pl,_⟩:=I.list h1
 obtain ⟨_,_,⟨o,ho,hc,_⟩,_⟩:=I.tuple h2
 obtain ⟨o',n,ho',hc',_⟩:=pl
 rw [ho] at ho';cases ho'
 rw [hc] at hc'
 exact absurd hc' (by decide)
theorem Rep.fun (I:Inv X pins σ H s) {x:V} {d:Dt} (r:Rep X.K H x d):∀ {e:Dt},Rep X.K H x e→d=e:=by
 induction r with
 | non=>intro e q;cases q;rfl
 | bl b=>intro e q;cases q;rfl
 | int i=>intro e q;cases q;rfl
 | str z=>intro e q;cases q;rfl
 | lst h l r ih=>
   intro e q
   cases q with
   | lst h' l' r'=>
     have ex:=I.list_inj h h'
     subst ex
     congr 1
     refine List.ext_getElem? fun i=>?_
     rename_i xs ds ds'
     by_cases hi:i < ds.length
     ·rw [List.getElem?_eq_getElem hi,List.getElem?_eq_getElem (by omega)]
      have hx:i < xs.length:=by omega
      rw [ih i _ _ (List.getElem?_eq_getElem hx) (List.getElem?_eq_getElem hi) (r' i _ _ (List.getElem?_eq_getElem hx) (List.getElem?_eq_getElem (by omega)))]
     ·rw [List.getElem?_eq_none (by omega),List.getElem?_eq_none (by omega)]
   | tup h' l' r'=>exact (I.notBoth h h').elim
 | tup h l r ih=>
   intro e q
   cases q with
   | tup h' l' r'=>
     have ex:=I.tuple_inj h h'
     subst ex
     congr 1
     refine List.ext_getElem? fun i=>?_
     rename_i xs ds ds'
     by_cases hi:i < ds.length
     ·rw [List.getElem?_eq_getElem hi,List.getElem?_eq_getElem (by omega)]
      have hx:i < xs.length:=by omega
      rw [ih i _ _ (List.getElem?_eq_getElem hx) (List.getElem?_eq_getElem hi) (r' i _ _ (List.getElem?_eq_getElem hx) (List.getElem?_eq_getElem (by omega)))]
     ·rw [List.getElem?_eq_none (by omega),List.getElem?_eq_none (by omega)]
   | lst h' l' r'=>exact (I.notBoth h' h).elim
open SeqAt in
theorem rc_D (I:Inv X pins σ H s) {x:V} {d:Dt} (r:Rep X.K H x d):∀ {A:Around} {e:Dt} {y:V} {u v:Value} (n:Nat),Rep X.K H y e→RelV x u→RelV y v→depD d≤n→A.units + n < cLine→
  EqAt A s u v (eqD d e)∧RcAt A s u v (eqD d e)∧RcNeAt A s u v (!eqD d e):=by
 induction r with
 | non=>
   intro A e y u v n q ru rv hd hu
   cases ru
   cases q with
   | non=>cases rv;exact ⟨EqAt.same _,RcAt.none_none,RcNeAt.none_none⟩
   | bl b=>cases rv;exact ⟨EqAt.none_bool b,RcAt.none_bool b,RcNeAt.none_bool b⟩
   | int b=>obtain ⟨t,rfl⟩:=rv;exact ⟨EqAt.none_int b t,RcAt.none_int b t,RcNeAt.none_int b t⟩
   | str b=>obtain ⟨t,rfl⟩:=rv;exact ⟨EqAt.none_str b t,RcAt.none_str b t,RcNeAt.none_str b t⟩
   | lst h l r=>cases rv;obtain ⟨_,_,pl,_⟩:=I.list h;exact ⟨EqAt.none_list pl.isList (by omega),RcAt.none_list pl.isList (by omega),RcNeAt.none_list pl.isList (by omega)⟩
   | tup h l r=>cases rv;obtain ⟨_,_,pl,_⟩:=I.tuple h;exact ⟨EqAt.none_tuple pl (by omega),RcAt.none_tuple pl (by omega),RcNeAt.none_tuple pl (by omega)⟩
 | bl a=>
   intro A e y u v n q ru rv hd hu
   cases ru
   cases q with
   | non=>cases rv;exact ⟨EqAt.bool_none a,RcAt.bool_none a,RcNeAt.bool_none a⟩
   | bl b=>cases rv;exact ⟨EqAt.bool_bool a b,RcAt.bool_bool a b,RcNeAt.bool_bool a b⟩
   | int b=>obtain ⟨t,rfl⟩:=rv;exact ⟨EqAt.bool_int a b t,RcAt.bool_int a b t,RcNeAt.bool_int a b t⟩
   | str b=>obtain ⟨t,rfl⟩:=rv;exact ⟨EqAt.bool_str a b t,RcAt.bool_str a b t,RcNeAt.bool_str a b t⟩
   | lst h l r=>cases rv;obtain ⟨_,_,pl,_⟩:=I.list h;exact ⟨EqAt.bool_list a pl.isList (by omega),RcAt.bool_list a pl.isList (by omega),RcNeAt.bool_list a pl.isList (by omega)⟩
   | tup h l r=>cases rv;obtain ⟨_,_,pl,_⟩:=I.tuple h;exact ⟨EqAt.bool_tuple a pl (by omega),RcAt.bool_tuple a pl (by omega),RcNeAt.bool_tuple a pl (by omega)⟩
 | int a=>
   intro A e y u v n q ru rv hd hu
   obtain ⟨t',rfl⟩:=ru
   cases q with
   | non=>cases rv;exact ⟨EqAt.int_none a t',RcAt.int_none a t',RcNeAt.int_none a t'⟩
   | bl b=>cases rv;exact ⟨EqAt.int_bool a t' b,RcAt.int_bool a t' b,RcNeAt.int_bool a t' b⟩
   | int b=>obtain ⟨t,rfl⟩:=rv;exact ⟨EqAt.int_int a t' b t,RcAt.int_int a t' b t,RcNeAt.int_int a t' b t⟩
   | str b=>obtain ⟨t,rfl⟩:=rv;exact ⟨EqAt.int_str a t' b t,RcAt.int_str a t' b t,RcNeAt.int_str a t' b t⟩
   | lst h l r=>cases rv;obtain ⟨_,_,pl,_⟩:=I.list h;exact ⟨EqAt.int_list a t' pl.isList (by omega),RcAt.int_list a t' pl.isList (by omega),RcNeAt.int_list a t' pl.isList (by omega)⟩
   | tup h l r=>cases rv;obtain ⟨_,_,pl,_⟩:=I.tuple h;exact ⟨EqAt.int_tuple a t' pl (by omega),RcAt.int_tuple a t' pl (by omega),RcNeAt.int_tuple a t' pl (by omega)⟩
 | str a=>
   intro A e y u v n q ru rv hd hu
   obtain ⟨t',rfl⟩:=ru
   cases q with
   | non=>cases rv;exact ⟨EqAt.str_none a t',RcAt.str_none a t',RcNeAt.str_none a t'⟩
   | bl b=>cases rv;exact ⟨EqAt.str_bool a t' b,RcAt.str_bool a t' b,RcNeAt.str_bool a t' b⟩
   | int b=>obtain ⟨t,rfl⟩:=rv;exact ⟨EqAt.str_int a t' b t,RcAt.str_int a t' b t,RcNeAt.str_int a t' b t⟩
   | str b=>obtain ⟨t,rfl⟩:=rv;exact ⟨EqAt.str_str a t' b t,RcAt.str_str a t' b t,RcNeAt.str_str a t' b t⟩
   | lst h l r=>cases rv;obtain ⟨_,_,pl,_⟩:=I.list h;exact ⟨EqAt.str_list a t' pl.isList (by omega),RcAt.str_list a t' pl.isList (by omega),RcNeAt.str_list a t' pl.isList (by omega)⟩
   | tup h l r=>cases rv;obtain ⟨_,_,pl,_⟩:=I.tuple h;exact ⟨EqAt.str_tuple a t' pl (by omega),RcAt.str_tuple a t' pl (by omega),RcNeAt.str_tuple a t' pl (by omega)⟩
 | @lst p xs ds h l r ih=>
   intro A e y u v n q ru rv hd hu
   cases ru
   obtain ⟨its,rw1,pl,_⟩:=I.list h
   rw [depD] at hd
   cases q with
   | non=>cases rv;exact ⟨EqAt.list_none pl.isList (by omega),RcAt.list_none pl.isList (by omega),RcNeAt.list_none pl.isList (by omega)⟩
   | bl b=>cases rv;exact ⟨EqAt.list_bool b pl.isList (by omega),RcAt.list_bool b pl.isList (by omega),RcNeAt.list_bool b pl.isList (by omega)⟩
   | int b=>obtain ⟨t,rfl⟩:=rv;exact ⟨EqAt.list_int b t pl.isList (by omega),RcAt.list_int b t pl.isList (by omega),RcNeAt.list_int b t pl.isList (by omega)⟩
   | str b=>obtain ⟨t,rfl⟩:=rv;exact ⟨EqAt.list_str b t pl.isList (by omega),RcAt.list_str b t pl.isList (by omega),RcNeAt.list_str b t pl.isList (by omega)⟩
   | tup h' l' r'=>
     cases rv;obtain ⟨_,_,pl',_⟩:=I.tuple h'
     exact ⟨EqAt.list_tuple pl.isList pl' (by omega),RcAt.list_tuple pl.isList pl' (by omega),RcNeAt.list_tuple pl.isList pl' (by omega)⟩
   | @lst p' xs' ds' h' l' r'=>
     cases rv
     obtain ⟨its',rw2,pl',_⟩:=I.list h'
     have n1:=rw1.length
     have n2:=rw2.length
     have core:RcAt A s (.ref p) (.ref p') (eqDs ds ds')∧RcNeAt A s (.ref p) (.ref p') (!eqDs ds ds'):=by
      by_cases hl:ds.length=ds'.length
      ·have e:eqDs ds ds'=(List.range its.toArray.size).all fun i=>eqD (ds.getD i .non) (ds'.getD i .non):=by
        rw [we hl,List.size_toArray,← n1,l]
       rw [e]
       have hz:its.toArray.size=its'.toArray.size:=by simp;omega
       have he:∀ j (h1:j < its.toArray.size) (h2:j < its'.toArray.size),EqAt A.in1 s its.toArray[j] its'.toArray[j] (eqD (ds.getD j .non) (ds'.getD j .non)):=fun j h1 h2=>by
        have h1':j < its.length:=by simpa using h1
        have h2':j < its'.length:=by simpa using h2
        have hx:j < xs.length:=by omega
        have hx':j < xs'.length:=by omega
        have hds:j < ds.length:=by omega
        have hds':j < ds'.length:=by omega
        have g1:xs[j]? =some (xs.getD j .non):=by rw [List.getD_eq_getElem?_getD,List.getElem?_eq_getElem hx];rfl
        have g2:ds[j]? =some (ds.getD j .non):=by rw [List.getD_eq_getElem?_getD,List.getElem?_eq_getElem hds];rfl
        have g3:xs'[j]? =some (xs'.getD j .non):=by rw [List.getD_eq_getElem?_getD,List.getElem?_eq_getElem hx'];rfl
        have g4:ds'[j]? =some (ds'.getD j .non):=by rw [List.getD_eq_getElem?_getD,List.getElem?_eq_getElem hds'];rfl
        have hn:n≠0:=by omega
        exact (ih j _ _ g1 g2 (n - 1) (r' j _ _ g3 g4) (uN rw1 h1) (uN rw2 h2) (by have:=FQ (List.mem_of_getElem? g2);omega) (by show A.units + 1 + (n - 1) < cLine;omega)).1
       exact ⟨RcAt.lists pl.isList pl'.isList hz (by omega) he,RcNeAt.lists pl.isList pl'.isList hz (by omega) he⟩
      ·rw [wc hl]
       have hz:(its.toArray.size != its'.toArray.size)=true:=by simp;omega
       exact ⟨RcAt.lists_lengths pl.isList pl'.isList hz (by omega),RcNeAt.lists_lengths pl.isList pl'.isList hz (by omega)⟩
     rw [eqD]
     refine ⟨?_,core⟩
     by_cases hp:p=p'
     ·subst hp
      have e:Dt.lst ds=Dt.lst ds':=(Rep.lst h l r).fun I (.lst h' l' r')
      have e2:eqDs ds ds'=true:=by have:=Bm e;rw [eqD] at this;exact this
      rw [e2]
      exact EqAt.same _
     ·exact EqAt.of_refs hp core.1
 | @tup p xs ds h l r ih=>
   intro A e y u v n q ru rv hd hu
   cases ru
   obtain ⟨its,rw1,pl,_⟩:=I.tuple h
   rw [depD] at hd
   cases q with
   | non=>cases rv;exact ⟨EqAt.tuple_none pl (by omega),RcAt.tuple_none pl (by omega),RcNeAt.tuple_none pl (by omega)⟩
   | bl b=>cases rv;exact ⟨EqAt.tuple_bool b pl (by omega),RcAt.tuple_bool b pl (by omega),RcNeAt.tuple_bool b pl (by omega)⟩
   | int b=>obtain ⟨t,rfl⟩:=rv;exact ⟨EqAt.tuple_int b t pl (by omega),RcAt.tuple_int b t pl (by omega),RcNeAt.tuple_int b t pl (by omega)⟩
   | str b=>obtain ⟨t,rfl⟩:=rv;exact ⟨EqAt.tuple_str b t pl (by omega),RcAt.tuple_str b t pl (by omega),RcNeAt.tuple_str b t pl (by omega)⟩
   | lst h' l' r'=>
     cases rv;obtain ⟨_,_,pl',_⟩:=I.list h'
     exact ⟨EqAt.tuple_list pl pl'.isList (by omega),RcAt.tuple_list pl pl'.isList (by omega),RcNeAt.tuple_list pl pl'.isList (by omega)⟩
   | @tup p' xs' ds' h' l' r'=>
     cases rv
     obtain ⟨its',rw2,pl',_⟩:=I.tuple h'
     have n1:=rw1.length
     have n2:=rw2.length
     have core:RcAt A s (.ref p) (.ref p') (eqDs ds ds')∧RcNeAt A s (.ref p) (.ref p') (!eqDs ds ds'):=by
      have e:eqDs ds ds'=((List.range (min its.toArray.size its'.toArray.size)).all (fun i=>eqD (ds.getD i .non) (ds'.getD i .non))&&its.toArray.size == its'.toArray.size):=by
       by_cases hl:ds.length=ds'.length
       ·have z1:its.toArray.size=ds.length:=by simp;omega
        have z2:its'.toArray.size=ds.length:=by simp;omega
        rw [we hl,z1,z2,Nat.min_self,beq_self_eq_true,Bool.and_true]
       ·have z:(its.toArray.size == its'.toArray.size)=false:=by rw [beq_eq_false_iff_ne];simp;omega
        rw [wc hl,z,Bool.and_false]
      rw [e]
      have he:∀ j (h1:j < its.toArray.size) (h2:j < its'.toArray.size),EqAt A.in1 s its.toArray[j] its'.toArray[j] (eqD (ds.getD j .non) (ds'.getD j .non)):=fun j h1 h2=>by
       have h1':j < its.length:=by simpa using h1
       have h2':j < its'.length:=by simpa using h2
       have hx:j < xs.length:=by omega
       have hx':j < xs'.length:=by omega
       have hds:j < ds.length:=by omega
       have hds':j < ds'.length:=by omega
       have g1:xs[j]? =some (xs.getD j .non):=by rw [List.getD_eq_getElem?_getD,List.getElem?_eq_getElem hx];rfl
       have g2:ds[j]? =some (ds.getD j .non):=by rw [List.getD_eq_getElem?_getD,List.getElem?_eq_getElem hds];rfl
       have g3:xs'[j]? =some (xs'.getD j .non):=by rw [List.getD_eq_getElem?_getD,List.getElem?_eq_getElem hx'];rfl
       have g4:ds'[j]? =some (ds'.getD j .non):=by rw [List.getD_eq_getElem?_getD,List.getElem?_eq_getElem hds'];rfl
       have hn:n≠0:=by omega
       exact (ih j _ _ g1 g2 (n - 1) (r' j _ _ g3 g4) (uN rw1 h1) (uN rw2 h2) (by have:=FQ (List.mem_of_getElem? g2);omega) (by show A.units + 1 + (n - 1) < cLine;omega)).1
      exact ⟨RcAt.tuples pl pl' (by omega) he,RcNeAt.tuples pl pl' (by omega) he⟩
     rw [eqD]
     refine ⟨?_,core⟩
     by_cases hp:p=p'
     ·subst hp
      have e:Dt.tup ds=Dt.tup ds':=(Rep.tup h l r).fun I (.tup h' l' r')
      have e2:eqDs ds ds'=true:=by have:=Bm e;rw [eqD] at this;exact this
      rw [e2]
      exact EqAt.same _
     ·exact EqAt.of_refs hp core.1
end
noncomputable def rEqD (K:PySem.W.Frag) (neg:Bool):R2:=fun x y H Q=>∃ d e,Rep K H x d∧Rep K H y e∧depD d≤100∧Q (.bl (if neg then !eqD d e else eqD d e)) H
section
variable {X:Cx} {K:PySem.W.Frag}
theorem JS (h:X.K=K) (hu:X.A.units + 100 < cLine):OpR X (compareOp .Eq) (rEqD K false):=by
 subst h
 intro pins s σ H x y v u Q I rx ry h
 obtain ⟨d,e,r1,r2,hd,q⟩:=h
 exact (rc_D I r1 100 r2 rx ry hd hu).2.1 X.prog X.w X.xe _ ⟨.bl _,H,I,rfl,q⟩
theorem io (h:X.K=K) (hu:X.A.units + 100 < cLine):OpR X (compareOp .NotEq) (rEqD K true):=by
 subst h
 intro pins s σ H x y v u Q I rx ry h
 obtain ⟨d,e,r1,r2,hd,q⟩:=h
 exact (rc_D I r1 100 r2 rx ry hd hu).2.2 X.prog X.w X.xe _ ⟨.bl _,H,I,rfl,q⟩
end
inductive Di:St→Nat→Option V→St→Prop where
 | z {a v:Option V} {l:St}:Di (a::l) 0 v (v::l)
 | s {a v:Option V} {l l':St} {i:Nat}:Di l i v l'→Di (a::l) (i + 1) v (a::l')
theorem Di.eq {l l':St} {i:Nat} {v:Option V} (h:Di l i v l'):l.set i v=l':=by
 induction h with
 | z=>rfl
 | s _ ih=>rw [List.set_cons_succ,ih]
inductive Dj:St→Nat→V→Prop where
 | z {v:V} {l:St}:Dj (some v::l) 0 v
 | s {a:Option V} {v:V} {l:St} {i:Nat}:Dj l i v→Dj (a::l) (i + 1) v
theorem Dj.eq {l:St} {i:Nat} {v:V} (h:Dj l i v):l[i]? =some (some v):=by
 induction h with
 | z=>rfl
 | s _ ih=>rw [List.getElem?_cons_succ];exact ih
section
variable {σ σ':St} {H:Hp} {Q:VK} {D:Ends} {ta tb tc te:TE} {t u:TS} {tt tt':TT} {r r':R2} {x y v:V}
theorem aK {N:List Str} {vs:List V} {t:TS} (e:start N vs=σ') (h:t D σ' H):t D (start N vs) H:=by rw [e];exact h
theorem Nf {i:Nat} (e:Dj σ i v) (h:Q v H):tVar i σ H Q:=⟨v,e.eq,h⟩
theorem s_c (h:Q v H):tC v σ H Q:=h
theorem s_op (h:ta σ H fun x H1=>tb σ H1 fun y H2=>r x y H2 Q):tOp r ta tb σ H Q:=h
theorem s_rI {C:Int→Int→Prop} {g:Int→Int→V} {i j:Int} (c:C i j) (h:Q (g i j) H):rI C g (.int i) (.int j) H Q:=⟨i,j,rfl,rfl,c,h⟩
theorem Nl {g:Int→Int→V} {i j:Int} (h:Q (g i j) H):rI0 g (.int i) (.int j) H Q:=⟨i,j,rfl,rfl,h⟩
theorem Nn (e:scal x y=true) (h:Q (.bl (decide (x=y))) H):rEq x y H Q:=⟨e,h⟩
theorem Lg {Q:Bool→Hp→Prop} (h:te σ H fun x H'=>∃ k,x= .bl k∧Q k H'):KZ te σ H Q:=h
theorem s_tB {Q:Bool→Hp→Prop} (h:te σ H fun x H'=>∃ k,x= .bl k∧Q k H'):tB te σ H Q:=h
theorem NC {Q:Bool→Hp→Prop} (h:tt σ H fun c H1=>if c=true then tt' σ H1 Q else Q false H1):tAnd tt tt' σ H Q:=h
theorem s_or {Q:Bool→Hp→Prop} (h:tt σ H fun c H1=>if c=true then Q true H1 else tt' σ H1 Q):tOr tt tt' σ H Q:=h
theorem No {Q:Bool→Hp→Prop} (h:tt σ H fun c H1=>Q (!c) H1):tNot tt σ H Q:=h
theorem LK (h:ta σ H fun x H1=>∃ c,x= .bl c∧if c=true then tb σ H1 Q else Q (.bl false) H1):K8 ta tb σ H Q:=h
theorem Lm (h:D.nx σ H):K1 D σ H:=h
theorem Ni (h:t {D with nx:=u D} σ H):tSeq t u D σ H:=h
theorem LC (h:te σ H fun _ H1=>D.nx σ H1):K5 te D σ H:=h
theorem Nk (h:te σ H D.rt):tRet te D σ H:=h
theorem s_if (h:tt σ H fun b H1=>if b=true then t D σ H1 else u D σ H1):tIfS tt t u D σ H:=h
theorem NB {g:TG} (h:te σ H fun x H1=>g x σ H1 D.nx):tAsg te g D σ H:=h
theorem Jy {i:Nat} {Q:St→Hp→Prop} (e:Di σ i (some v) σ') (h:Q σ' H):FI i v σ H Q:=by show Q (σ.set i (some v)) H;rw [e.eq];exact h
theorem LB {Q:St→Hp→Prop} (h:Q σ H):gNil [] σ H Q:=⟨rfl,h⟩
theorem Jz {g:TG} {gs:TGs} {vs:List V} {Q:St→Hp→Prop} (h:g v σ H fun σ' H'=>gs vs σ' H' Q):Ko g gs (v::vs) σ H Q:=⟨v,vs,rfl,h⟩
theorem Ly {K:PySem.W.Frag} {n:Nat} {gs:TGs} {p:Addr} {xs:List V} {Q:St→Hp→Prop} (e:SqT K H p xs) (l:xs.length=n) (h:gs xs σ H Q):gTup K n gs (.ref p) σ H Q:=⟨p,xs,rfl,e,l,h⟩
theorem Np {Q:List V→Hp→Prop} (h:Q [] H):tNil σ H Q:=h
theorem LH {tr:TA} {Q:List V→Hp→Prop} (h:ta σ H fun x H1=>tr σ H1 fun xs H2=>Q (x::xs) H2):K7 ta tr σ H Q:=h
noncomputable def NewT (Q:VK) (xs:List V) (H:Hp):Prop:=xs.length≤sizeLine∧∀ p,H p=none→Q (.ref p) (upd H p (.tup xs))
noncomputable def NewL (Q:VK) (xs:List V) (H:Hp):Prop:=xs.length≤sizeLine∧∀ p,H p=none→Q (.ref p) (upd H p (.lst xs))
theorem Ng {tr:TA} (h:tr σ H (NewT Q)):tTup tr σ H Q:=h
theorem Nq {tr:TA} (h:tr σ H (NewL Q)):tLst tr σ H Q:=h
theorem bF {H:Hp} {D:Addr} {o:HO} (h:H D=none):Same H (upd H D o):=fun b u e=>by rw [aq (aj e h)];exact e
theorem fW {o:HO} (h:∀ p H2,H p=none→Same H H2→H2 p=some o→Q (.ref p) H2):∀ p,H p=none→Q (.ref p) (upd H p o):=fun p hp=>h p _ hp (bF hp) au
theorem Same.get {H H':Hp} (e:Same H H') {b:Addr} {o:HO} (h:H b=some o):H' b=some o:=e b o h
theorem Ln {xs:List V} (l:xs.length≤sizeLine) (h:∀ p H2,H p=none→Same H H2→H2 p=some (.tup xs)→Q (.ref p) H2):NewT Q xs H:=⟨l,fW h⟩
theorem Lo {xs:List V} (l:xs.length≤sizeLine) (h:∀ p H2,H p=none→Same H H2→H2 p=some (.lst xs)→Q (.ref p) H2):NewL Q xs H:=⟨l,fW h⟩
theorem JF {sp:Sp} {E:XK} {tr:TA} (h:tr σ H fun vs H1=>sp vs H1 Q E):GG sp [] E tr σ H Q:=by unfold GG;simp only [List.append_nil];exact h
theorem s_cb {r:List V→Hp→VK→Prop} {tr:TA} (h:tr σ H fun vs H1=>r vs H1 Q):tCB r tr σ H Q:=h
theorem GW {Q:Option Int→Hp→Prop} (h:Q none H):DS σ H Q:=h
theorem Ll {Q:Option Int→Hp→Prop} (h:te σ H fun x H1=>∃ i,x= .int i∧Q (some i) H1):K0 te σ H Q:=h
theorem s_sl {r:V→Option Int→Option Int→Hp→VK→Prop} {tl th:TO} (h:te σ H fun x H1=>tl σ H1 fun l H2=>th σ H2 fun u H3=>r x l u H3 Q):tSl r te tl th σ H Q:=h
theorem Nh {K:PySem.W.Frag} {p:Addr} {xs:List V} {lo hi:Option Int} (e:SqL K H p xs) (h:∀ q H2,H q=none→Same H H2→H2 q=some (.lst (cutV xs lo hi))→Q (.ref q) H2):rSlL K (.ref p) lo hi H Q:=⟨p,xs,rfl,e,fW h⟩
theorem Nu {K:PySem.W.Frag} {p:Addr} {xs:List V} {i:Int} (e:SqL K H p xs) (a:atI xs i=some v) (h:Q v H):rIxL K (.ref p) (.int i) H Q:=⟨p,xs,i,v,rfl,rfl,e,a,h⟩
theorem Nr {K:PySem.W.Frag} {p:Addr} {xs:List V} {i:Int} (e:SqT K H p xs) (a:atI xs i=some v) (h:Q v H):rIxT K (.ref p) (.int i) H Q:=⟨p,xs,i,v,rfl,rfl,e,a,h⟩
theorem Jw {z:Str} {i:Int} {c:Nat} (e:z.length≤sizeLine) (a:atI z.cps.toList i=some c) (h:Q (.str ⟨#[c]⟩) H):rIxS (.str z) (.int i) H Q:=⟨z,i,c,rfl,rfl,e,a,h⟩
theorem Nz {K:PySem.W.Frag} {T:String} {r:V→List V→Hp→VK→Prop} (h:te σ H fun x H1=>tyV K T x H1∧r x [] H1 Q):tBM0 K T r te σ H Q:=h
theorem s_bm {K:PySem.W.Frag} {T:String} {r:V→List V→Hp→VK→Prop} {tr:TA} (h:te σ H fun x H1=>tyV K T x H1∧tr σ H1 fun xs H2=>r x xs H2 Q):tBM K T r te tr σ H Q:=h
theorem Ff {n:Nat} (h:n≤1000):n≤sizeLine:=Nat.le_of_lt (bz h)
theorem se {K:PySem.W.Frag} {neg:Bool} {d e:Dt} (r1:Rep K H x d) (r2:Rep K H y e) (hd:depD d≤100) (h:Q (.bl (if neg then !eqD d e else eqD d e)) H):rEqD K neg x y H Q:=⟨d,e,r1,r2,hd,h⟩
theorem s_ty {K:PySem.W.Frag} {T:String} {A:Prop} (e:tyV K T x H) (h:A):tyV K T x H∧A:=⟨e,h⟩
theorem Lv {K:PySem.W.Frag} {p:Addr} {xs:List V} (e:SqL K H p xs) (h:Q (.int xs.length) H):rLen K [.ref p] H Q:=⟨_,_,rfl,.inl ⟨xs,e,rfl⟩,h⟩
theorem Ls {K:PySem.W.Frag} {p:Addr} {xs:List V} (e:SqT K H p xs) (h:Q (.int xs.length) H):rLen K [.ref p] H Q:=⟨_,_,rfl,.inr ⟨xs,e,rfl⟩,h⟩
theorem Lu {K:PySem.W.Frag} {z:Str} (e:z.length≤sizeLine) (h:Q (.int z.length) H):rLen K [.str z] H Q:=⟨_,_,rfl,⟨e,rfl⟩,h⟩
theorem Nv {K:PySem.W.Frag} {T k:String} (e:tQ K H x k) (m:T∈["int","bool","str","list","tuple","dict"]) (h:Q (.bl (subB k T)) H):rIsi K [x,.ty T] H Q:=⟨x,k,T,rfl,e,m,h⟩
theorem LF (h:∀ p H2,H p=none→Same H H2→H2 p=some (.dK [])→Q (.ref p) H2):Iu σ H Q:=fW h
theorem Nw {wi:TI} {g:TG} {tb:TS} (h:wi σ H fun J H1=>∃ W:Nat→Nat→St→Hp→Prop,(∃ m,W 0 m σ H1)∧∀ i m σ H,W i m σ H→(J.stop i H∧D.nx σ H)∨(J.go i H∧∃ N:St→Hp→Prop,(∀ σ' H',N σ' H'→∃ m',m' < m∧W (i + 1) m' σ' H')∧∀ x H',J.yld i H x H'→g x σ H' fun σ2 H2=>tb {D with nx:=N,ct:=N,bk:=D.nx} σ2 H2)):tFor wi g tb D σ H:=h
theorem Jx {K:PySem.W.Frag} {R:It→Hp→Prop} (h:te σ H fun x H1=>∃ a,x= .ref a∧(∃ xs,SqL K H1 a xs)∧R (Itl K a) H1):Km K te σ H R:=h
theorem Lw {K:PySem.W.Frag} {R:It→Hp→Prop} (h:te σ H fun x H1=>∃ a,x= .ref a∧(∃ xs,SqT K H1 a xs)∧R (Itt K a) H1):iTup K te σ H R:=h
theorem Lx {R:It→Hp→Prop} (h:te σ H fun x H1=>∃ z,x= .str z∧R (Its z) H1):iStr te σ H R:=h
theorem Lj {tr:TA} {R:It→Hp→Prop} (h:tr σ H fun vs H1=>∃ j:Int,vs=[.int j]∧-(2 ^ 62)≤j∧j < 2 ^ 62∧R (Itr 0 j.toNat) H1):MA tr σ H R:=h
theorem Li {tr:TA} {R:It→Hp→Prop} (h:tr σ H fun vs H1=>∃ i j:Int,vs=[.int i,.int j]∧(-(2 ^ 62)≤i∧i < 2 ^ 62∧-(2 ^ 62)≤j∧j < 2 ^ 62)∧R (Itr i (j - i).toNat) H1):Mz tr σ H R:=h
theorem Nd {Q:Bool→Hp→Prop} (h:Q true H):tYes σ H Q:=h
theorem Lf {A B:Prop} (h:A):if true=true then A else B:=by rw [if_pos rfl];exact h
theorem JA {A B:Prop} (h:B):if false=true then A else B:=by rw [if_neg Bool.false_ne_true];exact h
theorem xl {c:Bool} {A B:Prop} (e:c=true) (h:A):if c=true then A else B:=by rw [if_pos e];exact h
theorem kZ {c:Bool} {A B:Prop} (e:c=false) (h:B):if c=true then A else B:=by rw [e,if_neg Bool.false_ne_true];exact h
theorem LJ {n:Nat} {fx:List Nat} {wi:TI} {g:TG} (h:wi σ H fun J H1=>∀ D,H1 D=none→
 ∃ W:Nat→Nat→List V→Hp→Prop,(∃ m,W 0 m [] (upd H1 D (.lst [])))∧∀ i m ys H2,W i m ys H2→(J.stop i H2∧Q (.ref D) H2)∨
   (J.go i H2∧∃ N:List V→Hp→Prop,(∀ ys' H',N ys' H'→∃ m',m' < m∧W (i + 1) m' ys' H')∧∀ x H3,J.yld i H2 x H3→g x (c7 n fx σ) H3 fun σ4 H4=>tt σ4 H4 fun b H5=>
    if b=true then te σ4 H5 fun v H6=>H6 D=some (.lst ys)∧ys.length < sizeLine∧N (ys++[v]) (upd H6 D (.lst (ys++[v]))) else N ys H5)):GF n fx wi g tt te σ H Q:=h
theorem LL {K:PySem.W.Frag} {p:Addr} {bs:List Bool} (e:SqL K H p (bs.map V.bl)) (h:Q (.bl (bs.all id)) H):LT K [.ref p] H Q:=⟨p,bs,rfl,e,h⟩
theorem Iy {K:PySem.W.Frag} {p:Addr} {bs:List Bool} (e:SqL K H p (bs.map V.bl)) (h:Q (.bl (bs.any id)) H):LS K [.ref p] H Q:=⟨p,bs,rfl,e,h⟩
theorem G1 {j:Int} {A:Prop} (h1: -(2 ^ 62)≤j) (h2:j < 2 ^ 62) (h:A): -(2 ^ 62)≤j∧j < 2 ^ 62∧A:=⟨h1,h2,h⟩
end
noncomputable def tCut (t u:TS):TS:=fun D σ H=>∃ P:St→Hp→Prop,t {D with nx:=P} σ H∧∀ σ' H',P σ' H'→u D σ' H'
theorem u1 {X:Cx} {st:Stmt} {rest:List Stmt} {t u:TS} (h1:PS X st t) (h2:PSs X rest u):PSs X (st::rest) (tCut t u):=by
 intro pins s σ H D I ⟨P,a,b⟩
 refine wpAny_execs_cons (thn (h1 pins s σ H {D with nx:=P} I a) fun f s1 q=>?_)
 cases f with
 | next=>obtain ⟨σ1,H1,I1,q1⟩:=q;exact h2 pins s1 σ1 H1 D I1 (b σ1 H1 q1)
 | brk=>exact q
 | cont=>exact q
 | ret v=>exact q
theorem GZ {t u:TS} {D:Ends} {σ:St} {H:Hp} (P:St→Hp→Prop) (h:t {D with nx:=P} σ H) (k:∀ σ' H',P σ' H'→u D σ' H'):tCut t u D σ H:=⟨P,h,k⟩
section
variable {K:PySem.W.Frag} {n:Nat} {fx:List Nat} {g:TG} {tc:TT} {te:TE} {σ:St} {H1:Hp} {D:Addr} {Q:Hp→Prop}
structure Cs (Pv:Nat→List V→Prop) (H1:Hp) (D:Addr) (i:Nat) (ys:List V) (H:Hp):Prop where
 pv:Pv i ys
 same:Same H1 H
 at':H D=some (.lst ys)
 len:ys.length≤i
theorem Cs.put {Pv:Nat→List V→Prop} {i:Nat} {ys:List V} {v:V} {H6:Hp} (f:H1 D=none) (s:Same H1 H6) (e:H6 D=some (.lst ys)) (l:ys.length≤i) (hi:i < 16777216) (p:Pv (i + 1) (ys++[v])):
  H6 D=some (.lst ys)∧ys.length < sizeLine∧Cs Pv H1 D (i + 1) (ys++[v]) (upd H6 D (.lst (ys++[v]))):=
 ⟨e,by rw [sizeLine_eq];omega,p,fun b o h=>by rw [aq (aj h f)];exact s b o h,au,by rw [List.length_append];simpa using l⟩
theorem Cs.zero {Pv:Nat→List V→Prop} (f:H1 D=none) (p:Pv 0 []):Cs Pv H1 D 0 [] (upd H1 D (.lst [])):=⟨p,bF f,au,Nat.le_refl _⟩
end
structure Je (K:PySem.W.Frag) (C:Addr) (m:Str) (f:Addr):Prop where
 ga:PySem.W.specialIn K (.ref C) "__getattribute__"=some (some (.builtin "type.__getattribute__"))
 rd:PySem.W.readsIn K C (.type "type")=true
 fd:PySem.W.findCls K (.ref C) (.type "type") m=some (.val (.ref f))
 hd:PySem.W.handedIn (.ref f)=true
 kp:PySem.W.keepIn K (.ref f)=true
section
variable {X:Cx} {CX:CXT} {k:Nat} {f C:Addr} {fd:FuncData} {ps:List Str} {sp:Sp} {dvs:List V} {ds:List Value} {E:XK} {x m:Str} {p pos apos:Pos} {e o:Expr} {es:List Expr} {ta:TE} {t:TA}
theorem qa {pl:Sem Bool} (hg:Gl X x) (hx:X.mg x=some (.ref C)) (c:Je X.K C m f) (F:FnOk X.prog X.w X.K X.mg X.base CX k f fd ps sp) (hr:Room k X.A) (hb:bP X.K fd ps ds) (hd:Vals dvs ds) (hpass:oz CX X E) (ha:PA X (e::es) t)
  (hdb:(x == ("__debug__":Str))=false:=by decide) (hst:starEach (e::es) X.env=(false,eval e X.env)::starEach es X.env:=by rfl) (hpl:(backTo pos (starEach es X.env)).any (·.1)=false:=by rfl)
  (ht:eval (.Call (.Attribute (.Name x p) m apos) (e::es) [] pos) X.env=(do
   let ov ← eval (.Name x p) X.env
   standAt apos.atName
   let (f,first) ← holding [ov] (getMethod ov m pl)
   callWith pos f first (backTo pos (starEach (e::es) X.env)) (backToKw pos (keywordEach [] X.env))):=by rfl):
  PE X (.Call (.Attribute (.Name x p) m apos) (e::es) [] pos) (GG sp dvs E t):=by
 intro pins s σ H Q I h
 refine PySem.W.methodCall_KW (pl:=pl) (jx I hg hx ?_ hdb) ht
 refine PySem.W.method_cls I.kIn c.ga (PySem.W.cls_value I.kIn c.rd c.fd c.hd ?_)
 have I1:=I.tok (s.toks + 1)
 refine PySem.W.callWith_K (first:=[]) (h₀:=X.base) I1.ok.mod.kin c.kp (thn (ha pos pins _ σ H _ I1 h) fun us s2 ⟨vs,H2,I2,r,q2⟩=>⟨I2.kIn,?_⟩) hst hpl
 exact Ey (us:=us) (vs:=vs) F hr hb hd hpass I2 r q2
end
structure AM (K:PySem.W.Frag) (D:Addr):Prop where
 cls:Cls K D
 ha:PySem.W.findIn K (.ref D) "__class__"=some (some (.builtin "object.__class__"))
 hn:PySem.W.specialIn K (.builtin "object.__class__") "__get__"=some (some (.builtin "getset_descriptor.__get__"))
 tk:PySem.W.takesIn K (.builtin "object.__class__")=some true
 hm:PySem.W.mroIn K D (.type "object")=some true
theorem gf {K:PySem.W.Frag} {C D:Addr} {b:Bool} (h1:PySem.W.isClsIn K D=true) (h2:PySem.W.typeIn K (.ref D)=some (.type "type")) (h3:PySem.W.mroIn K C (.ref D)=some b) (h4:PySem.W.mroIn K D (.ref D)=some true):PySem.W.kitOne K (.ref C) (.ref D)=some b:=by
 unfold PySem.W.kitOne
 by_cases e:C=D
 ·subst e
  rw [h4] at h3
  cases h3
  rw [if_pos (beq_self_eq_true _)]
 ·rw [if_neg (fun z=>e (by have:=eq_of_beq z;injection this))]
  unfold PySem.W.kitCls
  dsimp only
  rw [if_pos (by unfold PySem.W.isClsIn at h1;rw [h1,h2];rfl)]
  exact h3
noncomputable def LR (K:PySem.W.Frag):List V→Hp→VK→Prop:=fun xs H Q=>∃ p C dx fs D b,xs=[.ref p,.ref D]∧H p=some (.ins C dx fs)∧AM K C∧PySem.W.kitOne K (.ref C) (.ref D)=some b∧Q (.bl b) H
section
variable {X:Cx} {K:PySem.W.Frag}
theorem nE (h:X.K=K):i6 X (.builtin "isinstance") (LR K):=by
 subst h
 intro pins s σ H xs us Q I r h
 obtain ⟨p,C,dx,fs,D,b,rfl,hp,c,hk,q⟩:=h
 obtain ⟨u,v,rfl,rx,rt⟩:=GB r
 cases rx;cases rt
 obtain ⟨mA,O,_,_,_,_⟩:=vS I.hok hp
 obtain ⟨od,L,_⟩:=O.look
 exact PySem.W.kia_one (PySem.W.kitx_own (c.cls.get "__class__") c.cls.hd c.ha c.hn c.tk c.hm) I.kIn L hk (fun z=>nomatch z) fun tk=>⟨.bl b,H,I.tok tk,rfl,q⟩
theorem bH {e:Expr} {ta:TE} {f:Str} {pos:Pos} (h:X.K=K) (he:PE X e ta) (hb:attributeBase e f X.env (eval e X.env)=eval e X.env):PE X (.Attribute e f pos) (tFld K ta f):=by subst h;exact L9 he hb
theorem fY {o value:Expr} {ta tv:TE} {f:Str} {pos pos':Pos} (h:X.K=K) (ha:PE X o ta) (hv:PE X value tv) (hs:swapsWith value (some (.Attribute o f pos')) pos.line X.env=pure false):PS X (.Assign [.Attribute o f pos'] value pos) (sFld K ta tv f):=by subst h;exact LX ha hv hs
end
section
variable {σ:St} {H:Hp} {Q:VK} {D:Ends} {te tv ta:TE} {x y v:V}
theorem Eu {K:PySem.W.Frag} {p C dx Dc:Addr} {fs:List (Str×V)} {b:Bool} (e:H p=some (.ins C dx fs)) (c:AM K C) (k:PySem.W.kitOne K (.ref C) (.ref Dc)=some b) (h:Q (.bl b) H):LR K [.ref p,.ref Dc] H Q:=⟨p,C,dx,fs,Dc,b,rfl,e,c,k,h⟩
noncomputable def KJ (K:PySem.W.Frag) (f:Str) (Q:VK) (x:V) (H:Hp):Prop:=∃ a C dx fs v,x= .ref a∧H a=some (.ins C dx fs)∧Cls K C∧ar K C f∧fs.lookup f=some v∧Q v H
theorem Nx {K:PySem.W.Frag} {f:Str} (h:te σ H (KJ K f Q)):tFld K te f σ H Q:=h
theorem bC {K:PySem.W.Frag} {f:Str} {p C dx:Addr} {fs:List (Str×V)} (e:H p=some (.ins C dx fs)) (c:Cls K C) (n:ar K C f) (l:fs.lookup f=some v) (h:Q v H):KJ K f Q (.ref p) H:=⟨p,C,dx,fs,v,rfl,e,c,n,l,h⟩
structure Upd (H H':Hp) (p:Addr) (o:HO):Prop where
 at':H' p=some o
 oth:∀ b u,b≠p→H b=some u→H' b=some u
 non:∀ b,b≠p→H b=none→H' b=none
theorem Upd.of {H:Hp} {p:Addr} {o:HO}:Upd H (upd H p o) p o:=⟨au,fun b u n h=>by rw [aq n];exact h,fun b n h=>by rw [aq n];exact h⟩
noncomputable def M0 (K:PySem.W.Frag) (f:Str) (y:V) (D:Ends) (σ:St) (x:V) (H:Hp):Prop:=∃ a C dx fs,x= .ref a∧H a=some (.ins C dx fs)∧Cls K C∧ar K C f∧fs.length < 1000∧D.nx σ (upd H a (.ins C dx (putF f y fs)))
theorem GU {K:PySem.W.Frag} {f:Str} (h:tv σ H fun y H1=>te σ H1 (M0 K f y D σ)):sFld K te tv f D σ H:=h
theorem fU {K:PySem.W.Frag} {f:Str} {p C dx:Addr} {fs fs':List (Str×V)} (e:H p=some (.ins C dx fs)) (c:Cls K C) (n:ar K C f) (l:fs.length < 1000) (ef:putF f y fs=fs') (h:∀ H2,Upd H H2 p (.ins C dx fs')→D.nx σ H2):
  M0 K f y D σ (.ref p) H:=⟨p,C,dx,fs,rfl,e,c,n,l,by rw [ef];exact h _ Upd.of⟩
noncomputable def I0 (C:Addr) (sp:Sp) (E:XK) (Q:VK) (vs:List V) (H:Hp):Prop:=∀ x dx,H x=none→H dx=none→dx≠x→sp (.ref x::(vs++[])) (upd (upd H dx (.own x)) x (.ins C dx [])) (fun v H2=>v= .non∧Q (.ref x) H2) E
theorem Lq {C:Addr} {sp:Sp} {E:XK} {tr:TA} (h:tr σ H (I0 C sp E Q)):K3 C sp [] E tr σ H Q:=h
theorem GX {C:Addr} {sp:Sp} {E:XK} {vs:List V} (h:∀ x dx H2,H x=none→Same H H2→H2 x=some (.ins C dx [])→sp (.ref x::vs) H2 (fun v H2=>v= .non∧Q (.ref x) H2) E):I0 C sp E Q vs H:=by
 intro x dx f1 f2 n
 rw [List.append_nil]
 exact h x dx _ f1 (fun b o e=>by rw [aq (aj e f1),aq (aj e f2)];exact e) au
theorem Upd.same {H0 H2:Hp} {p:Addr} {o:HO} (u:Upd H H2 p o) (f:H0 p=none) (s:Same H0 H):Same H0 H2:=fun b q e=>u.oth b q (aj e f) (s b q e)
theorem Upd.trans {H2 H3:Hp} {p:Addr} {o o':HO} (u:Upd H H2 p o) (w:Upd H2 H3 p o'):Upd H H3 p o':=⟨w.at',fun b q n e=>w.oth b q n (u.oth b q n e),fun b n e=>w.non b n (u.non b n e)⟩
end
theorem Inv.laidCh {X:Cx} {pins:List (Addr×Obj)} {σ:St} {H:Hp} {s:Shared} {h':Heap} {a:Addr} {o:HO} {t':Nat} {ch:List Addr} (I:Inv X pins σ H s) (k:∀ b u,b∉ch→s.heap.get? b=some u→h'.get? b=some u) (hp:s.heap.objs.size≤a)
  (new:dh X.prog X.w (upd H a o) h' a o) (fp:∀ b∈ch,FpOk X pins H b):Inv X pins σ (upd H a o) {s with heap:=h',toks:=t'}:=by
 have fr:H a=none:=I.hok.fresh hp
 have nit:∀ b u,H b=some u→b∉ch:=fun b u e z=>by rw [(fp b z).1] at e;cases e
 refine I.step (g':=s.gens) (d':=s.drawn) (ch:=ch) (fun b hb=>?_) (fun b ob _ _ hc e _=>k b ob hc e) (fun b ob _ _ hc e _=>⟨ob.slots,k b ob hc e⟩) (fun b ob _ e n=>?_) (fun b ob hc e=>⟨ob,k b ob hc e⟩)
  (fun b xs e=>by rw [aq (aj e fr)];exact e) (fun b ob u e=>by rw [aq (aj e fr)];exact e) (fun b ps e=>⟨#[],by rw [aq (aj e fr),e];simp⟩) (fun m hm=>?_) (fun b u e=>?_) I.bare
 ·obtain ⟨f0,f1,f2,f3,f4,f5⟩:=fp b hb
  exact ⟨f3,f1,f4,f5⟩
 ·rw [aq (Nat.ne_of_lt (Nat.lt_of_lt_of_le (Heap.lt_size e) hp))];exact n
 ·obtain ⟨ob,es,ep,ho,r⟩:=hm
  exact ⟨ob,es,ep,k _ ob (fun z=>(fp _ z).2.1 rfl) ho,r⟩
 ·by_cases hb:b=a
  ·subst hb;rw [au] at e;cases e;exact new
  ·rw [aq hb] at e
   refine (I.hok b u e).stay (fun c v hc q=>k c v ?_ q) (fun c q=>by rw [aq (aj q fr)];exact q) fun c xs q=>by rw [aq (aj q fr)];exact q
   rcases hc with z | z
   ·rw [z];exact nit b u e
   ·exact nit c _ z
theorem Inv.turnedCh {X:Cx} {pins:List (Addr×Obj)} {σ:St} {H:Hp} {s:Shared} {h':Heap} {t':Nat} {ch:List Addr} (I:Inv X pins σ H s) (k:∀ b u,b∉ch→s.heap.get? b=some u→h'.get? b=some u)
  (fp:∀ b∈ch,FpOk X pins H b):Inv X pins σ H {s with heap:=h',toks:=t'}:=by
 have nit:∀ b u,H b=some u→b∉ch:=fun b u e z=>by rw [(fp b z).1] at e;cases e
 refine I.step (g':=s.gens) (d':=s.drawn) (ch:=ch) (fun b hb=>?_) (fun b ob _ _ hc e _=>k b ob hc e) (fun b ob _ _ hc e _=>⟨ob.slots,k b ob hc e⟩) (fun b ob _ e n=>n) (fun b ob hc e=>⟨ob,k b ob hc e⟩)
  (fun b xs e=>e) (fun b ob u e=>e) (fun b ps e=>⟨#[],by rw [e];simp⟩) (fun m hm=>?_) (fun b u e=>?_) I.bare
 ·obtain ⟨f0,f1,f2,f3,f4,f5⟩:=fp b hb
  exact ⟨f3,f1,f4,f5⟩
 ·obtain ⟨ob,es,ep,ho,r⟩:=hm
  exact ⟨ob,es,ep,k _ ob (fun z=>(fp _ z).2.1 rfl) ho,r⟩
 ·refine (I.hok b u e).stay (fun c v hc q=>k c v ?_ q) (fun c q=>q) fun c xs q=>q
  rcases hc with z | z
  ·rw [z];exact nit b u e
  ·exact nit c _ z
noncomputable def Ite (K:PySem.W.Frag) (a:Addr):It:=
 ⟨fun i H=>∃ xs x,SqL K H a xs∧xs[i]? =some x,fun i H x H'=>∃ p v,H p=none∧x= .ref p∧H'=upd H p (.tup [.int i,v])∧∀ xs,SqL K H a xs→xs[i]? =some v,fun i H=>∃ xs,SqL K H a xs∧xs.length=i⟩
theorem Iq:(2:Nat)≤sizeLine:=by rw [sizeLine_eq];decide
theorem BH {P:Program} {w:World} {K:PySem.W.Frag} {elts:List Expr} {k:Nat} {pos:Pos} (a e it:Addr) (hei:e≠it):
  Turn P w K (.Tuple elts k pos) (Ite K a) [e,it] e (fun i h=>(∃ old,IsEnum h e it i old)∧h.IsListIter it a i) where
 mem:=by simp
 obj:=fun i h st b hb=>by
  obtain ⟨⟨old,he⟩,⟨o,ho,hc,hd⟩⟩:=st
  rcases List.mem_cons.mp hb with z | z
  ·subst z;exact ⟨_,he,fun v z=>by cases z⟩
  ·rw [List.mem_singleton.mp z];exact ⟨o,ho,fun v z=>by rw [hd] at z;cases z⟩
 keep:=fun i h h' st k=>⟨let ⟨old,he⟩:=st.1;⟨old,k e (by simp) _ he⟩,st.2.at fun o z=>k it (by simp) o z⟩
 item:=by
  intro X hP hw hK hc i pins s σ H E I hf st hg
  subst hP hw hK
  obtain ⟨xs,x,hq,hx⟩:=hg
  obtain ⟨its,rv,p,hz⟩:=I.list hq
  obtain ⟨⟨old,he⟩,hl⟩:=st
  have hai:a≠it:=fun z=>by
   obtain ⟨o,ho,hcl,_⟩:=hl
   obtain ⟨o',n,ho',hcl',_⟩:=p
   rw [z,ho] at ho';cases ho';rw [hcl] at hcl';exact absurd hcl' (by decide)
  have hae:a≠e:=fun z=>by
   obtain ⟨o',n,ho',hcl',_⟩:=p
   rw [z,he] at ho';cases ho';exact absurd (show Value.type "enumerate"= .type "list" from hcl') (by decide)
  have W:=WalksT.enumerateD (prog:=X.prog) (w:=X.w) (A:=X.A) (Draws.list (A:=X.A.in1) (I.ok.hd hc) it a hai its.toArray) e hei (by simp [hei,Ne.symm hae]) (by simp)
  have hi:i < its.toArray.size:=by have:=rv.length;have:=(List.getElem?_eq_some_iff.mp hx).1;simp;omega
  refine W.item i s _ _ hi ⟨⟨old,he⟩,hl,p.isList⟩ fun T vals h' tk hPt hT htup hmid hk=>⟨_,rfl,W.go elts k pos i T _ _ _ hmid fun h'' hst hk2=>?_⟩
  obtain ⟨t,x',hx',rfl⟩:=hPt
  have hap:=W.apart i T h' hmid
  have ru:RelV x x':=by
   obtain ⟨u,hu,r⟩:=rv.get hx
   have hx'':its[i]? =some x':=by simpa using hx'
   rw [hu] at hx'';cases hx'';exact r
  have kk:∀ b u,b∉[e,it]→s.heap.get? b=some u→h''.get? b=some u:=fun b u hb q=>hk2 b u hb (hk b u hb q)
  have fr:H T=none:=I.hok.fresh hT
  refine ⟨.ref T,upd H T (.tup [.int i,x]),I.laidCh (t':=tk) kk hT ⟨Iq,[.int i t,x'],.cons ⟨t,rfl⟩ (.cons ru .nil),?_⟩ hf,rfl,⟨T,x,fr,rfl,rfl,fun ys hy=>by rw [I.list_inj hy hq];exact hx⟩,⟨hst.1,hst.2.1⟩,fun b hb=>?_⟩
  ·obtain ⟨o,ho,r⟩:=htup
   exact ⟨o,hk2 T o hap ho,r⟩
  ·have fb:=(hf b hb)
   rw [aq (fun z=>?_)]
   ·exact fb.1
   ·have lt:b < s.heap.objs.size:=by
     rcases List.mem_cons.mp hb with z | z
     ·subst z;exact Heap.lt_size he
     ·rw [List.mem_singleton.mp z];obtain ⟨o,ho,_⟩:=hl;exact Heap.lt_size ho
    rw [z] at lt
    exact absurd (Nat.lt_of_lt_of_le lt hT) (Nat.lt_irrefl _)
 done:=by
  intro X hP hw hK hc i pins s σ H E I hf st hg
  subst hP hw hK
  obtain ⟨xs,hq,hx⟩:=hg
  obtain ⟨its,rv,p,hz⟩:=I.list hq
  obtain ⟨⟨old,he⟩,hl⟩:=st
  have hai:a≠it:=fun z=>by
   obtain ⟨o,ho,hcl,_⟩:=hl
   obtain ⟨o',n,ho',hcl',_⟩:=p
   rw [z,ho] at ho';cases ho';rw [hcl] at hcl';exact absurd hcl' (by decide)
  have hae:a≠e:=fun z=>by
   obtain ⟨o',n,ho',hcl',_⟩:=p
   rw [z,he] at ho';cases ho';exact absurd (show Value.type "enumerate"= .type "list" from hcl') (by decide)
  have W:=WalksT.enumerateD (prog:=X.prog) (w:=X.w) (A:=X.A) (Draws.list (A:=X.A.in1) (I.ok.hd hc) it a hai its.toArray) e hei (by simp [hei,Ne.symm hae]) (by simp)
  have hn:its.toArray.size=i:=by have:=rv.length;simp;omega
  subst hn
  exact W.done s _ _ ⟨⟨old,he⟩,hl,p.isList⟩ fun h' tk hk=>⟨rfl,I.turnedCh hk hf⟩
 self:=fun _ _ _ _ _ st h=>let ⟨_,he⟩:=st.1;wpAny_pyIter_enum he h
theorem wa {K:PySem.W.Frag} {a:Addr} {xs:List V} {g:TG} {tb:TS} {D:Ends} {σ:St} {H:Hp} (Pv:Nat→St→Hp→Prop) (h0:Pv 0 σ H) (hl:∀ i σ H,i≤xs.length→Pv i σ H→SqL K H a xs)
  (hs:∀ i x σ H p H',xs[i]? =some x→Pv i σ H→H p=none→Same H H'→H' p=some (.tup [.int i,x])→g (.ref p) σ H' fun σ2 H2=>tb {D with nx:=Pv (i + 1),ct:=Pv (i + 1),bk:=D.nx} σ2 H2) (hd:∀ σ H,Pv xs.length σ H→D.nx σ H):
  ∃ W:Nat→Nat→St→Hp→Prop,(∃ m,W 0 m σ H)∧∀ i m σ H,W i m σ H→
    ((Ite K a).stop i H∧D.nx σ H)∨((Ite K a).go i H∧∃ N:St→Hp→Prop,(∀ σ' H',N σ' H'→∃ m',m' < m∧W (i + 1) m' σ' H')∧∀ x H',(Ite K a).yld i H x H'→g x σ H' fun σ2 H2=>tb {D with nx:=N,ct:=N,bk:=D.nx} σ2 H2):=by
 refine ⟨fun i m σ H=>m=xs.length - i∧i≤xs.length∧Pv i σ H,⟨xs.length,by simp,Nat.zero_le _,h0⟩,?_⟩
 rintro i m σ H ⟨rfl,hi,p⟩
 have q:=hl i σ H hi p
 by_cases hlt:i < xs.length
 ·refine .inr ⟨⟨xs,xs[i],q,by simp [hlt]⟩,Pv (i + 1),fun σ' H' p'=>⟨xs.length - (i + 1),by omega,rfl,hlt,p'⟩,fun x H' y=>?_⟩
  obtain ⟨r,v,f,e1,e2,y⟩:=y
  subst e1 e2
  exact hs i v σ H r _ (y xs q) p f (bF f) au
 ·have e:i=xs.length:=by omega
  subst e
  exact .inl ⟨⟨xs,q,rfl⟩,hd σ H p⟩
noncomputable def IA:V→List V→Hp→VK→Prop:=fun x xs H Q=>∃ z y,x= .str z∧xs=[.str y]∧y.length≠0∧z.length + 2≤sizeLine∧∀ D,H D=none→Q (.ref D) (upd H D (.lst ((Txt.split z y).map V.str)))
theorem wT:∀ (ss:List Str) (n:Nat),Vals (ss.map V.str) (strsFrom n ss)
 | [],_=> .nil
 | x::r,n=> .cons ⟨n,rfl⟩ (wT r (n + 1))
section
variable {X:Cx}
theorem Bc:MtR X "str.split" IA:=by
 intro pins s σ H x xs v us Q I rx rs h
 obtain ⟨z,y,rfl,rfl,hy,hz,q⟩:=h
 obtain ⟨t,rfl⟩:=rx
 obtain ⟨u,rfl,ru⟩:=rU rs
 obtain ⟨t',rfl⟩:=ru
 have hy:(y.length == 0)=false:=beq_eq_false_iff_ne.mpr hy
 have hle:=split_le z y
 have fr:=I.hok.fresh (Nat.le_refl s.heap.objs.size)
 have itself:Txt.split z y=[z]→EP X pins σ Q (.ref s.heap.objs.size) {s with heap:=s.heap.push {cls:= .type "list",data:= .seq [Value.str z t].toArray}}:=fun e=>
  ⟨.ref s.heap.objs.size,_,I.laid (t':=s.toks) (o:= .lst ((Txt.split z y).map V.str)) (fun b o e=>Heap.get?_push_of_some _ e) (Nat.le_refl _) ⟨by rw [List.length_map];omega,[.str z t],0,by rw [e];exact .cons ⟨t,rfl⟩ .nil,Heap.get?_push_size _ rfl⟩,rfl,q _ fr⟩
 cases h1:(decide (z.length < y.length)||decide (Builtin.Str.strKind z < Builtin.Str.strKind y)) with
 | true=>exact call_meets F.slot_str_split (typeIs_str _ _ _) F.entry_str_split (F.args_str_split_2 _ _) (meets_str_split_cannot_occur z y t t' h1) (itself (if_pos h1))
 | false=>
   cases hf:(Builtin.Str.occurrences z y 0 z.length (z.length + 1)).isEmpty with
   | true=>exact call_meets F.slot_str_split (typeIs_str _ _ _) F.entry_str_split (F.args_str_split_2 _ _) (meets_str_split_not_found z y t t' h1 hy hf) (itself ((if_neg (ne_true_of_eq_false h1)).trans (if_pos hf)))
   | false=>
     have e:Txt.split z y=Builtin.Str.partsBetween z (Builtin.Str.occurrences z y 0 z.length (z.length + 1)) y.length:=(if_neg (ne_true_of_eq_false h1)).trans (if_neg (ne_true_of_eq_false hf))
     refine call_meets F.slot_str_split (typeIs_str _ _ _) F.entry_str_split (F.args_str_split_2 _ _) (meets_str_split_sep z y t t' h1 hy hf (by omega) (by rw [← e];omega)) ?_
     refine ⟨.ref s.heap.objs.size,_,I.laid (fun b o e=>Heap.get?_push_of_some _ e) (Nat.le_refl _) (o:= .lst ((Txt.split z y).map V.str)) ⟨by rw [List.length_map];omega,_,0,?_,Heap.get?_push_size _ rfl⟩,rfl,q _ fr⟩
     rw [e]
     exact wT _ _
end
section
variable {σ:St} {H:Hp} {Q:VK} {D:Ends} {te ty tv td:TE} {x y v:V}
theorem Js {z w:Str} (hw:w.length≠0) (hz:z.length + 2≤sizeLine) (h:∀ p H2,H p=none→Same H H2→H2 p=some (.lst ((Txt.split z w).map V.str))→Q (.ref p) H2):IA (.str z) [.str w] H Q:=⟨z,w,rfl,rfl,hw,hz,fW h⟩
theorem pJ {l:Addr} {xs:List V} (e:H l=some (.lst xs)) (hz:xs.length < sizeLine) (h:∀ H2,Upd H H2 l (.lst (xs++[y]))→Q .non H2):ED (.ref l) [y] H Q:=⟨l,xs,y,rfl,rfl,e,hz,h _ Upd.of⟩
noncomputable def Jb (v:V) (x:V) (D:Ends) (σ:St) (y:V) (H:Hp):Prop:=∃ a H4,x= .ref a∧DPut H a y v H4∧D.nx σ H4
theorem LD (h:tv σ H fun v H1=>td σ H1 fun x H2=>ty σ H2 (Jb v x D σ)):LO td ty tv D σ H:=h
theorem JB {p:Addr} {kvs:List (Key×V)} {z:Str} (e:H p=some (.dK kvs)) (hl:kvs.length < sizeLine) (h:∀ H2,Upd H H2 p (.dK (putK kvs (Sum.inr z) v))→D.nx σ H2):Jb v (.ref p) D σ (.str z) H:=⟨p,_,rfl,DPut.k (k:=Sum.inr z) e hl,h _ Upd.of⟩
noncomputable def Jd (x:V) (Q:VK) (y:V) (H:Hp):Prop:=∃ a v,x= .ref a∧DGet H a y (some v)∧Q v H
theorem LG (h:td σ H fun x H1=>ty σ H1 (Jd x Q)):K6 td ty σ H Q:=h
theorem JD {p:Addr} {kvs:List (Key×V)} {z:Str} (e:H p=some (.dK kvs)) (l:valV kvs (Sum.inr z)=some v) (h:Q v H):Jd (.ref p) Q (.str z) H:=⟨p,v,rfl,by rw [← l];exact DGet.k (k:=Sum.inr z) e,h⟩
noncomputable def IZ (C:Addr) (m:Str) (sp:Sp) (E:XK) (tr:TA) (σ:St) (Q:VK) (x:V) (H:Hp):Prop:=∃ a dx fs,x= .ref a∧H a=some (.ins C dx fs)∧fs.lookup m=none∧tr σ H fun vs H2=>sp (x::(vs++[])) H2 Q E
theorem Lp {C:Addr} {m:Str} {sp:Sp} {E:XK} {tr:TA} (h:te σ H (IZ C m sp E tr σ Q)):K2 C m sp [] E te tr σ H Q:=h
theorem dB {C dx p:Addr} {m:Str} {fs:List (Str×V)} {sp:Sp} {E:XK} {tr:TA} (e:H p=some (.ins C dx fs)) (l:fs.lookup m=none) (h:tr σ H fun vs H2=>sp (.ref p::vs) H2 Q E):IZ C m sp E tr σ Q (.ref p) H:=⟨p,dx,fs,rfl,e,l,by simp only [List.append_nil];exact h⟩
theorem Ju {K:PySem.W.Frag} {p:Addr} {xs:List V} (e:SqL K H p xs) (h:∀ q H2,H q=none→Same H H2→H2 q=some (.lst xs)→Q (.ref q) H2):zq K [.ref p] H Q:=⟨p,xs,rfl,.inl e,fW h⟩
theorem Jt {K:PySem.W.Frag} {p:Addr} {xs:List V} (e:SqT K H p xs) (h:∀ q H2,H q=none→Same H H2→H2 q=some (.lst xs)→Q (.ref q) H2):zq K [.ref p] H Q:=⟨p,xs,rfl,.inr e,fW h⟩
theorem Ld {K:PySem.W.Frag} {p:Addr} {xs:List V} (e:SqL K H p xs) (h:∀ q H2,H q=none→Same H H2→H2 q=some (.tup xs)→Q (.ref q) H2):EA K [.ref p] H Q:=⟨p,xs,rfl,.inl ⟨e,fW h⟩⟩
theorem Lc {K:PySem.W.Frag} {p:Addr} {xs:List V} (e:SqT K H p xs) (h:Q (.ref p) H):EA K [.ref p] H Q:=⟨p,xs,rfl,.inr ⟨e,h⟩⟩
end
noncomputable def Mv (ch fr:List Addr) (h h':Heap):Prop:=(∀ b o,b∉ch→b∉fr→h.get? b=some o→h'.get? b=some o)∧∀ b o,b∉ch→b∈fr→h.get? b=some o→∃ sl,h'.get? b=some {o with slots:=sl}
noncomputable def Du (h:Heap) (e:Addr) (C:Value) (dx:Option Addr) (T:Option (Addr×Value)):Prop:=
 ∃ oe vs,h.get? e=some oe∧oe.cls=C∧oe.dict=dx∧oe.data= .fields vs∧1 < vs.size∧
   match T with
   | none=>vs[1]? =some .none
   | some (t,fl)=>vs[1]? =some (.ref t)∧t≠e∧∃ oT ts,h.get? t=some oT∧oT.data= .fields ts∧ts[3]? =some fl
section
variable {M:Model} {A:Around} {E:Value→Shared→Prop} {s:Shared}
theorem yy {h:Heap} {a:Addr} {o:Obj} {vs:Array Value} {i:Nat} {v:Value} (ho:h.get? a=some o) (hd:o.data= .fields vs):
  ∃ o',(h.update a (Obj.mapFields (·.setIfInBounds i v))).get? a=some o'∧o'.cls=o.cls∧o'.dict=o.dict∧o'.data= .fields (vs.setIfInBounds i v):=by
 have hd':=Obj.data_mapFields hd (·.setIfInBounds i v)
 refine ⟨_,Heap.get?_update_self (Obj.mapFields (·.setIfInBounds i v)) ho (Obj.isFreed_of_fields hd'),Obj.cls_mapFields _ _,?_,hd'⟩
 obtain ⟨c,d,dt,sl⟩:=o
 have hd:dt= .fields vs:=hd
 subst hd
 rfl
theorem HS {base:Heap} {env:Env} {outer:List Env} {L e:Addr} {oe:Obj} {vs:Array Value} {head:Value} {b:Bool} {Q:Unit→Shared→Prop}
  (hfr:A.frames=some (env::outer)) (hl:s.heap.FunFrames base (env::outer)) (hf:env.frame=some L) (he:s.heap.get? e=some oe) (hd:oe.data= .fields vs) (hsz:1 < vs.size)
  (h:∀ h',Mv [e] (frs (env::outer)) s.heap h'→Du h' e oe.cls oe.dict (some (s.heap.objs.size,rawInt L))→Q () {s with heap:=h'}):
  wpAny M A (do let a ← frameOf env;let pl ← entryPlaceOf L b;let t ← EntryCells.newEntry head a .none (rawInt L) .none pl;setField (.ref e) 1 t) Q E s:=by
 have ne:e∉frs (env::outer):=fun hm=>by
  obtain ⟨_,o,ho,hnf⟩:=hl.mem hm
  rw [he] at ho;cases ho;exact hnf vs hd
 refine wpAny_bind (wpAny_frameOf_fun hfr hl hf fun g1 z1=>?_)
 refine wpAny_bind (wpAny_entryPlaceOf fun pl isp=>?_)
 unfold EntryCells.newEntry newFields
 refine wpAny_bind (wpAny_newObj_type ?_ (isp.sizeOk5 _ _ _ _ _))
 have e1:g1.get? e=some oe:=(z1.2.1 e ne).trans he
 have sz:g1.objs.size=s.heap.objs.size:=z1.1
 generalize hob:({cls:= .type "traceback",dict:=none,data:= .fields ([head,.ref L,.none,rawInt L,.none]++(if pl.isEmpty then List.replicate 6 Value.none else pl)).toArray}:Obj)=ob
 have e2:(g1.push ob).get? e=some oe:=Heap.get?_push_of_some ob e1
 refine wpAny_setField e2 hd hsz ?_
 have lt:e < g1.objs.size:=Heap.lt_size e1
 obtain ⟨o',q1,q2,q3,q4⟩:=yy (i:=1) (v:= .ref g1.objs.size) e2 hd
 have oth:∀ c,c≠e→((g1.push ob).update e (Obj.mapFields (·.setIfInBounds 1 (Value.ref g1.objs.size)))).get? c=(g1.push ob).get? c:=fun c hc=>Heap.get?_update_other _ _ (Ne.symm hc)
 have old:∀ c o,c≠e→g1.get? c=some o→((g1.push ob).update e (Obj.mapFields (·.setIfInBounds 1 (Value.ref g1.objs.size)))).get? c=some o:=fun c o hc q=>(oth c hc).trans (Heap.get?_push_of_some ob q)
 refine h _ ⟨fun c o n m q=>old c o (fun z=>n (by rw [z];exact List.mem_singleton.mpr rfl)) ((z1.2.1 c m).trans q),fun c o n m q=>?_⟩ ⟨o',_,q1,q2,q3,q4,by simpa using hsz,?_⟩
 ·obtain ⟨sl,q'⟩:=z1.2.2 c o q
  exact ⟨sl,old c _ (fun z=>n (by rw [z];exact List.mem_singleton.mpr rfl)) q'⟩
 ·have nt:g1.objs.size≠e:=Nat.ne_of_gt lt
  refine ⟨by rw [← sz];simp [hsz],by rw [← sz];exact nt,ob,_,?_,by rw [← hob],?_⟩
  ·rw [← sz,oth _ nt]
   exact Heap.get?_push_size g1 (by rw [← hob];rfl)
  ·first | (simp;done) | (rcases isp with rfl | ⟨_,_,_,_,_,_,_,rfl⟩<;>simp)
theorem FJ {e t:Addr} {C:Value} {dx:Option Addr} {fl:Value} {fr:Option Addr} {Q:Unit→Shared→Prop} (x:Du s.heap e C dx (some (t,fl)))
  (h:∀ h',(∀ b o,b≠t→s.heap.get? b=some o→h'.get? b=some o)→Du h' e C dx (some (t,fr.elim .none fun f=>rawInt f))→Q () {s with heap:=h'}):wpAny M A (setFlight (.ref e) fr) Q E s:=by
 obtain ⟨oe,vs,he,hc,hdx,hd,hsz,h1,hte,oT,ts,hT,hdT,h3⟩:=x
 unfold setFlight
 refine wpAny_bind (wpAny_field he hd h1 ?_)
 rw [if_pos (show (Value.ref t != Value.none)=true from by simp)]
 refine wpAny_setField hT hdT (Array.getElem?_eq_some_iff.mp h3).1 ?_
 obtain ⟨o',q1,q2,q3,q4⟩:=yy (i:=3) (v:=fr.elim .none fun f=>rawInt f) hT hdT
 have oth:∀ c,c≠t→(s.heap.update t (Obj.mapFields (·.setIfInBounds 3 (fr.elim Value.none fun f=>rawInt f)))).get? c=s.heap.get? c:=fun c hc=>Heap.get?_update_other _ _ (Ne.symm hc)
 refine h _ (fun b o hb q=>(oth b hb).trans q) ⟨oe,vs,(oth e (Ne.symm hte)).trans he,hc,hdx,hd,hsz,h1,hte,o',_,q1,q4,?_⟩
 have:=(Array.getElem?_eq_some_iff.mp h3).1
 simp [this]
end
section
variable {X:Cx} {pins:List (Addr×Obj)} {σ:St} {H:Hp} {s:Shared}
theorem Inv.mv {h':Heap} {ch:List Addr} (I:Inv X pins σ H s) (m:Mv ch (frs X.stack) s.heap h') (fp:∀ b∈ch,FpOk X pins H b):Inv X pins σ H {s with heap:=h'}:=by
 have nit:∀ b u,H b=some u→b∉ch:=fun b u e z=>by rw [(fp b z).1] at e;cases e
 have nfr:∀ b u,H b=some u→b∉frs X.stack:=fun b u e z=>by rw [I.stkFree b z] at e;cases e
 have any:∀ b o,b∉ch→s.heap.get? b=some o→∃ sl,h'.get? b=some {o with slots:=sl}:=fun b o n e=>by
  by_cases z:b∈frs X.stack
  ·exact m.2 b o n z e
  ·exact ⟨o.slots,m.1 b o n z e⟩
 refine I.step (g':=s.gens) (d':=s.drawn) (t':=s.toks) (ch:=ch) (fun b hb=>?_) (fun b ob hL hb hc e _=>m.1 b ob hc (fun z=>(List.mem_cons.mp (I.stkSub b z)).elim hL hb) e) (fun b ob _ _ hc e _=>any b ob hc e) (fun b ob _ e n=>n) (fun b ob hc e=>let ⟨sl,q⟩:=any b ob hc e;⟨_,q⟩)
  (fun b xs e=>e) (fun b ob u e=>e) (fun b ps e=>⟨#[],by rw [e];simp⟩) (fun m' hm=>?_) (fun b u e=>?_) I.bare
 ·obtain ⟨f0,f1,f2,f3,f4,f5⟩:=fp b hb
  exact ⟨f3,f1,f4,f5⟩
 ·obtain ⟨ob,es,ep,ho,r⟩:=hm
  obtain ⟨sl,q⟩:=any _ ob (fun z=>(fp _ z).2.1 rfl) ho
  exact ⟨_,es,ep,q,r⟩
 ·refine (I.hok b u e).stay (fun c v hc q=>m.1 c v ?_ ?_ q) (fun c q=>q) fun c xs q=>q
  ·rcases hc with z | z
   ·rw [z];exact nit b u e
   ·exact nit c _ z
  ·rcases hc with z | z
   ·rw [z];exact nfr b u e
   ·exact nfr c _ z
theorem dh.there {P:Program} {w:World} {h:Heap} {a:Addr} {o:HO} (x:dh P w H h a o):∃ o',h.get? a=some o':=by
 cases o with
 | lst xs=>obtain ⟨_,_,_,_,e⟩:=x;exact ⟨_,e⟩
 | tup xs=>obtain ⟨_,_,_,_,e,_⟩:=x;exact ⟨_,e⟩
 | dK kvs=>obtain ⟨_,_,_,_,o,_,_,e,_⟩:=x;exact ⟨_,e⟩
 | dT kvs=>obtain ⟨_,_,_,_,o,_,_,e,_⟩:=x;exact ⟨_,e⟩
 | set S n=>obtain ⟨o,_,_,_,e,_⟩:=x;exact ⟨_,e⟩
 | ins C dx fs=>obtain ⟨_,_,_,e,_⟩:=x;exact ⟨_,e⟩
 | own y=>obtain ⟨_,e⟩:=x;exact ⟨_,e⟩
 | xd fs=>obtain ⟨_,⟨_,_,_,e,_⟩,_⟩:=x;exact ⟨_,e⟩
 | rng lo hi=>obtain ⟨_,_,_,e⟩:=x;exact ⟨_,e⟩
 | frz ob u=>obtain ⟨e,_⟩:=x;exact ⟨_,e⟩
 | tbl ps=>exact ⟨_,(show h.get? a=some _ from x)⟩
 | met f y=>exact ⟨_,(show h.get? a=some _ from x)⟩
 | ext φ=>obtain ⟨_,⟨_,e⟩,_⟩:=x;exact ⟨_,e⟩
theorem HOk.none_ {P:Program} {w:World} {h:Heap} {a:Addr} (x:HOk P w H h) (e:h.get? a=none):H a=none:=by
 cases q:H a with
 | none=>rfl
 | some u=>obtain ⟨o,z⟩:=(x a u q).there;rw [e] at z;cases z
noncomputable def FpN (X:Cx) (pins:List (Addr×Obj)) (H:Hp) (b:Addr):Prop:=
 H b=none∧b≠X.env.locals∧b∉X.fs∧(b∈X.ex∨X.s₀.heap.get? b=none)∧(∀ x c,X.env.cells.lookup x=some c→c≠b)∧∀ p∈X.pn++pins,p.1≠b
theorem FpOk.n {b:Addr} (f:FpOk X pins H b):FpN X pins H b:=⟨f.1,f.2.1,f.2.2.1,f.2.2.2.1.imp id Heap.get?_none_of_le,f.2.2.2.2⟩
theorem Inv.fpN {H':Hp} {b:Addr} (I:Inv X pins σ H s) (hb:s.heap.get? b=none) (hn:H' b=none):FpN X pins H' b:=by
 refine ⟨hn,fun z=>?_,fun z=>?_,?_,fun x c e z=>?_,fun p hp z=>?_⟩
 ·obtain ⟨m,⟨o,es,ep,ho,r⟩,_⟩:=I.loc
  rw [← z,hb] at ho;cases ho
 ·obtain ⟨_,o,ho,_⟩:=I.ok.funs.mem z
  obtain ⟨o',e'⟩:=I.base.there b o ho fun y=>I.ok.exfs b y z
  rw [hb] at e';cases e'
 ·by_cases z:b∈X.ex
  ·exact .inl z
  ·cases q:X.s₀.heap.get? b with
   | none=>exact .inr rfl
   | some o=>obtain ⟨o',e'⟩:=I.base.there b o q z;rw [hb] at e';cases e'
 ·obtain ⟨v,o,q,_⟩:=I.cell x c e
  rw [z,hb] at q;cases q
 ·have:=(I.pin p hp).1
  rw [z,hb] at this;cases this
theorem Inv.mvN {h':Heap} {ch:List Addr} (I:Inv X pins σ H s) (m:Mv ch (frs X.stack) s.heap h') (fp:∀ b∈ch,FpN X pins H b):Inv X pins σ H {s with heap:=h'}:=by
 have out:∀ b o,X.s₀.heap.get? b=some o→b∉X.ex→b∉ch++X.ex:=fun b o e n z=>by
  rcases List.mem_append.mp z with z | z
  ·rcases (fp b z).2.2.2.1 with y | y
   ·exact n y
   ·rw [e] at y;cases y
  ·exact n z
 have sub:∀ b,b∉ch++X.ex→b∉X.ex:=fun b n z=>n (List.mem_append_right _ z)
 have ok:Cx.Ok {X with ex:=ch++X.ex}:=⟨I.ok.mod,I.ok.kind,I.ok.glob,I.ok.blt,I.ok.above,I.ok.inj,I.ok.has,I.ok.cab,I.ok.hd,I.ok.frames,I.ok.stk,
  fun b hb=>(List.mem_append.mp hb).elim (fun z=>⟨(fp b z).2.1,(fp b z).2.2.2.2.1⟩) (I.ok.exf b),I.ok.bs,I.ok.bsz,fun b o e=>out b o (I.ok.bs b o e).1 (I.ok.noex b o e),
  fun b hb=>(List.mem_append.mp hb).elim (fun z=>(fp b z).2.2.1) (I.ok.exfs b),I.ok.funs,I.ok.frf⟩
 have U:=I.base
 have J:Inv {X with ex:=ch++X.ex} pins σ H s:=⟨ok,I.os,I.bare,⟨fun b o e n f z=>U.keep b o e n f (sub b z),fun b o e n f z=>U.slot b o e n f (sub b z),fun b o e n z=>U.free b o e n (sub b z),fun b o e z=>U.there b o e (sub b z),U.tups,U.frzs,U.tbls⟩,
  I.loc,I.cell,I.free,I.freeC,I.pin,I.hok,I.len⟩
 have J':=J.mv (h':=h') (ch:=ch) m fun b hb=>⟨(fp b hb).1,(fp b hb).2.1,(fp b hb).2.2.1,.inl (List.mem_append_left _ hb),(fp b hb).2.2.2.2⟩
 have V:=J'.base
 exact ⟨I.ok,J'.os,J'.bare,⟨fun b o e n f z=>V.keep b o e n f (out b o e z),fun b o e n f z=>V.slot b o e n f (out b o e z),fun b o e n z=>V.free b o e n (out b o e z),fun b o e z=>V.there b o e (out b o e z),V.tups,V.frzs,V.tbls⟩,
  J'.loc,J'.cell,J'.free,J'.freeC,J'.pin,J'.hok,J'.len⟩
structure Fly (X:Cx) (pins:List (Addr×Obj)) (H:Hp) (e:Addr) (C:Value) (dx:Option Addr) (T:Option (Addr×Value)) (h:Heap):Prop where
 at_:Du h e C dx T
 fe:FpN X pins H e
 ft:∀ t fl,T=some (t,fl)→FpN X pins H t
noncomputable def Own (X:Cx):Prop:=X.stack=X.env::X.outer∧X.env.frame=some X.env.locals
theorem E3 {M:Model} {E:Value→Shared→Prop} {e:Addr} {C:Value} {dx:Option Addr} {T:Option (Addr×Value)} {Q:Unit→Shared→Prop} (I:Inv X pins σ H s) (ow:Own X) (f:Fly X pins H e C dx T s.heap)
  (h:∀ h' t,Inv X pins σ H {s with heap:=h'}→Fly X pins H e C dx (some (t,rawInt X.env.locals)) h'→Q () {s with heap:=h'}):wpAny M X.A (noteFrame (.ref e) X.env) Q E s:=by
 obtain ⟨ho,hf⟩:=ow
 have hfr:X.A.frames=some (X.env::X.outer):=by rw [I.ok.frames,ho]
 have hst:s.heap.FunFrames X.base (X.env::X.outer):=by rw [← ho];exact I.stack
 obtain ⟨⟨oe,vs,he,hc,hdx,hd,hsz,hT⟩,fe,ft⟩:=f
 have fin:∀ (s1:Shared) (oe1:Obj) (vs1:Array Value) (hd1:Value) (b1:Bool),Inv X pins σ H s1→s1.heap.objs.size=s.heap.objs.size→s1={s with heap:=s1.heap}→s1.heap.get? e=some oe1→oe1.cls=C→oe1.dict=dx→oe1.data= .fields vs1→1 < vs1.size→
   wpAny M X.A (do let a ← frameOf X.env;let pl ← entryPlaceOf X.env.locals b1;let t ← EntryCells.newEntry hd1 a .none (rawInt X.env.locals) .none pl;setField (.ref e) 1 t) Q E s1:=by
  intro s1 oe1 vs1 hd1 b1 I1 hz hs1 q1 q2 q3 q4 q5
  have hst1:s1.heap.FunFrames X.base (X.env::X.outer):=by rw [← ho];exact I1.stack
  refine HS hfr hst1 hf q1 q4 q5 fun h' m x=>?_
  have I2:Inv X pins σ H {s1 with heap:=h'}:=I1.mvN (ch:=[e]) (by rw [ho];exact m) fun b hb=>by rw [List.mem_singleton.mp hb];exact fe
  have e2:({s1 with heap:=h'}:Shared)={s with heap:=h'}:=by rw [hs1]
  rw [e2] at I2 ⊢
  rw [q2,q3] at x
  exact h h' _ I2 ⟨x,fe,fun t fl z=>by cases z;exact (I1.fpOk (Nat.le_refl _) (I1.hok.fresh (Nat.le_refl _))).n⟩
 unfold noteFrame
 simp only [hf]
 cases T with
 | none=>
   have h1:vs[1]? =some .none:=hT
   refine wpAny_bind (wpAny_field he hd h1 ?_)
   rw [if_neg (by decide)]
   exact fin s oe vs _ _ I rfl rfl he hc hdx hd hsz
 | some p=>
   obtain ⟨t,fl⟩:=p
   obtain ⟨h1,hte,oT,ts,hTt,hdT,h3⟩:=hT
   refine wpAny_bind (wpAny_field he hd h1 ?_)
   rw [if_pos (show (Value.ref t != Value.none)=true from by simp)]
   refine wpAny_bind (wpAny_field hTt hdT h3 ?_)
   by_cases hz:(fl == rawInt X.env.locals)=true
   ·rw [if_pos hz]
    have hz':=eq_of_beq hz
    subst hz'
    exact wpAny_pure (h s.heap t I ⟨⟨oe,vs,he,hc,hdx,hd,hsz,h1,hte,oT,ts,hTt,hdT,h3⟩,fe,ft⟩)
   ·rw [if_neg hz]
    refine wpAny_bind (wpAny_setField hTt hdT (Array.getElem?_eq_some_iff.mp h3).1 ?_)
    have oth:∀ c,c≠t→(s.heap.update t (Obj.mapFields (·.setIfInBounds 3 Value.none))).get? c=s.heap.get? c:=fun c hc=>Heap.get?_update_other _ _ (Ne.symm hc)
    have m1:Mv [t] (frs X.stack) s.heap (s.heap.update t (Obj.mapFields (·.setIfInBounds 3 Value.none))):=
     ⟨fun b o n _ q=>(oth b (fun z=>n (by rw [z];exact List.mem_singleton.mpr rfl))).trans q,fun b o n _ q=>⟨o.slots,(oth b (fun z=>n (by rw [z];exact List.mem_singleton.mpr rfl))).trans q⟩⟩
    have I1:=I.mvN m1 fun b hb=>by rw [List.mem_singleton.mp hb];exact ft t fl rfl
    exact fin _ oe vs _ _ I1 (Heap.size_after_update ..) rfl ((oth e (Ne.symm hte)).trans he) hc hdx hd hsz
theorem Bk {M:Model} {A:Around} {E:Value→Shared→Prop} {e t:Addr} {C:Value} {dx:Option Addr} {fl:Value} {fr:Option Addr} {Q:Unit→Shared→Prop} (I:Inv X pins σ H s) (f:Fly X pins H e C dx (some (t,fl)) s.heap)
  (h:∀ h',Inv X pins σ H {s with heap:=h'}→Fly X pins H e C dx (some (t,fr.elim .none fun f=>rawInt f)) h'→Q () {s with heap:=h'}):wpAny M A (setFlight (.ref e) fr) Q E s:=by
 refine FJ f.at_ fun h' k x=>h h' (I.mvN (ch:=[t]) ⟨fun b o n _ q=>k b o (fun z=>n (by rw [z];exact List.mem_singleton.mpr rfl)) q,fun b o n _ q=>⟨o.slots,k b o (fun z=>n (by rw [z];exact List.mem_singleton.mpr rfl)) q⟩⟩ fun b hb=>by rw [List.mem_singleton.mp hb];exact f.ft t fl rfl) ⟨x,f.fe,fun t' fl' z=>by cases z;exact f.ft t fl rfl⟩
end
noncomputable abbrev XW:=St→XK
noncomputable def XE (X:Cx) (W:XW) (e:Value) (s:Shared):Prop:=∃ pins x C dx T σ H,e= .ref x∧Inv X pins σ H s∧Fly X pins H x C dx T s.heap∧W σ C dx H
noncomputable def Thr (X:Cx) (W:XW):Prop:=∀ e s,XE X W e s→X.xe e s
noncomputable abbrev Cx.thr (X:Cx) (W:XW):Cx:=X.wish (XE X W)
noncomputable abbrev W0:XW:=fun _ _ _ _=>False
section
variable {X:Cx} {W:XW} {pins:List (Addr×Obj)} {σ:St} {H:Hp} {s:Shared}
theorem Fly.wish {E:Value→Shared→Prop} {e:Addr} {C:Value} {dx:Option Addr} {T:Option (Addr×Value)} {h:Heap} (f:Fly (X.wish E) pins H e C dx T h):Fly X pins H e C dx T h:=⟨f.at_,f.fe,f.ft⟩
theorem uO:Thr (X.thr W) W:=fun e s ⟨pins,x,C,dx,T,σ,H,he,I,f,w⟩=>⟨pins,x,C,dx,T,σ,H,he,I.unwish,f.wish,w⟩
theorem thr0:Thr X W0:=fun e s ⟨pins,x,C,dx,T,σ,H,he,I,f,w⟩=>w.elim
theorem PSs.thr {st:List Stmt} {t:TS} (h:PSs (X.thr W) st t) (k:Thr X W):PSs X st t:=fun pins s σ H D I hw=>
 wpAny_mono (h pins s σ H D (I.wish _) hw) (fun _ _ q=>q.unwish) k
end
noncomputable def CX1 (P:Program) (w:World):CXT:=fun outer H s E e s'=>∃ x C dx t H',e= .ref x∧s'.os=s.os∧AllBare s'.gens∧Un (frs outer) [] H H' s.heap s'.heap∧HOk P w H' s'.heap∧
 Du s'.heap x C dx (some (t,.none))∧s.heap.get? x=none∧s.heap.get? t=none∧H' x=none∧H' t=none∧E C dx H'
section
variable {P:Program} {w:World} {K:PySem.W.Frag} {mg:Str→Option Value} {base:Heap}
theorem Hs {N:List Str} {qual:Str} {scope:Scope} {f:Addr} {cd:Value} {A:Around} {outer:List Env} {s:Shared} {H:Hp} {E:XK}:
  Thr (cxOf (CX1 P w) P w K mg base N qual scope f cd A outer s H E) fun _=>E:=by
 intro e s' ⟨pins,x,C,dx,T,σ,H',he,I,f',wq⟩
 subst he
 have own:Own (cxOf (CX1 P w) P w K mg base N qual scope f cd A outer s H E):=⟨rfl,rfl⟩
 show wpAny _ _ (leaving _ _) _ _ _
 unfold leaving
 refine wpAny_bind (E3 I own f' fun h1 t I1 f1=>?_)
 refine Bk (fr:=none) I1 f1 fun h2 I2 f2=>?_
 have fx:=f2.fe
 have ft:=f2.ft t _ rfl
 have no:∀ b:Addr,(b∈([]:List Addr)∨s.heap.get? b=none)→s.heap.get? b=none:=fun b z=>z.elim (fun q=>absurd q (by simp)) id
 exact ⟨x,C,dx,t,H',rfl,I2.os,I2.bare,I2.base,I2.hok,f2.at_,no x fx.2.2.2.1,no t ft.2.2.2.1,fx.1,ft.1,wq⟩
theorem Fun.okX {x qual:Str} {st:Stmt} {f:Addr} {fd:FuncData} {N ps:List Str} {k:Nat} {sp:Sp} (F:Fun K x qual st f fd) (S:aG N ps (af st)) (len:∀ vs H Q E,sp vs H Q E→vs.length=ps.length)
  (hbody:∀ (cdv:Value) (A:Around) (outer:List Env) (s:Shared) (H:Hp) (vs:List V) (Q:VK) (E:XK),Room k (A.deeper (envOfC qual (af st) s.heap.objs.size f cdv))→sp vs H Q E→
   ∃ t,PSs ((cxOf (CX1 P w) P w K mg base N qual (af st) f cdv A outer s H E).thr fun _=>E) (aD st) t∧t {nx:=fun _ H'=>Q .non H',rt:=Q} (start N vs) H):FnOk P w K mg base (CX1 P w) (k + 1) f fd ps sp:=by
 obtain ⟨oc,od,kV,doc,pm,an,cdv,ct,osl,rfl,lk,hcd⟩:=F.ex
 refine MD lk hcd S len fun A outer s H vs Q E hr hsp=>?_
 obtain ⟨t,h,q⟩:=hbody cdv A outer s H vs Q E hr hsp
 exact ⟨t,h.thr Hs,q⟩
end
section
variable {X:Cx} {W:XW} {pins:List (Addr×Obj)} {σ:St} {H:Hp} {s s':Shared}
theorem Inv.afterX {e:Value} (I:Inv X pins σ H s) (hx:Thr X W) (h:CX1 X.prog X.w X.stack H s (W σ) e s'):X.xe e s':=by
 obtain ⟨x,C,dx,t,H',rfl,os,bare,un,hok,ea,zx,zt,nx,nt,w⟩:=h
 refine hx _ _ ⟨pins,x,C,dx,_,σ,H',rfl,I.call' (ch:=[]) os un hok bare (fun b z=>absurd z (by simp)),⟨ea,I.fpN zx nx,fun t' fl z=>?_⟩,w⟩
 cases z
 exact I.fpN zt nt
variable {k:Nat} {f C:Addr} {fd:FuncData} {ps:List Str} {sp:Sp} {dvs:List V} {ds:List Value} {x m:Str} {p pos apos:Pos} {e o:Expr} {es:List Expr} {ta:TE} {t:TA}
theorem Ex {Q:VK} {us:List Value} {vs:List V} (F:FnOk X.prog X.w X.K X.mg X.base (CX1 X.prog X.w) k f fd ps sp) (hr:Room k X.A) (hb:bP X.K fd ps ds) (hd:Vals dvs ds) (hx:Thr X W)
  (I:Inv X pins σ H s) (r:Vals vs us) (h:sp (vs++dvs) H Q (W σ)):wpAny (model X.prog X.w) X.A (call (.ref f) us) (EP X pins σ Q) X.xe s:=by
 have r2:Vals (vs++dvs) (us++ds):=r.append hd
 have hl:(us++ds).length=ps.length:=by rw [← r2.length];exact F.len _ _ _ _ h
 refine wpAny_call (codeAny_mono (F.run X.A X.stack s H ⟨us,[]⟩ (us++ds) (vs++dvs) Q (W σ) hr I.env0 (hb s us I.kIn hl) r2 h) fun r s' hq=>?_)
 cases r with
 | error e=>exact I.afterX hx hq
 | ok fl=>
   cases fl with
   | ret u=>exact I.after hq
   | next=>exact False.elim hq
   | brk=>exact False.elim hq
   | cont=>exact False.elim hq
noncomputable def DU (sp:Sp) (dvs:List V) (W:XW) (t:TA):TE:=fun σ H Q=>t σ H fun vs H1=>sp (vs++dvs) H1 Q (W σ)
theorem JE {σ:St} {H:Hp} {Q:VK} {sp:Sp} {W:XW} {t:TA} (h:t σ H fun vs H1=>sp vs H1 Q (W σ)):DU sp [] W t σ H Q:=by
 unfold DU
 simpa using h
theorem pM (F:FnOk X.prog X.w X.K X.mg X.base (CX1 X.prog X.w) k f fd ps sp) (hr:Room k X.A) (hg:Gl X x) (hm:X.mg x=some (.ref f)) (hk:PySem.W.keepIn X.K (.ref f)=true) (hb:bP X.K fd ps ds) (hd:Vals dvs ds) (hx:Thr X W)
  (ha:PA X (e::es) t) (hdb:(x == ("__debug__":Str))=false:=by decide) (he:starEach (e::es) X.env=(false,eval e X.env)::starEach es X.env:=by rfl) (hpl:(backTo pos (starEach es X.env)).any (·.1)=false:=by rfl):
  PE X (.Call (.Name x p) (e::es) [] pos) (DU sp dvs W t):=by
 intro pins s σ H Q I h
 refine wpAny_Call_Name_kw (jx I hg hm ?_ hdb)
 refine PySem.W.callWith_K (h₀:=X.base) I.ok.mod.kin hk (thn (ha pos pins s σ H _ I h) fun us s1 ⟨vs,H1,I1,r,q⟩=>⟨I1.kIn,?_⟩) he hpl
 exact Ex F hr hb hd hx I1 r q
noncomputable def Is (C:Addr) (m:Str) (sp:Sp) (dvs:List V) (W:XW) (ta:TE) (t:TA):TE:=fun σ H Q=>ta σ H fun x H1=>∃ a dx fs,x= .ref a∧H1 a=some (.ins C dx fs)∧fs.lookup m=none∧
 t σ H1 fun vs H2=>sp (x::(vs++dvs)) H2 Q (W σ)
theorem pL {pl:Sem Bool} (he:PE X o ta) (c:Cls X.K C) (hm:Meth X.K C m f) (F:FnOk X.prog X.w X.K X.mg X.base (CX1 X.prog X.w) k f fd ps sp) (hr:Room k X.A) (hb:bP X.K fd ps ds) (hd:Vals dvs ds) (hx:Thr X W) (ha:PA X (e::es) t)
  (hst:starEach (e::es) X.env=(false,eval e X.env)::starEach es X.env:=by rfl) (hpl:(backTo pos (starEach es X.env)).any (·.1)=false:=by rfl)
  (ht:eval (.Call (.Attribute o m apos) (e::es) [] pos) X.env=(do
   let ov ← eval o X.env
   standAt apos.atName
   let (f,first) ← holding [ov] (getMethod ov m pl)
   callWith pos f first (backTo pos (starEach (e::es) X.env)) (backToKw pos (keywordEach [] X.env))):=by rfl):
  PE X (.Call (.Attribute o m apos) (e::es) [] pos) (Is C m sp dvs W ta t):=by
 intro pins s σ H Q I h
 refine PySem.W.methodCall_KW (pl:=pl) (thn (he pins s σ H _ I h) fun u s1 ⟨x,H1,I1,rx,a,dx,fs,ex,ea,l,q⟩=>?_) ht
 subst ex
 obtain rfl:u=Value.ref a:=rx
 refine uF I1 ea c hm l ?_
 refine PySem.W.callWith_K (first:=[.ref a]) (h₀:=X.base) I.ok.mod.kin hm.kp (thn (ha pos pins s1 σ H1 _ I1 q) fun us s2 ⟨vs,H2,I2,r,q2⟩=>⟨I2.kIn,?_⟩) hst hpl
 exact Ex (us:= .ref a::us) (vs:= .ref a::vs) F hr hb hd hx I2 (.cons rfl r) q2
end
structure XCls (h:Heap) (C:Addr) (bmB:List Value) (newId:String):Prop where
 obj:∃ bm N nm q bs hdct sn sub ab col dd k0 k1 k2 k3 k5 mN,h.get? C=some (excClassObj nm q C N bs bm hdct sn sub ab col dd k0 k1 k2 k3 k5 newId)∧h.Ns N mN∧mN "__init__"=none∧OwnTail h bmB bm
section
variable {X:Cx} {W:XW} {C:Addr} {x:Str} {np cpos pos:Pos} {e:Expr} {es:List Expr} {t:TA} {B newId initId:String} {bmB:List Value}
theorem Ke {pins:List (Addr×Obj)} {σ:St} {H:Hp} {s:Shared} {h':Heap} {a:Addr} {vs:List Value} (I:Inv X pins σ H s) (m:Heap.MadeExcOf s.heap h' a (.ref C) vs):
  Inv X pins σ H {s with heap:=h'}∧Fly X pins H a (.ref C) none none h':=by
 obtain ⟨tt,q1,q2,q3⟩:=m.there
 exact ⟨I.mvN (ch:=[]) ⟨fun b o _ _ e=>m.keeps b o e,fun b o _ _ e=>⟨o.slots,m.keeps b o e⟩⟩ fun b z=>absurd z (by simp),⟨⟨_,_,q1,rfl,rfl,rfl,by simp,by simp⟩,I.fpN m.new (I.hok.none_ m.new),fun t fl z=>by cases z⟩⟩
end
structure wP (K:PySem.W.Frag) (G:Addr):Prop where
 ty:PySem.W.typeIn K (.ref G)=some (.type "type")
 cls:PySem.W.isClsIn K G=true
 base:PySem.W.mroIn K G (.type "BaseException")=some true
theorem x8 {K:PySem.W.Frag} {M:Model} {h:Heap} {G:Addr} (X:K.In h) (c:PySem.W.isClsIn K G=true):PySem.W.Looks M h (isType (.ref G)) true:=by
 unfold PySem.W.isClsIn PySem.W.clsIn at c
 split at c
 next c' d' cd' sl' ho=>
  intro A' Q' E' s' k q
  unfold isType loadHead
  exact wpAny_bind (wpAny_loadPart (k _ _ (X _ _ ho)) (wpAny_pure q))
 next=>cases c
theorem uB {K:PySem.W.Frag} {M:Model} {A:Around} {E:Value→Shared→Prop} {s:Shared} {a G C:Addr} {oe:Obj} {b:Bool} {Q:Bool→Shared→Prop} (X:K.In s.heap) (c:wP K G) (he:s.heap.get? a=some oe) (hc:oe.cls= .ref C)
  (hm:PySem.W.mroIn K C (.ref G)=some b) (q:Q b s):wpAny M A (excMatches (.ref a) (.ref G)) Q E s:=by
 unfold excMatches isInstance
 refine wpAny_bind (wpAny_bind ((PySem.W.looks_typeIn X c.ty).here ?_))
 rw [tc_notTuple]
 refine wpAny_pure ?_
 simp only [Bool.false_eq_true,if_false]
 refine wpAny_bind (wpAny_pure ?_)
 simp only [List.forIn_cons,List.forIn_nil]
 unfold isExcClass
 refine wpAny_bind (wpAny_bind (wpAny_bind (wpAny_bind ((x8 X c.cls).here ?_))))
 simp only [if_true]
 refine (PySem.W.looks_mroIn X c.base).here ?_
 simp only [Bool.not_true,Bool.false_eq_true,if_false]
 refine wpAny_pure (wpAny_pure ?_)
 have L:PySem.W.Looks M s.heap (typeOf (.ref a)) (.ref C):=hc ▸ (PySem.W.Looks.ld he).andThen .now
 refine wpAny_bind (L.here ?_)
 refine wpAny_bind (wpAny_bind (wpAny_bind ((PySem.W.looks_mroIn X hm).here ?_)))
 cases b<;>simp only [Bool.false_eq_true,if_false,if_true]
 ·exact wpAny_pure (wpAny_pure (wpAny_pure q))
 ·exact wpAny_pure (wpAny_pure (wpAny_pure q))
section
variable {X:Cx} {pins:List (Addr×Obj)} {σ:St} {H:Hp} {s:Shared}
theorem vT {M:Model} {A:Around} {E:Value→Shared→Prop} {i:Nat} {n:Str} {pos:Pos} {Q:Unit→Shared→Prop} (I:Inv X pins σ H s) (hN:X.N.Nodup) (hi:X.N[i]? =some n) (hk:X.env.scope.names.lookup n=some .local)
  (h:∀ s',Inv X pins (σ.set i none) H s'→Q () s'):wpAny M A (do bindName X.env n .none;unbindBehindTheSuite X.env n pos) Q E s:=by
 obtain ⟨m,hn,hl⟩:=id I.loc
 have hcls:(X.env.scope.kind == .class||(X.env.scope.kind == .module&&X.env.locals != X.env.globals))=false:=by rw [I.ok.kind];rfl
 refine wpAny_nameGoes_keeps hk hn hcls fun h' v hn' hs=>h _ ?_
 obtain ⟨oL,_,_,hoL,_⟩:=id hn
 have far:∀ b o,X.s₀.heap.get? b=some o→b≠X.env.locals:=fun b o e=>Nat.ne_of_lt (Nat.lt_of_lt_of_le (Heap.lt_size e) I.ok.above)
 have U:=I.base
 refine ⟨I.ok,I.os,I.bare,⟨fun b o e n hb hx=>(hs.2 b (far b o e)).trans (U.keep b o e n hb hx),fun b o e n hb hx=>?_,U.free,fun b o e hx=>?_,U.tups,U.frzs,U.tbls⟩,⟨_,hn',fun j y v' e1 e2 e3=>?_⟩,fun y c e=>?_,I.free,I.freeC,fun p hp=>?_,fun b ob e=>?_,by simpa using I.len⟩
 ·obtain ⟨sl,e1⟩:=U.slot b o e n hb hx
  exact ⟨sl,(hs.2 b (far b o e)).trans e1⟩
 ·obtain ⟨o',e1⟩:=U.there b o e hx
  exact ⟨o',(hs.2 b (far b o e)).trans e1⟩
 ·by_cases hj:j=i
  ·subst hj
   have hiσ:j < σ.length:=by rw [I.len];exact (List.getElem?_eq_some_iff.mp hi).1
   rw [List.getElem?_set_self hiσ] at e2
   cases e2
  ·rw [List.getElem?_set_ne (Ne.symm hj)] at e2
   obtain ⟨u',r',q⟩:=hl j y v' e1 e2 e3
   refine ⟨u',r',?_⟩
   rcases q with ⟨k,e⟩ | ⟨k,c,e,z⟩
   ·refine .inl ⟨k,?_⟩
    have:y≠n:=fun e=>hj (vz hN e1 (e ▸ hi))
    simp [this,e]
   ·exact .inr ⟨k,c,e,z.sameBut hs (I.cne y c e)⟩
 ·obtain ⟨w',z⟩:=I.cell y c e
  exact ⟨w',z.sameBut hs (I.cne y c e)⟩
 ·obtain ⟨e,n,ne,nf,d⟩:=I.pin p hp
  exact ⟨(hs.2 p.1 ne).trans e,n,ne,nf,d⟩
 ·refine (I.hok b ob e).stay (fun c w' hc q=>(hs.2 c ?_).trans q) (fun _ q=>q) fun _ _ q=>q
  intro z
  subst z
  rcases hc with hc | hc
  ·rw [← hc,I.free] at e;cases e
  ·rw [I.free] at hc;cases hc
theorem Inv.track {x:Addr} {o:HO} (I:Inv X pins σ H s) (f:FpN X pins H x) (new:dh X.prog X.w (upd H x o) s.heap x o):Inv X pins σ (upd H x o) s:=by
 obtain ⟨f0,f1,f2,f3,f4,f5⟩:=f
 have ne:∀ b u,H b=some u→b≠x:=fun b u e z=>by rw [z,f0] at e;cases e
 have old:∀ b u,H b=some u→upd H x o b=some u:=fun b u e=>by rw [aq (ne b u e)];exact e
 have U:=I.base
 refine ⟨I.ok,I.os,I.bare,⟨U.keep,U.slot,fun b ob e n hx=>?_,U.there,fun b xs e=>old b _ (U.tups b xs e),fun b ob u e=>old b _ (U.frzs b ob u e),fun b ps e=>?_⟩,I.loc,I.cell,?_,fun y c e=>?_,fun p hp=>?_,fun b ob e=>?_,I.len⟩
 ·rw [aq (fun z=>?_)]
  ·exact U.free b ob e n hx
  ·subst z
   rcases f3 with y | y
   ·exact hx y
   ·rw [e] at y;cases y
 ·obtain ⟨m,q⟩:=U.tbls b ps e
  exact ⟨m,old b _ q⟩
 ·rw [aq (Ne.symm f1)];exact I.free
 ·rw [aq (f4 y c e)];exact I.freeC y c e
 ·obtain ⟨e,n,r⟩:=I.pin p hp
  exact ⟨e,by rw [aq (f5 p hp)];exact n,r⟩
 ·by_cases z:b=x
  ·subst z
   rw [au] at e
   cases e
   exact new
  ·rw [aq z] at e
   exact (I.hok b ob e).stay (fun _ _ _ q=>q) (fun c q=>old c _ q) fun c xs q=>old c _ q
end
noncomputable def ExcO (x:Addr) (C:Value) (dx:Option Addr):HO:= .ext fun h=>∃ oe vs,h.get? x=some oe∧oe.cls=C∧oe.dict=dx∧oe.data= .fields vs
theorem Kp {P:Program} {w:World} {H:Hp} {h:Heap} {x:Addr} {C:Value} {dx:Option Addr} {T:Option (Addr×Value)} (e:Du h x C dx T):dh P w H h x (ExcO x C dx):=by
 obtain ⟨oe,vs,q1,q2,q3,q4,_⟩:=e
 exact ⟨⟨oe,vs,q1,q2,q3,q4⟩,⟨oe,q1⟩,fun h1 h2 ⟨oe,vs,q1,q2,q3,q4⟩ k=>⟨oe,vs,k _ q1,q2,q3,q4⟩⟩
noncomputable abbrev Cx.pin (X:Cx) (pins:List (Addr×Obj)):Cx:={X with pn:=X.pn++pins}
noncomputable abbrev Cx.mark (X:Cx) (pins:List (Addr×Obj)) (e:Value):Cx:={X with A:=X.A.mark (some e),calm:=false,pn:=X.pn++pins,xe:=fun _ _=>False}
section
variable {X:Cx} {pins pins':List (Addr×Obj)} {σ:St} {H:Hp} {s:Shared} {e:Value}
theorem Inv.toPin (I:Inv X pins σ H s):Inv (X.pin pins) [] σ H s:=
 ⟨⟨I.ok.mod,I.ok.kind,I.ok.glob,I.ok.blt,I.ok.above,I.ok.inj,I.ok.has,I.ok.cab,I.ok.hd,I.ok.frames,I.ok.stk,I.ok.exf,I.ok.bs,I.ok.bsz,I.ok.noex,I.ok.exfs,I.ok.funs,I.ok.frf⟩,I.os,I.bare,I.base,I.loc,I.cell,I.free,I.freeC,
   fun p hp=>I.pin p (by simpa using hp),I.hok,I.len⟩
theorem Inv.ofPin (ok:X.Ok) (I:Inv (X.pin pins) pins' σ H s):Inv X pins σ H s:=
 ⟨ok,I.os,I.bare,I.base,I.loc,I.cell,I.free,I.freeC,fun p hp=>I.pin p (List.mem_append_left _ hp),I.hok,I.len⟩
theorem Inv.toMark (I:Inv X pins σ H s):Inv (X.mark pins e) [] σ H s:=
 ⟨⟨I.ok.mod,I.ok.kind,I.ok.glob,I.ok.blt,I.ok.above,I.ok.inj,I.ok.has,I.ok.cab,(fun z=>absurd (show false=true from z) (by decide)),I.ok.frames,I.ok.stk,I.ok.exf,I.ok.bs,I.ok.bsz,I.ok.noex,I.ok.exfs,I.ok.funs,I.ok.frf⟩,I.os,I.bare,I.base,I.loc,I.cell,I.free,I.freeC,
   fun p hp=>I.pin p (by simpa using hp),I.hok,I.len⟩
theorem Inv.ofMark (ok:X.Ok) (I:Inv (X.mark pins e) pins' σ H s):Inv X pins σ H s:=
 ⟨ok,I.os,I.bare,I.base,I.loc,I.cell,I.free,I.freeC,fun p hp=>I.pin p (List.mem_append_left _ hp),I.hok,I.len⟩
theorem FpN.ofPin {b:Addr} (f:FpN (X.pin pins) pins' H b):FpN X pins H b:=⟨f.1,f.2.1,f.2.2.1,f.2.2.2.1,f.2.2.2.2.1,fun p hp=>f.2.2.2.2.2 p (List.mem_append_left _ hp)⟩
theorem Fly.ofPin {x:Addr} {C:Value} {dx:Option Addr} {T:Option (Addr×Value)} {h:Heap} (f:Fly (X.pin pins) pins' H x C dx T h):Fly X pins H x C dx T h:=⟨f.at_,f.fe.ofPin,fun t fl z=>(f.ft t fl z).ofPin⟩
end
noncomputable def Ends.less (D:Ends) (i:Nat):Ends:={nx:=fun σ H=>D.nx (σ.set i none) H,rt:=D.rt,bk:=fun σ H=>D.bk (σ.set i none) H,ct:=fun σ H=>D.ct (σ.set i none) H}
noncomputable def WTry (K:PySem.W.Frag) (G:Addr) (i:Nat) (Wo:XW) (ts:TS) (D:Ends):XW:=fun σ C dx H=>∃ c,C= .ref c∧((PySem.W.mroIn K c (.ref G)=some true∧∀ x,H x=none→ts (D.less i) (σ.set i (some (.ref x))) (upd H x (ExcO x C dx)))∨
 (PySem.W.mroIn K c (.ref G)=some false∧Wo σ C dx H))
noncomputable def tTry (K:PySem.W.Frag) (G:Addr) (i:Nat) (Wo:XW) (tb:XW→TS) (ts:TS):TS:=fun D σ H=>tb (WTry K G i Wo ts D) D σ H
section
variable {X:Cx} {Wo:XW} {G:Addr} {g n:Str} {i:Nat} {gp hp pos:Pos} {b₀:Stmt} {body suite:List Stmt} {tb:XW→TS} {ts:TS}
theorem LW (ow:Own X) (hx:Thr X Wo) (cg:wP X.K G) (hg:Gl X g) (hm:X.mg g=some (.ref G)) (hN:X.N.Nodup) (hi:X.N[i]? =some n) (hk:X.env.scope.names.lookup n=some .local)
  (hb:∀ pins W,PSs ((X.pin pins).thr W) body (tb W)) (hs:∀ pins e,PSs (X.mark pins e) (b₀::suite) ts) (hdb:(g == ("__debug__":Str))=false:=by decide):
  PS X (.Try body [.ExceptHandler (some (.Name g gp)) (some n) (b₀::suite) hp] [] [] pos) (tTry X.K G i Wo tb ts):=by
 intro pins s σ H D I h
 have ok:=I.ok
 refine wpAny_Try_except (wpAny_mono (hb pins _ [] s σ H D (I.toPin.wish _) h) (fun fl s1 q=>?_) fun e s1 q=>?_)
 ·have q':=q.unwish
  cases fl with
  | next=>obtain ⟨σ',H',I',z⟩:=q';exact wpAny_pure ⟨σ',H',I'.ofPin ok,z⟩
  | brk=>obtain ⟨σ',H',I',z⟩:=q';exact ⟨σ',H',I'.ofPin ok,z⟩
  | cont=>obtain ⟨σ',H',I',z⟩:=q';exact ⟨σ',H',I'.ofPin ok,z⟩
  | ret u=>obtain ⟨v,σ',H',I',r,z⟩:=q';exact ⟨v,σ',H',I'.ofPin ok,r,z⟩
 ·obtain ⟨pins',x,C,dx,T,σ1,H1,rfl,I1,f1,c,rfl,w⟩:=q
  have J1:=I1.ofPin ok
  have g1:=f1.ofPin
  refine E3 J1 ow g1 fun h2 t J2 g2=>?_
  refine Bk (fr:=none) J2 g2 fun h3 J3 g3=>?_
  obtain ⟨⟨oe,vs,he,hc,hdx,hd,hsz,hT⟩,fe,ft⟩:=id g3
  refine wpAny_handleBy_cons (codeAny_handlers_test (jx (X:=X.mark pins (.ref x)) J3.toMark hg hm ?_ hdb)) (by intro q;cases q)
  rcases w with ⟨hmr,w⟩ | ⟨hmr,w⟩
  ·refine uB J3.kIn cg he hc hmr (codeAny_handlers_suite_as ?_)
   refine Bk (fr:=none) J3 g3 fun h4 J4 g4=>?_
   have J5:=J4.track g4.fe (Kp (P:=X.prog) (w:=X.w) (H:=upd H1 x (ExcO x (.ref c) dx)) g4.at_)
   refine uP J5 hN hi (.inl hk) (v:= .ref x) rfl (fun s6 J6=>?_) (.inr hk)
   refine wpAny_mono (hs pins (.ref x) [] s6 _ _ _ J6.toMark (w x g4.fe.1)) (fun fl s7 q=>?_) fun _ _ z=>False.elim z
   cases fl with
   | next=>obtain ⟨σ',H',I',z⟩:=q;exact vT (I'.ofMark ok) hN hi hk fun s8 I8=>⟨_,H',I8,z⟩
   | brk=>obtain ⟨σ',H',I',z⟩:=q;exact vT (I'.ofMark ok) hN hi hk fun s8 I8=>⟨_,H',I8,z⟩
   | cont=>obtain ⟨σ',H',I',z⟩:=q;exact vT (I'.ofMark ok) hN hi hk fun s8 I8=>⟨_,H',I8,z⟩
   | ret u=>obtain ⟨v,σ',H',I',r,z⟩:=q;exact vT (I'.ofMark ok) hN hi hk fun s8 I8=>⟨v,_,H',I8,r,z⟩
  ·refine uB J3.kIn cg he hc hmr (wpAny_handleBy_nil ?_)
   unfold PySem.passOn
   refine wpAny_bind (wpAny_field he hd hT.1 ?_)
   rw [if_neg (by simp)]
   refine wpAny_bind (Bk J3 g3 fun h4 J4 g4=>?_)
   exact wpAny_throw (hx _ _ ⟨pins,x,.ref c,dx,_,σ1,H1,rfl,J4,g4,w⟩)
end
structure XIsi (K:PySem.W.Frag) (D:Addr):Prop where
 cls:PySem.W.isClsIn K D=true
 ga:PySem.W.findIn K (.ref D) "__getattribute__"=some (some (.builtin "BaseException.__getattribute__"))
 gr:PySem.W.findIn K (.ref D) "__getattr__"=some none
 ha:PySem.W.findIn K (.ref D) "__class__"=some (some (.builtin "object.__class__"))
 hn:PySem.W.specialIn K (.builtin "object.__class__") "__get__"=some (some (.builtin "getset_descriptor.__get__"))
 tk:PySem.W.takesIn K (.builtin "object.__class__")=some true
 hm:PySem.W.mroIn K D (.type "object")=some true
 base:PySem.W.mroIn K D (.type "BaseException")=some true
noncomputable def dV:V→Value
 | .ref a=> .ref a
 | .ty n=> .type n
 | _=> .none
section
variable {σ:St} {H:Hp} {Q:VK} {D:Ends} {W:XW} {t:TA}
theorem Le {K:PySem.W.Frag} {G:Addr} {i:Nat} {Wo:XW} {tb:XW→TS} {ts:TS} (h:tb (WTry K G i Wo ts D) D σ H):tTry K G i Wo tb ts D σ H:=h
theorem G0 {K:PySem.W.Frag} {G c:Addr} {i:Nat} {Wo:XW} {ts:TS} {dx:Option Addr} (m:PySem.W.mroIn K c (.ref G)=some true) (h:∀ x H',H x=none→Upd H H' x (ExcO x (.ref c) dx)→ts (D.less i) (σ.set i (some (.ref x))) H'):WTry K G i Wo ts D σ (.ref c) dx H:=
 ⟨c,rfl,.inl ⟨m,fun x n=>h x _ n Upd.of⟩⟩
theorem Lr {i:Nat} (h:D.nx (σ.set i none) H):(D.less i).nx σ H:=h
end
theorem Ki {K:PySem.W.Frag} {C:Addr} {b:Bool} (h:PySem.W.mroIn K C (.type "ValueError")=some b):PySem.W.kitOne K (.ref C) (.type "ValueError")=some b:=by
 unfold PySem.W.kitOne
 rw [if_neg (fun z=>by cases beq_iff_eq.mp z)]
 unfold PySem.W.kitCls
 dsimp only
 rw [if_pos (by decide +kernel)]
 exact h
theorem vb {X:Cx} {K:PySem.W.Frag} {es:List Expr} {k:Nat} {t:TGs} {n:Nat} {pos:Pos} (h:X.K=K) (hc:X.calm=true) (ht:PGs X es t)
  (hn:(assignEach es X.env).length=n:=by rfl) (hst:(assignEach es X.env).findIdx? (·.1)=none:=by rfl):PG X (.Tuple es k pos) (gTup K n t):=by subst h;exact n0 hc ht hn hst
noncomputable def yi (kvs:List (Key×V)):List V:=kvs.map fun kv=>kV kv.1
noncomputable def IC:List V→Hp→VK→Prop:=fun xs H Q=>∃ p kvs,xs=[.ref p]∧H p=some (.dK kvs)∧∀ l,H l=none→Q (.ref l) (upd H l (.lst (yi kvs)))
theorem JG {k:Key} {v:Value} (h:z8 k v=true):RelV (kV k) v:=by
 rcases b5 h with ⟨i,t,rfl,rfl⟩ | ⟨x,t,rfl,rfl⟩
 ·exact ⟨t,rfl⟩
 ·exact ⟨t,rfl⟩
theorem qb {α β:Type} {F:α→β→Prop}:∀ {l:List α} {m:List β},l.length=m.length→(∀ (i:Nat) (a:α) (b:β),l[i]? =some a→m[i]? =some b→F a b)→Paired F l m
 | [],[],_,_=> .nil
 | a::l,b::m,hl,h=> .cons (h 0 a b rfl rfl) (qb (by simpa using hl) fun i x y hx hy=>h (i + 1) x y (by simpa using hx) (by simpa using hy))
 | [],_::_,hl,_=>by simp at hl
 | _::_,[],hl,_=>by simp at hl
section
variable {X:Cx}
theorem CY (hc:X.calm=true):i6 X (.type "list") IC:=by
 intro pins s σ H xs us Q I r h
 obtain ⟨p,kvs,rfl,hp,q⟩:=h
 obtain ⟨u,rfl,rx⟩:=rU r
 cases rx
 obtain ⟨hz,lo,vs,rel,dd⟩:=MJ I.hok hp
 obtain ⟨ep,hat⟩:=dd.dictAt
 refine PySem.W.kdl_call (PySem.W.kdl_dict (knd:=cH X.prog X.w) (kvs:=vs) (ep:=ep) lo) (I.ok.hd hc) hat (by rw [← rel.length];exact hz) fun h' tk acc' c' hk hD hacc=>?_
 have rv:Vals (yi kvs) acc'.toList:=by
  refine qb (by unfold yi;rw [List.length_map,rel.length,Array.length_toList];exact hacc.1.symm) fun i a b ha hb=>?_
  unfold yi at ha
  rw [List.getElem?_map] at ha
  obtain ⟨kv,hkv,rfl⟩:=Option.map_eq_some_iff.mp ha
  rw [Array.getElem?_toList] at hb
  obtain ⟨k,x,hx,hki⟩:=hacc.2 i b hb
  have e:kv.1=k:=by
   have e1:(kvs.map (·.1))[i]? =some kv.1:=by rw [List.getElem?_map,hkv];rfl
   rw [rel.keys,List.getElem?_map,hx] at e1
   exact (Option.some.inj e1).symm
  rw [e]
  exact JG hki
 exact ⟨.ref s.heap.objs.size,_,I.laid (t':=tk) hk (Nat.le_refl _) (show dh X.prog X.w _ h' _ (.lst (yi kvs)) from ⟨by unfold yi;rw [List.length_map];exact hz,acc'.toList,c',rv,by simpa using hD⟩),rfl,q _ (I.hok.fresh (Nat.le_refl _))⟩
end
section
variable {σ:St} {H:Hp} {Q:VK} {D:Ends} {te ty tv td:TE} {x y v:V}
theorem Jv {p:Addr} {kvs:List (Key×V)} (e:H p=some (.dK kvs)) (h:∀ q H2,H q=none→Same H H2→H2 q=some (.lst (yi kvs))→Q (.ref q) H2):IC [.ref p] H Q:=⟨p,kvs,rfl,e,fW h⟩
noncomputable def M5 (y:V) (Q:VK) (x:V) (H:Hp):Prop:=∃ a o,x= .ref a∧DGet H a y o∧Q (.bl o.isSome) H
theorem Ny (h:ty σ H fun y H1=>td σ H1 (M5 y Q)):tDIn ty td σ H Q:=h
theorem Ix {p:Addr} {kvs:List (Key×V)} {z:Str} (e:H p=some (.dK kvs)) (h:Q (.bl (valV kvs (Sum.inr z)).isSome) H):M5 (.str z) Q (.ref p) H:=⟨p,_,rfl,DGet.k (k:=Sum.inr z) e,h⟩
noncomputable def Jc (y:V) (Q:VK) (x:V) (H:Hp):Prop:=∃ a o,x= .ref a∧DGet H a y o∧Q (.bl (!o.isSome)) H
theorem LE (h:ty σ H fun y H1=>td σ H1 (Jc y Q)):DT ty td σ H Q:=h
theorem JC {p:Addr} {kvs:List (Key×V)} {z:Str} (e:H p=some (.dK kvs)) (h:Q (.bl (!(valV kvs (Sum.inr z)).isSome)) H):Jc (.str z) Q (.ref p) H:=⟨p,_,rfl,DGet.k (k:=Sum.inr z) e,h⟩
theorem Ew {l:Addr} {xs:List V} (e:H l=some (.lst xs)) (h:∀ H2,Upd H H2 l (.lst [])→Q .non H2):IE (.ref l) [] H Q:=⟨l,xs,rfl,rfl,e,h _ Upd.of⟩
theorem sf {l b:Addr} {xs zs:List V} (e:H l=some (.lst xs)) (e':H b=some (.lst zs)) (hz:xs.length + zs.length≤sizeLine) (h:∀ p H2,H p=none→Same H H2→H2 p=some (.lst (xs++zs))→Q (.ref p) H2):rCat (.ref l) (.ref b) H Q:=⟨l,b,xs,zs,rfl,rfl,e,e',hz,fW h⟩
end
open AutoSeq1 (wpAny_loadPart')
section
variable {prog:Program} {w:World} {A:Around} {E:Value→Shared→Prop} {s:Shared}
theorem mU {it t:Addr} {i:Nat} {items:Array Value} {x:Value} {Q:Value→Shared→Prop} (hit:s.heap.IsTupleIter it t i) (ht:s.heap.IsTuple t items) (hx:items[i]? =some x)
  (hQ:∀ h',h'.IsTupleIter it t (i + 1)→Heap.SameBut it s.heap h'→Q x {s with heap:=h'}):
  wpAny (model prog w) A (Builtin.SmallTypes.nextOf (.ref it)) Q E s:=by
 obtain ⟨o,ho,hc,hd⟩:=id hit
 obtain ⟨ol,hol,_,nl,hdl⟩:=ht
 unfold Builtin.SmallTypes.nextOf
 refine wpAny_bind (wpAny_callSpecial?_slot (name:=Str.ofString "__next__") hit.typeIs F.slot_tuple_iterator_next
  (wpAny_call_entry F.slot_tuple_iterator_next hit.typeIs F.entry_tuple_iterator_next ?_ (F.args_tuple_iterator_next_1 _)))
 show wpAny _ _ (field (.ref it) 0 >>=_) _ _ s
 refine wpAny_bind (wpAny_field ho hd (x:= .ref t) rfl ?_)
 show wpAny _ _ (if (Value.ref t == Value.none)=true then _ else _) _ _ s
 rw [if_neg (show ¬ ((Value.ref t == Value.none)=true) from Bool.false_ne_true)]
 show wpAny _ _ (field (.ref it) 1 >>=_) _ _ s
 refine wpAny_bind (wpAny_field ho hd (x:= .int i 0) rfl ?_)
 show wpAny _ _ (seqItems? (.ref t) >>=_) _ _ s
 refine wpAny_bind (wpAny_seqItems hol hdl ?_)
 simp only [Int.toNat_natCast,hx]
 refine wpAny_bind (wpAny_setField ho hd (by simp) (wpAny_pure ⟨x,rfl,wpAny_pure (hQ _ ?_ (Heap.SameBut.update ..))⟩))
 exact ⟨_,Heap.get?_update_self _ ho (Obj.isFreed_of_fields (Obj.data_mapFields hd _)),(Obj.cls_mapFields ..).trans hc,by
  rw [Obj.data_mapFields hd];simp [rawInt]⟩
theorem o5 {it t:Addr} {i:Nat} {items:Array Value} {Q:Value→Shared→Prop} (hh:A.handled=none) (hit:s.heap.IsTupleIter it t i) (ht:s.heap.IsTuple t items) (hx:items[i]? =none)
  (hE:∀ h' e,Heap.ExtBut it s.heap h'→(∃ o,h'.get? e=some o∧o.cls= .type "StopIteration")→E (.ref e) {s with heap:=h'}):
  wpAny (model prog w) A (Builtin.SmallTypes.nextOf (.ref it)) Q E s:=by
 obtain ⟨o,ho,hc,hd⟩:=id hit
 obtain ⟨ol,hol,_,nl,hdl⟩:=ht
 unfold Builtin.SmallTypes.nextOf
 refine wpAny_bind (wpAny_callSpecial?_slot (name:=Str.ofString "__next__") hit.typeIs F.slot_tuple_iterator_next
  (wpAny_call_entry F.slot_tuple_iterator_next hit.typeIs F.entry_tuple_iterator_next ?_ (F.args_tuple_iterator_next_1 _)))
 show wpAny _ _ (field (.ref it) 0 >>=_) _ _ s
 refine wpAny_bind (wpAny_field ho hd (x:= .ref t) rfl ?_)
 show wpAny _ _ (if (Value.ref t == Value.none)=true then _ else _) _ _ s
 rw [if_neg (show ¬ ((Value.ref t == Value.none)=true) from Bool.false_ne_true)]
 show wpAny _ _ (field (.ref it) 1 >>=_) _ _ s
 refine wpAny_bind (wpAny_field ho hd (x:= .int i 0) rfl ?_)
 show wpAny _ _ (seqItems? (.ref t) >>=_) _ _ s
 refine wpAny_bind (wpAny_seqItems hol hdl ?_)
 simp only [Int.toNat_natCast,hx]
 refine wpAny_bind (wpAny_rule (wpAny_bind (wpAny_setField ho hd (by simp) ?_)))
 show wpAny _ _ (newExc (.type "StopIteration") [] >>=_) _ _ _
 refine wpAny_bind ?_
 simp only [newExc,newTuple]
 refine wpAny_bind (wpAny_newObj_type ?_ (by size_fits))
 refine wpAny_bind (m:=firstArgMember _ _) (wpAny_of_eq (a:=Value.none) (by first | rfl | (simp only [firstArgMember];rfl)) ?_)
 refine wpAny_newObj_type ?_ (by size_fits)
 simp only [raiseNew]
 refine wpAny_bind (wpAny_handled ?_)
 first | rw [show A.in1.handled=none from hh] | rw [hh]
 refine wpAny_bind (wpAny_pure (wpAny_throw ?_))
 exact hE _ _ (((Heap.SameBut.update ..).extBut.push _).push _) ⟨_,Heap.get?_push_size _ rfl,rfl⟩
end
theorem Draws.tuple {prog:Program} {w:World} {A:Around} (hh:A.handled=none) (it l:Addr) (hne:l≠it) (items:Array Value):
  Draws prog w A it [it,l] items.size (fun i v=>items[i]? =some v) (fun i h=>h.IsTupleIter it l i∧h.IsTuple l items) where
 live:=fun _ _ st=>let ⟨o,ho,_⟩:=st.1;⟨o,ho⟩
 frame:=fun _ _ _ st hk=>⟨let ⟨o,ho,r⟩:=st.1;⟨o,hk it (by simp) o ho,r⟩,let ⟨o,ho,r⟩:=st.2;⟨o,hk l (by simp) o ho,r⟩⟩
 item:=fun i s Q E hi st hQ=>by
  refine mU st.1 st.2 (x:=items[i]) (by simp [hi]) fun h' hit' hs'=>?_
  exact hQ _ h' s.toks (by simp [hi]) ⟨hit',st.2.extBut hs'.extBut hne⟩ hs'
 done:=fun s Q E st hE=>o5 hh st.1 st.2 (by simp) hE
theorem jR (l:Addr) (items:Array Value) (n:Nat) (dct:Option Addr) (sl:Array (Option Value)):
  Meets (Builtin.«enumerate.__new__» ⟨[.type "enumerate",.ref l],[]⟩) (fun _ R s=>s.heap.get? l=some {cls:= .type "tuple",dict:=dct,data:= .seq items n,slots:=sl}∧
   R (.ok (.ret (.ref (s.heap.push {cls:= .type "tuple_iterator",data:= .fields #[.ref l,.int 0 0]}).objs.size)))
     {s with heap:=(s.heap.push {cls:= .type "tuple_iterator",data:= .fields #[.ref l,.int 0 0]}).push {cls:= .type "enumerate",data:= .fields #[.none,.bool false,.ref s.heap.objs.size,rawInt 0,.none,.none]}}):=
 .of_wp fun prog w A R s h=>by
  obtain ⟨hp,g,d,tk,os⟩:=s;obtain ⟨hl,h⟩:=h
  have hsub:=sub_enumerate
  have hL:Heap.IsTuple (Shared.heap ⟨hp,g,d,tk,os⟩) l items:=⟨_,hl,rfl,n,rfl⟩
  wp_walk using wpAny_loadPart' hl
  refine wpAny_stack_any fun st=>wpAny_pure ?_
  split
  ·rename_i c _ _ _ _ _
   cases (c == Value.type "enumerate")
   ·wp_walk using wpAny_loadPart' hl,wpAny_pyIter_tuple hL
    exact ⟨_,rfl,h⟩
   ·wp_walk using wpAny_loadPart' hl,wpAny_pyIter_tuple hL
    exact ⟨_,rfl,h⟩
  ·wp_walk using wpAny_loadPart' hl,wpAny_pyIter_tuple hL
   exact ⟨_,rfl,h⟩
theorem jT {prog:Program} {w:World} {A:Around} {E:Value→Shared→Prop} {s:Shared} {l:Addr} {items:Array Value} {Q:Value→Shared→Prop} (hL:s.heap.IsTuple l items)
  (h:∀ h',IsEnum h' (s.heap.objs.size + 1) s.heap.objs.size 0 .none→h'.IsTupleIter s.heap.objs.size l 0→h'.objs.size=s.heap.objs.size + 2→
   (∀ b o,s.heap.get? b=some o→h'.get? b=some o)→Q (.ref (s.heap.objs.size + 1)) {s with heap:=h'}):
  wpAny (model prog w) A (call (.type "enumerate") [.ref l]) Q E s:=by
 obtain ⟨⟨c,dct,dt,sl⟩,hl,hc,n,hd⟩:=hL
 replace hc:c= .type "tuple":=hc
 replace hd:dt= .seq items n:=hd
 subst hc hd
 refine callType_new F.called_enumerate (by decide) (F.typeCall_enumerate_1 _) (F.newCall_enumerate_1 _) (fun obj=>F.args_object_init_2 obj _) F.entry_enumerate_new
  (jR l items n dct sl) ⟨hl,?_⟩
 have hz:(s.heap.push {cls:= .type "tuple_iterator",data:= .fields #[.ref l,.int 0 0]}).objs.size=s.heap.objs.size + 1:=Heap.size_push ..
 show _∧_
 rw [hz]
 have he:IsEnum ((s.heap.push {cls:= .type "tuple_iterator",data:= .fields #[.ref l,.int 0 0]}).push
   {cls:= .type "enumerate",data:= .fields #[.none,.bool false,.ref s.heap.objs.size,rawInt 0,.none,.none]}) (s.heap.objs.size + 1) s.heap.objs.size 0 .none:=by
  have:=Heap.get?_push_size (s.heap.push {cls:= .type "tuple_iterator",data:= .fields #[.ref l,.int 0 0]})
   (o:={cls:= .type "enumerate",data:= .fields #[.none,.bool false,.ref s.heap.objs.size,rawInt 0,.none,.none]}) rfl
  rw [hz] at this;exact this
 refine ⟨⟨_,he,rfl⟩,h _ he ⟨_,Heap.get?_push_of_some _ (Heap.get?_push_size _ rfl),rfl,rfl⟩ (by rw [Heap.size_push,hz]) fun b o x=>Heap.get?_push_of_some _ (Heap.get?_push_of_some _ x)⟩
noncomputable def Itet (K:PySem.W.Frag) (a:Addr):It:=
 ⟨fun i H=>∃ xs x,SqT K H a xs∧xs[i]? =some x,fun i H x H'=>∃ p v,H p=none∧x= .ref p∧H'=upd H p (.tup [.int i,v])∧∀ xs,SqT K H a xs→xs[i]? =some v,fun i H=>∃ xs,SqT K H a xs∧xs.length=i⟩
theorem BG {P:Program} {w:World} {K:PySem.W.Frag} {elts:List Expr} {k:Nat} {pos:Pos} (a e it:Addr) (hei:e≠it):
  Turn P w K (.Tuple elts k pos) (Itet K a) [e,it] e (fun i h=>(∃ old,IsEnum h e it i old)∧h.IsTupleIter it a i) where
 mem:=by simp
 obj:=fun i h st b hb=>by
  obtain ⟨⟨old,he⟩,⟨o,ho,hc,hd⟩⟩:=st
  rcases List.mem_cons.mp hb with z | z
  ·subst z;exact ⟨_,he,fun v z=>by cases z⟩
  ·rw [List.mem_singleton.mp z];exact ⟨o,ho,fun v z=>by rw [hd] at z;cases z⟩
 keep:=fun i h h' st k=>⟨let ⟨old,he⟩:=st.1;⟨old,k e (by simp) _ he⟩,(let ⟨o,ho,r⟩:=st.2;⟨o,k it (by simp) o ho,r⟩)⟩
 item:=by
  intro X hP hw hK hc i pins s σ H E I hf st hg
  subst hP hw hK
  obtain ⟨xs,x,hq,hx⟩:=hg
  obtain ⟨its,rv,p,hz⟩:=I.tuple hq
  have pT:s.heap.IsTuple a its.toArray:=p
  obtain ⟨⟨old,he⟩,hl⟩:=st
  have hai:a≠it:=fun z=>by
   obtain ⟨o,ho,hcl,_⟩:=hl
   obtain ⟨o',ho',hcl',_⟩:=pT
   rw [z,ho] at ho';cases ho';rw [hcl] at hcl';exact absurd hcl' (by decide)
  have hae:a≠e:=fun z=>by
   obtain ⟨o',ho',hcl',_⟩:=pT
   rw [z,he] at ho';cases ho';exact absurd (show Value.type "enumerate"= .type "tuple" from hcl') (by decide)
  have W:=WalksT.enumerateD (prog:=X.prog) (w:=X.w) (A:=X.A) (Draws.tuple (A:=X.A.in1) (I.ok.hd hc) it a hai its.toArray) e hei (by simp [hei,Ne.symm hae]) (by simp)
  have hi:i < its.toArray.size:=by have:=rv.length;have:=(List.getElem?_eq_some_iff.mp hx).1;simp;omega
  refine W.item i s _ _ hi ⟨⟨old,he⟩,hl,pT⟩ fun T vals h' tk hPt hT htup hmid hk=>⟨_,rfl,W.go elts k pos i T _ _ _ hmid fun h'' hst hk2=>?_⟩
  obtain ⟨t,x',hx',rfl⟩:=hPt
  have hap:=W.apart i T h' hmid
  have ru:RelV x x':=by
   obtain ⟨u,hu,r⟩:=rv.get hx
   have hx'':its[i]? =some x':=by simpa using hx'
   rw [hu] at hx'';cases hx'';exact r
  have kk:∀ b u,b∉[e,it]→s.heap.get? b=some u→h''.get? b=some u:=fun b u hb q=>hk2 b u hb (hk b u hb q)
  have fr:H T=none:=I.hok.fresh hT
  refine ⟨.ref T,upd H T (.tup [.int i,x]),I.laidCh (t':=tk) kk hT ⟨Iq,[.int i t,x'],.cons ⟨t,rfl⟩ (.cons ru .nil),?_⟩ hf,rfl,⟨T,x,fr,rfl,rfl,fun ys hy=>by rw [I.tuple_inj hy hq];exact hx⟩,⟨hst.1,hst.2.1⟩,fun b hb=>?_⟩
  ·obtain ⟨o,ho,r⟩:=htup
   exact ⟨o,hk2 T o hap ho,r⟩
  ·have fb:=(hf b hb)
   rw [aq (fun z=>?_)]
   ·exact fb.1
   ·have lt:b < s.heap.objs.size:=by
     rcases List.mem_cons.mp hb with z | z
     ·subst z;exact Heap.lt_size he
     ·rw [List.mem_singleton.mp z];obtain ⟨o,ho,_⟩:=hl;exact Heap.lt_size ho
    rw [z] at lt
    exact absurd (Nat.lt_of_lt_of_le lt hT) (Nat.lt_irrefl _)
 done:=by
  intro X hP hw hK hc i pins s σ H E I hf st hg
  subst hP hw hK
  obtain ⟨xs,hq,hx⟩:=hg
  obtain ⟨its,rv,p,hz⟩:=I.tuple hq
  have pT:s.heap.IsTuple a its.toArray:=p
  obtain ⟨⟨old,he⟩,hl⟩:=st
  have hai:a≠it:=fun z=>by
   obtain ⟨o,ho,hcl,_⟩:=hl
   obtain ⟨o',ho',hcl',_⟩:=pT
   rw [z,ho] at ho';cases ho';rw [hcl] at hcl';exact absurd hcl' (by decide)
  have hae:a≠e:=fun z=>by
   obtain ⟨o',ho',hcl',_⟩:=pT
   rw [z,he] at ho';cases ho';exact absurd (show Value.type "enumerate"= .type "tuple" from hcl') (by decide)
  have W:=WalksT.enumerateD (prog:=X.prog) (w:=X.w) (A:=X.A) (Draws.tuple (A:=X.A.in1) (I.ok.hd hc) it a hai its.toArray) e hei (by simp [hei,Ne.symm hae]) (by simp)
  have hn:its.toArray.size=i:=by have:=rv.length;simp;omega
  subst hn
  exact W.done s _ _ ⟨⟨old,he⟩,hl,pT⟩ fun h' tk hk=>⟨rfl,I.turnedCh hk hf⟩
 self:=fun _ _ _ _ _ st h=>let ⟨_,he⟩:=st.1;wpAny_pyIter_enum he h
noncomputable def IS (K:PySem.W.Frag) (tl:TE):TI:=fun σ H R=>tl σ H fun x H1=>∃ a,x= .ref a∧(((∃ xs,SqL K H1 a xs)∧R (Ite K a) H1)∨((∃ xs,SqT K H1 a xs)∧R (Itet K a) H1))
section
variable {X:Cx} {K:PySem.W.Frag}
theorem lc {l:Expr} {tl:TE} {elts:List Expr} {k:Nat} {tpos p pos:Pos} (h:X.K=K) (hg:Gl X "enumerate") (hm:X.mg "enumerate"=none) (hl:PE X l tl) (hs:starEach [l] X.env=[(false,eval l X.env)]:=by rfl):
  PI X (.Tuple elts k tpos) (.Call (.Name "enumerate" p) [l] [] pos) (IS K tl):=by
 subst h
 intro pins s σ H R I h
 refine Call_ (oh I hg hm boot_enumerate (PyProof.Rows.callWith_type1 (thn (aa hl ad hs pos pins s σ H (fun vs H1=>match vs with | [x]=>∃ a,x= .ref a∧(((∃ xs,SqL X.K H1 a xs)∧R (Ite X.K a) H1)∨((∃ xs,SqT X.K H1 a xs)∧R (Itet X.K a) H1)) | _=>False) I h) fun us s1 ⟨vs,H1,I1,r1,q1⟩=>?_) hs rfl))
 match vs,r1,q1 with
 | [x],r1,q1=>
 obtain ⟨u,rfl,ru⟩:=r1.one
 obtain ⟨a,rfl,q1⟩:=q1
 cases ru
 have fin:∀ b∈[s1.heap.objs.size + 1,s1.heap.objs.size],FpOk X pins H1 b:=fun b hb=>by
  have hb':s1.heap.objs.size≤b:=(List.mem_cons.mp hb).elim (fun z=>by rw [z];exact Nat.le_succ _) (fun z=>by rw [List.mem_singleton.mp z];exact Nat.le_refl _)
  exact I1.fpOk hb' (I1.hok.fresh hb')
 rcases q1 with ⟨⟨xs,hq⟩,q⟩ | ⟨⟨xs,hq⟩,q⟩
 ·obtain ⟨its,rv,pl,hz⟩:=I1.list hq
  refine call_enumerate_list pl.isList fun h' he hit hsz hk=>wpAny_pyIter_enum he ?_
  exact ⟨s1.heap.objs.size + 1,[s1.heap.objs.size + 1,s1.heap.objs.size],_,_,H1,rfl,I1.kept (t':=s1.toks) hk,BH a _ _ (Nat.ne_of_gt (Nat.lt_succ_self _)),⟨⟨_,he⟩,hit⟩,fin,q⟩
 ·obtain ⟨its,rv,pl,hz⟩:=I1.tuple hq
  refine jT (show s1.heap.IsTuple a its.toArray from pl) fun h' he hit hsz hk=>wpAny_pyIter_enum he ?_
  exact ⟨s1.heap.objs.size + 1,[s1.heap.objs.size + 1,s1.heap.objs.size],_,_,H1,rfl,I1.kept (t':=s1.toks) hk,BG a _ _ (Nat.ne_of_gt (Nat.lt_succ_self _)),⟨⟨_,he⟩,hit⟩,fin,q⟩
end
theorem uG {K:PySem.W.Frag} {n:Nat} {fx:List Nat} {g:TG} {tc:TT} {te:TE} {σ:St} {H1:Hp} {D:Addr} {Q:Hp→Prop} {a:Addr} {xs:List V} (Pv:Nat→List V→Hp→Prop) (h0:Pv 0 [] (upd H1 D (.lst []))) (hl:∀ i ys H,i≤xs.length→Pv i ys H→SqT K H a xs)
  (hs:∀ i x ys H p H',xs[i]? =some x→Pv i ys H→H p=none→Same H H'→H' p=some (.tup [.int i,x])→g (.ref p) (c7 n fx σ) H' fun σ4 H4=>tc σ4 H4 fun b H5=>if b=true then te σ4 H5 fun v H6=>H6 D=some (.lst ys)∧ys.length < sizeLine∧Pv (i + 1) (ys++[v]) (upd H6 D (.lst (ys++[v]))) else Pv (i + 1) ys H5)
  (hd:∀ ys H,Pv xs.length ys H→Q H):
  ∃ W:Nat→Nat→List V→Hp→Prop,(∃ m,W 0 m [] (upd H1 D (.lst [])))∧∀ i m ys H2,W i m ys H2→((Itet K a).stop i H2∧Q H2)∨
    ((Itet K a).go i H2∧∃ N:List V→Hp→Prop,(∀ ys' H',N ys' H'→∃ m',m' < m∧W (i + 1) m' ys' H')∧∀ x H3,(Itet K a).yld i H2 x H3→g x (c7 n fx σ) H3 fun σ4 H4=>tc σ4 H4 fun b H5=>
      if b=true then te σ4 H5 fun v H6=>H6 D=some (.lst ys)∧ys.length < sizeLine∧N (ys++[v]) (upd H6 D (.lst (ys++[v]))) else N ys H5):=by
 refine ⟨fun i m ys H=>m=xs.length - i∧i≤xs.length∧Pv i ys H,⟨xs.length,by simp,Nat.zero_le _,h0⟩,?_⟩
 rintro i m ys H ⟨rfl,hi,p⟩
 have q:=hl i ys H hi p
 by_cases hlt:i < xs.length
 ·refine .inr ⟨⟨xs,xs[i],q,by simp [hlt]⟩,Pv (i + 1),fun ys' H' p'=>⟨xs.length - (i + 1),by omega,rfl,hlt,p'⟩,fun x H' y=>?_⟩
  obtain ⟨r,v,f,e1,e2,y⟩:=y
  subst e1 e2
  exact hs i v ys H r _ (y xs q) p f (bF f) au
 ·have e:i=xs.length:=by omega
  subst e
  exact .inl ⟨⟨xs,q,rfl⟩,hd ys H p⟩
section
variable {σ:St} {H:Hp} {te:TE} {R:It→Hp→Prop}
theorem cM {K:PySem.W.Frag} (h:te σ H fun x H1=>∃ a,x= .ref a∧(((∃ xs,SqL K H1 a xs)∧R (Ite K a) H1)∨((∃ xs,SqT K H1 a xs)∧R (Itet K a) H1))):IS K te σ H R:=h
end
namespace ZP
noncomputable abbrev Busy (h:Heap) (z TI TO T:Addr) (fl:Bool):Prop:=h.get? z=some {cls:= .type "zip",data:= .fields #[rawInt T,.bool fl,.bool false,.ref TI,.ref TO]}
section
variable {prog:Program} {w:World} {A:Around} {E:Value→Shared→Prop} {s:Shared}
structure ZGot (h:Heap) (lo:Nat) (xs ys:Array Value) (as:List Addr):Prop where
 rise:as.Pairwise (· < ·)
 above:∀ a∈as,lo≤a∧a < h.objs.size
 pairs:∀ (j:Nat) (a:Addr),as[j]? =some a→∃ x y,xs[j]? =some x∧ys[j]? =some y∧h.IsTuple a #[x,y]
structure ZSt (h:Heap) (z TI TO i1 i2 l1 l2:Addr) (lo:Nat) (xs ys:Array Value) (i:Nat) (as:List Addr):Prop where
 zp:(i=0∧IsZip h z TI TO .none)∨∃ T fl,Busy h z TI TO T fl∧as[0]? =some T
 hI:IsPair h TI (.ref i1) (.ref i2)
 hO:∃ a b,IsPair h TO a b
 h1:h.IsListIter i1 l1 i
 h2:h.IsListIter i2 l2 i
 hl1:h.IsList l1 xs
 hl2:h.IsList l2 ys
 len:as.length=i
 got:ZGot h lo xs ys as
structure Und (z TI TO i1 i2 l1 l2 S:Addr) (lo:Nat):Prop where
 ap:ZipApart z TI TO i1 i2 l1 l2
 Sz:S≠z
 STI:S≠TI
 STO:S≠TO
 Si1:S≠i1
 Si2:S≠i2
 Sl1:S≠l1
 Sl2:S≠l2
 z:z < lo
 TO:TO < lo
 i1:i1 < lo
 i2:i2 < lo
 S:S < lo
structure New (h:Heap) (z TI TO i1 i2 l1 l2:Addr) (xs ys:Array Value):Prop where
 ap:ZipApart z TI TO i1 i2 l1 l2
 hz:IsZip h z TI TO .none
 hI:IsPair h TI (.ref i1) (.ref i2)
 hO:∃ a b,IsPair h TO a b
 h1:h.IsListIter i1 l1 0
 h2:h.IsListIter i2 l2 0
 hl1:h.IsList l1 xs
 hl2:h.IsList l2 ys
end
end ZP
open PySem PySem.Spec PyProof.Rows
structure FunD (K:PySem.W.Frag) (x qual:Str) (st:Stmt) (f:Addr) (fd:FuncData) (dv:Value):Prop where
 ex:∃ (oc:Value) (od:Option Addr) (T:Addr) (kV doc pm:Value) (an:Option Addr) (cdv ct:Value) (osl:Array (Option Value)) (tc:Value) (td:Option Addr) (n:Nat) (tsl:Array (Option Value)),
  fd=PySem.W.fnOf x qual (aF st) (aD st) (af st) (.ref T) kV doc pm an cdv ct∧K.lookup f=some ⟨oc,od,.func fd,osl⟩∧PySem.W.codeIn K cdv qual=true∧K.lookup T=some ⟨tc,td,.seq #[dv] n,tsl⟩
 kp:PySem.W.keepIn K (.ref f)=true
section
variable {σ:St} {H:Hp} {Q:VK} {te:TE}
noncomputable def Gc (C:Addr) (m:Str) (sp:Sp) (dvs:List V) (W:XW) (tr:TA) (σ:St) (Q:VK) (x:V) (H:Hp):Prop:=∃ a dx fs,x= .ref a∧H a=some (.ins C dx fs)∧fs.lookup m=none∧tr σ H fun vs H2=>sp (x::(vs++dvs)) H2 Q (W σ)
theorem eV {C:Addr} {m:Str} {sp:Sp} {dvs:List V} {W:XW} {tr:TA} (h:te σ H (Gc C m sp dvs W tr σ Q)):Is C m sp dvs W te tr σ H Q:=h
theorem kX {C dx p:Addr} {m:Str} {fs:List (Str×V)} {sp:Sp} {dvs:List V} {W:XW} {tr:TA} (e:H p=some (.ins C dx fs)) (l:fs.lookup m=none) (h:tr σ H fun vs H2=>sp (.ref p::(vs++dvs)) H2 Q (W σ)):Gc C m sp dvs W tr σ Q (.ref p) H:=⟨p,dx,fs,rfl,e,l,h⟩
end
noncomputable abbrev xBM:List Value:=[.type "ValueError",.type "Exception",.type "BaseException",.type "object"]
noncomputable abbrev xRec (C:Addr) (dx:Option Addr) (t:Addr):Obj:={cls:= .ref C,dict:=dx,data:= .fields #[.ref t,.none,.none,.none,.bool false,.none]}
noncomputable def ExcF (p C:Addr) (dx:Option Addr):HO:= .ext fun h=>∃ t,h.get? p=some (xRec C dx t)
theorem Ah {P:Program} {w:World} {H:Hp} {h:Heap} {p C t:Addr} {dx:Option Addr} (e:h.get? p=some (xRec C dx t)):dh P w H h p (ExcF p C dx):=
 ⟨⟨t,e⟩,⟨_,e⟩,fun _ _ ⟨t,e⟩ k=>⟨t,k _ e⟩⟩
noncomputable def ExcV (H:Hp) (p C:Addr) (fs:List (Str×V)):Prop:=∃ dx,H p=some (ExcF p C dx)∧match dx with | none=>fs=[] | some d=>H d=some (.xd fs)
structure XOwn (K:PySem.W.Frag) (C W f:Addr):Prop where
 lk:∃ nm q N bs sn sub ab col dd k0 k1 k2 k3 k5,K.lookup C=some (excClassObj nm q C N bs (.ref W::xBM) true sn sub ab col dd k0 k1 k2 k3 k5 "ValueError.__new__")
 up:PySem.W.excIn K W xBM "ValueError.__new__"=true
 init:PySem.W.findIn K (.ref C) "__init__"=some (some (.ref f))
 fn:PySem.W.isFn K (.ref f)=true
 kp:PySem.W.keepIn K (.ref C)=true
 sa:PySem.W.findIn K (.ref C) "__setattr__"=some (some (.builtin "object.__setattr__"))
 mo:PySem.W.mroIn K C (.type "object")=some true
 mv:PySem.W.mroIn K C (.type "ValueError")=some true
theorem DQ {K:PySem.W.Frag} {W:Addr} (q:PySem.W.excIn K W xBM "ValueError.__new__"=true):PySem.W.tailIn K xBM (.ref W::xBM)=true:=by
 unfold PySem.W.excIn at q
 unfold PySem.W.tailIn
 split at q
 next dd cd sl ho=>
  split at q
  next C' bm k0 k1 k2 k3 n k5 hm hs=>
   simp only [Bool.and_eq_true,beq_iff_eq,Bool.not_eq_true'] at q
   obtain ⟨⟨⟨⟨⟨e1,e2⟩,hdel⟩,ht⟩,hok⟩,hni⟩:=q
   rw [Bool.or_eq_true]
   refine .inr ?_
   dsimp only
   rw [ho]
   dsimp only
   rw [hok,hni]
   unfold PySem.W.tailIn
   simp
  next=>cases q
 next=>cases q
section
variable {prog:Program} {w:World} {A:Around} {E:Value→Shared→Prop} {h:Heap} {g:Array GenState} {d:Drawn} {t:Nat} {os:OsState}
variable {nm q:Str} {C N:Addr} {bs bm bmB:List Value} {hdct:Bool} {sn:List Str} {sub:List Value} {ab:Bool} {col:Option Bool} {dd:Option Addr} {k0 k1 k2 k3 k5:Option Value} {B newId initId:String}
theorem rV (F:ExcBaseFacts B newId initId bmB) (T:OwnTail h bmB bm) {K:PySem.W.Frag} (X:K.In h) {rest:List Value} {fI:Addr} {Q:Fin→Shared→Prop}
  (hC:h.get? C=some (excClassObj nm q C N bs bm hdct sn sub ab col dd k0 k1 k2 k3 k5 newId)) (hi:PySem.W.findIn K (.ref C) "__init__"=some (some (.ref fI))) (hf:PySem.W.typeIn K (.ref fI)=some (.type "function"))
  (hq:∀ h' e,Heap.MadeExcOf h h' e (.ref C) rest→
   wpAny (model prog w) A (call (.ref fI) (.ref e::rest)) (fun r s'=>r= .none∧Q (.done (.ret (.ref e))) s') E ⟨h',g,d,t,os⟩) (hrest:rest.length≤sizeLine):
  wpAny (model prog w) A (Builtin.«type.__call__» ⟨.ref C::rest,[]⟩) Q E ⟨h,g,d,t,os⟩:=by
 repeat (first | with_reducible refine wpAny_loadPart_at hC ?_ | with_reducible refine wpAny_madeBy_exc hC ?_ | wp_step)
 refine codeAny_call_builtin_code (Code.quiet_builtin _ F.quiet) (wpAny_check_new_subT F T hC ?_)
 refine codeAny_exc_new_subT F T hC ?_ hrest
 show wpAny _ _ _ _ _ _
 have hC₁:=Heap.get?_push_of_some {cls:= .ref C,data:= .fields #[.ref h.objs.size,.none,.none,.none,.bool false,.none]}
  (Heap.get?_push_of_some {cls:= .type "tuple",data:= .seq rest.toArray} hC)
 have X₁:K.In ((h.push {cls:= .type "tuple",data:= .seq rest.toArray}).push {cls:= .ref C,data:= .fields #[.ref h.objs.size,.none,.none,.none,.bool false,.none]}):=
  X.keeps fun b o e=>Heap.get?_push_of_some _ (Heap.get?_push_of_some _ e)
 have hget:((h.push {cls:= .type "tuple",data:= .seq rest.toArray}).push
   {cls:= .ref C,data:= .fields #[.ref h.objs.size,.none,.none,.none,.bool false,.none]}).get? (h.objs.size + 1)=some
   {cls:= .ref C,data:= .fields #[.ref h.objs.size,.none,.none,.none,.bool false,.none]}:=by heap_get
 have hcC:(Value.ref C::bm).contains (.ref C)=true:=by simp
 unfold isInstance
 repeat (first | with_reducible refine wpAny_loadPart_at hget ?_ | (with_reducible refine wpAny_isSubtype_exc hC₁ ?_;rw [hcC]) | wp_step)
 show wpAny _ _ (typeLookup (.ref C) _) _ _ _
 refine (PySem.W.looks_findIn X₁ hi).at ?_
 refine wpAny_holding (wpAny_bind ?_)
 unfold bindSpecial
 refine wpAny_bind ((PySem.W.looks_typeIn X₁ hf).at ?_)
 rw [if_pos (by decide)]
 refine wpAny_pure (wpAny_bind (wpAny_mono (hq _ (h.objs.size + 1) ⟨fun b o hb=>Heap.get?_push_of_some _ (Heap.get?_push_of_some _ hb),Heap.get?_none_of_le (Nat.le_succ _),h.objs.size,hget,Heap.get?_none_of_le (Nat.le_refl _),?_⟩) (fun r s' hr=>?_) fun _ _ x=>x))
 ·exact Heap.get?_push_of_some _ (Heap.get?_push_at rfl rfl)
 ·obtain ⟨rfl,hQ⟩:=hr
  wp_walk
  exact hQ
theorem FX (F:ExcBaseFacts B newId initId bmB) (T:OwnTail h bmB bm) {K:PySem.W.Frag} (X:K.In h) {rest:List Value} {fI:Addr} {Q:Value→Shared→Prop}
  (hC:h.get? C=some (excClassObj nm q C N bs bm hdct sn sub ab col dd k0 k1 k2 k3 k5 newId)) (hi:PySem.W.findIn K (.ref C) "__init__"=some (some (.ref fI))) (hf:PySem.W.typeIn K (.ref fI)=some (.type "function"))
  (hq:∀ h' e,Heap.MadeExcOf h h' e (.ref C) rest→
   wpAny (model prog w) (A.under (.builtin "type.__call__" ⟨.ref C::rest,[]⟩)) (call (.ref fI) (.ref e::rest)) (fun r s'=>r= .none∧Q (.ref e) s') E ⟨h',g,d,t,os⟩) (hrest:rest.length≤sizeLine):
  wpAny (model prog w) A (call (.ref C) rest) Q E ⟨h,g,d,t,os⟩:=by
 have f1:=tc_lookup
 have f2:=tc_bind (.ref C)
 have hT:(⟨h,g,d,t,os⟩:Shared).TypeIs (.ref C) "type":=⟨_,hC,rfl⟩
 refine wpAny_call (codeAny_of_tree ?_)
 show wpAny _ _ (callAny (.ref C) _) _ _ _
 repeat (any_goals (first | assumption | with_reducible refine wpAny_loadPart_at hC ?_ | wp_step))
 refine ⟨rfl,?_⟩
 refine codeAny_call_builtin_at (Code.quiet_builtin _ (by decide +kernel)) entry_typeCall (wpAny_check_type_call_sub hC (rV F T X hC hi hf (fun h' e hm=>?_) hrest))
 exact hq h' e hm
end
section
variable {prog:Program} {w:World} {A:Around} {E:Value→Shared→Prop} {s:Shared} {K:PySem.W.Frag} {x C W f:Addr} {name:Str} {v:Value}
theorem XOwn.cls {h:Heap} (c:XOwn K C W f):∃ cd,PySem.W.clsIn K C=some cd∧cd.hasDict=true∧cd.mro= .ref C:: .ref W::xBM:=by
 obtain ⟨nm,q,N,bs,sn,sub,ab,col,dd,k0,k1,k2,k3,k5,e⟩:=c.lk
 refine ⟨{name:=nm,bases:=bs,mro:= .ref C:: .ref W::xBM,ns:=N,qualname:=q,hasDict:=true,slotNames:=sn,subclasses:=sub,abstract:=ab,collection:=col,hasDel:=false},?_,rfl,rfl⟩
 unfold PySem.W.clsIn
 rw [e]
open Builtin.ObjectAttr in
theorem EU {ox:Obj} {od:Option Obj} {tk:Tok} {R:Result→Shared→Prop} (X:K.In s.heap) (I:PySem.W.InstAt s.heap x ox C od) (c:XOwn K C W f) (n:ar K C name)
  (h:∀ b,wpAny (model prog w) A.in1 (storeInOwnDict (.ref x) (.ref C) (.str name tk) name v b)
   (fun fin s'=>match fin with | .done f=>R (.ok f) s' | .again c'=>c'.quiet=true∧codeAny (model prog w) A c' R s') (fun e s'=>R (.error e) s') s):
  codeAny (model prog w) A (.call (.builtin "object.__setattr__") ⟨[.ref x,.str name tk,v],[]⟩) R s:=by
 have SF:=PySem.F.store_object
 obtain ⟨cd,hc,hd,hm⟩:=c.cls (h:=s.heap)
 have sub:PySem.W.Looks (model prog w) s.heap (isInstance (.ref x) (.type "object")) true:=I.type.andThen (PySem.W.looks_mroIn X c.mo)
 refine codeAny_call_builtin SF.slot.plain SF.entry (@PySem.W.check_slot (model prog w) _ _ s "object.__setattr__" "object" "__setattr__" (.ref x) [.str name tk,v] [] _ SF.kind SF.split sub (SF.args (.ref x) (.str name tk) v) ?_)
 have L1:PySem.W.Looks (model prog w) s.heap (mroOf (.ref C)) (.ref C:: .ref W::xBM):=hm ▸ (PySem.W.looks_clsIn X hc).andThen .now
 have ha:PySem.W.findIn K (.ref C) name=some none:=n
 have L3:PySem.W.Looks (model prog w) s.heap (storeTaker? none) none:= .now
 rw [PySem.W.osa_eq,refuse_eq]
 refine wpAny_bind (wpAny_bind (I.type.here (wpAny_bind (L1.here ?_))))
 rw [refuseLoop_ref,refuseLoop_ref,PySem.F.store_ValueError.passes]
 refine wpAny_pure (wpAny_bind (I.type.here (wpAny_bind ((PySem.W.looks_findIn X ha).here (wpAny_bind (L3.here ?_))))))
 exact h _
open Builtin.ObjectAttr in
theorem Jr {t:Addr} {Q:Unit→Shared→Prop} (X:K.In s.heap) (c:XOwn K C W f) (n:ar K C name) (e:s.heap.get? x=some (xRec C none t))
  (h:∀ h',h'.Ns1 s.heap.objs.size (fun y=>if y=name then some v else none)→h'.get? x=some (xRec C (some s.heap.objs.size) t)→(∀ b o,b≠x→s.heap.get? b=some o→h'.get? b=some o)→Q () {s with heap:=h',toks:=s.toks + 2}):
  wpAny (model prog w) A (setAttr (.ref x) name v) Q E s:=by
 have J:PySem.W.InstAt s.heap x (xRec C none t) C none:=⟨e,rfl,rfl,trivial⟩
 refine PySem.W.set_plain X J c.sa (EU (s:={s with toks:=s.toks + 1}) X J c n fun b=>?_)
 obtain ⟨cd,hc,hd,hm⟩:=c.cls (h:=s.heap)
 refine wpAny_bind (wpAny_pure (wpAny_bind (wpAny_bind (wpAny_loadPart e (wpAny_bind (PySem.W.Looks.here (s:={s with toks:=s.toks + 1}) (PySem.W.looks_clsIn X hc) ?_))))))
 rw [hd]
 have hx₁:(s.heap.push {cls:= .type "dict",data:= .dict #[]}).get? x=some (xRec C none t):=Heap.get?_push_of_some _ e
 have hxs:x≠s.heap.objs.size:=Nat.ne_of_lt (Heap.lt_size e)
 refine wpAny_bind (wpAny_alloc' ?_)
 refine wpAny_bind (wpAny_update' hx₁ ?_)
 refine wpAny_pure ?_
 have hgd:((s.heap.push {cls:= .type "dict",data:= .dict #[]}).update x fun o=>{cls:=o.cls,dict:=some s.heap.objs.size,data:=o.data,slots:=o.slots}).get? s.heap.objs.size
   =some {cls:= .type "dict",data:= .dict #[]}:=(Heap.get?_update_ne _ _ _ _ hxs.symm).trans (Heap.get?_push_at rfl rfl)
 have hnd:((s.heap.push {cls:= .type "dict",data:= .dict #[]}).update x fun o=>{cls:=o.cls,dict:=some s.heap.objs.size,data:=o.data,slots:=o.slots}).Ns s.heap.objs.size (fun _=>none):=
  ⟨_,#[],_,hgd,rfl,fun e he=>absurd he (by simp),fun _=>rfl⟩
 have hgx:((s.heap.push {cls:= .type "dict",data:= .dict #[]}).update x fun o=>{cls:=o.cls,dict:=some s.heap.objs.size,data:=o.data,slots:=o.slots}).get? x=some (xRec C (some s.heap.objs.size) t):=
  Heap.get?_update_self _ hx₁ rfl
 show wpAny _ _ (storeInDict s.heap.objs.size (.str name _) name v) _ _ _
 unfold storeInDict newKeyGuard
 refine wpAny_bind (wpAny_pure (wpAny_bind (wpAny_nsSet1 (Heap.Ns1.of_empty hnd) fun h' hn' hs=>?_)))
 obtain ⟨oD,esD,epD,hoD,hdD,hcD⟩:=hn'.count (Within.cons name v Within.nil)
 refine wpAny_bind (wpAny_lookBehind hoD (by rw [hdD];exact pastItsLine_dict (Nat.le_trans hcD (by rw [List.length_cons,List.length_nil,sizeLine_eq];omega))) ?_)
 exact wpAny_pure (h h' hn' ((hs.2 x hxs).trans hgx) fun b o hb q=>(hs.2 b (Nat.ne_of_lt (Heap.lt_size q))).trans ((Heap.get?_update_ne _ _ _ _ hb).trans (Heap.get?_push_of_some _ q)))
theorem Kn {ox:Obj} {odo:Option Obj} {expr:Bool} {Q:Value→Shared→Prop} (X:K.In s.heap) (c:XIsi K C) (I:PySem.W.InstAt s.heap x ox C odo) (hf:PySem.W.findObj K C odo name=some (.value v)) (hv:PySem.W.handedIn v=true)
  (h:Q v {s with toks:=s.toks + 1}):wpAny (model prog w) A (getAttr (.ref x) name expr) Q E s:=by
 obtain ⟨hh,gg,d,t,os⟩:=s
 have L0:=I.type (M:=model prog w)
 have L1:=PySem.W.looks_findIn (M:=model prog w) X c.ga
 have L2:=PySem.W.looks_findIn (M:=model prog w) X c.gr
 have L3:=PySem.W.looks_find (M:=model prog w) X I hf
 have LI:PySem.W.Looks (model prog w) hh (isInstance (.ref x) (.type "BaseException")) true:=L0.andThen (PySem.W.looks_mroIn X c.base)
 unfold getAttr getAttrBy
 refine wpAny_bind (wpAny_mkText (wpAny_holding (wpAny_bind (L0.at (wpAny_bind (L1.at ?_))))))
 dsimp only
 have hx2:(Value.builtin "BaseException.__getattribute__" == Value.builtin "object.__getattribute__")=false:=by decide +kernel
 rw [if_neg (by rw [hx2,Bool.and_false];exact Bool.false_ne_true)]
 unfold getAttrByItsOwn hookBefore
 rw [if_pos (by rfl)]
 refine wpAny_bind (L2.at (wpAny_bind (wpAny_attempt (wpAny_holding ?_))))
 unfold callGetattribute
 rw [show (expr&&onTheHeap (Value.builtin "BaseException.__getattribute__"))=false from Bool.and_false _,if_neg (by simp)]
 unfold boundAndCalled
 refine wpAny_bind (wpAny_of_eq (F.attr_ValueError.ga.bind _) ?_)
 have hk:builtinKind "BaseException.__getattribute__"=some .slot:=by decide +kernel
 have hsplit:splitId "BaseException.__getattribute__"=some ("BaseException","__getattribute__"):=by decide +kernel
 have pl:=F.attr_ValueError.ga.plain
 have en:=F.entry_bexc_ga
 show wpAny _ _ (call (.builtin "BaseException.__getattribute__") [.ref x,.str name t]) _ _ _
 refine wpAny_call (codeAny_call_builtin pl en ?_)
 have ag:=F.args_bexc_ga (.ref x) (.str name t)
 generalize hgid:"BaseException.__getattribute__"=id0 at hk hsplit ag ⊢
 refine PySem.W.check_slot (self:= .ref x) (rest:=[.str name t]) (kw:=[]) hk hsplit LI ag ?_
 unfold Builtin.«object.__getattribute__»
 refine wpAny_bind (wpAny_of_eq (a:=(Value.ref x,[Value.str name t])) rfl ?_)
 dsimp only
 refine wpAny_bind (wpAny_of_eq (a:=name) rfl ?_)
 refine wpAny_bind (L0.at (wpAny_bind (L3.at ?_)))
 refine wpAny_pure ?_
 show wpAny _ _ (handedOut v) _ _ _
 rw [PySem.W.handedOut_of hv]
 exact wpAny_pure h
end
theorem Bf {α:Type} {x:α}:[x].length≤sizeLine:=by show 1≤_;rw [sizeLine_eq];decide
section
variable {X:Cx} {pins:List (Addr×Obj)} {σ:St} {H:Hp} {s:Shared} {p C W f:Addr} {fs:List (Str×V)}
noncomputable def LM (K:PySem.W.Frag) (ta tv:TE) (f:Str):TS:=fun D σ H=>tv σ H fun y H1=>ta σ H1 fun x H2=>∃ p C W g,x= .ref p∧H2 p=some (ExcF p C none)∧XOwn K C W g∧ar K C f∧
 ∀ d,H2 d=none→d≠p→D.nx σ (upd (upd H2 d (.xd [(f,y)])) p (ExcF p C (some d)))
noncomputable def IX (K:PySem.W.Frag) (f:Str) (y:V) (D:Ends) (σ:St) (x:V) (H:Hp):Prop:=∃ p C W g,x= .ref p∧H p=some (ExcF p C none)∧XOwn K C W g∧ar K C f∧
 ∀ d,H d=none→d≠p→D.nx σ (upd (upd H d (.xd [(f,y)])) p (ExcF p C (some d)))
theorem Iv {K:PySem.W.Frag} {f:Str} {te tv:TE} {D:Ends} (h:tv σ H fun y H1=>te σ H1 (IX K f y D σ)):LM K te tv f D σ H:=h
theorem GV {K:PySem.W.Frag} {f:Str} {y:V} {D:Ends} {g:Addr} (e:H p=some (ExcF p C none)) (c:XOwn K C W g) (n:ar K C f)
  (h:∀ H2,ExcV H2 p C [(f,y)]→(∀ b u,b≠p→H b=some u→H2 b=some u)→D.nx σ H2):IX K f y D σ (.ref p) H:=
 ⟨p,C,W,g,rfl,e,c,n,fun d hd ne=>h _ ⟨some d,au,by show upd _ p _ d=_;rw [aq ne,au]⟩ fun b u hb q=>by rw [aq hb,aq (aj q hd)];exact q⟩
theorem JL {K:PySem.W.Frag} {o value:Expr} {ta tv:TE} {f:Str} {pos pos':Pos} (h:X.K=K) (ha:PE X o ta) (hv:PE X value tv) (hs:swapsWith value (some (.Attribute o f pos')) pos.line X.env=pure false):PS X (.Assign [.Attribute o f pos'] value pos) (LM K ta tv f):=by
 subst h
 intro pins s σ H D I h
 refine plainObj_wpAny_Assign_Attribute (thn (hv pins s σ H _ I h) fun u s1 ⟨y,H1,I1,ry,q⟩=>thn (ha pins s1 σ H1 _ I1 q) fun ov s2 ⟨x,H2,I2,rx,p,C,W,g,ex,ea,c,n,q2⟩=>?_) hs
 subst ex
 obtain rfl:ov=Value.ref p:=rx
 obtain ⟨⟨t,e0⟩,_⟩:=I2.hok p _ ea
 refine Jr I2.kIn c n e0 fun h' ns hx keep=>?_
 have hf:=I2.hok.fresh (Nat.le_refl s2.heap.objs.size)
 have hne:s2.heap.objs.size≠p:=Nat.ne_of_gt (Heap.lt_size e0)
 obtain ⟨oD,es,ep,hoD,hrest⟩:=id ns
 have hfr:=(Heap.get?_some_iff.mp hoD).2
 have hD:(s2.heap.push oD).get? s2.heap.objs.size=some oD:=Heap.get?_push_size s2.heap hfr
 have I3:=I2.laid (a:=s2.heap.objs.size) (o:= .xd [(f,y)]) (h':=s2.heap.push oD) (t':=s2.toks) (fun b u q=>Heap.get?_push_of_some _ q) (Nat.le_refl _)
  ⟨_,⟨oD,es,ep,hD,hrest⟩,fun k=>by
    by_cases hk:k=f
    ·subst hk
     simp only [if_true,List.lookup,beq_self_eq_true]
     exact ry
    ·have hb:(k == f)=false:=beq_eq_false_iff_ne.mpr hk
     simp only [if_neg hk,List.lookup,hb]
     exact trivial⟩
 have I4:=I3.write (x:=p) (e:=p) (o:=ExcF p C (some s2.heap.objs.size)) (h':=h') (t':=s2.toks + 2) (by rw [aq hne.symm,ea];exact True.intro) (.inl rfl) (fun b u hb q=>?_) ⟨_,hx⟩ (Ah hx)
 ·exact ⟨σ,_,I4,q2 _ hf hne⟩
 ·by_cases hz:b=s2.heap.objs.size
  ·subst hz
   have q:(s2.heap.push oD).get? s2.heap.objs.size=some u:=q
   rw [hD] at q
   cases q
   exact hoD
  ·refine keep b u hb ?_
   have q:(s2.heap.push oD).get? b=some u:=q
   rw [Heap.get?_push_ne _ _ _ hz] at q
   exact q
structure MX (K:PySem.W.Frag) (W:Addr):Prop where
 ga:PySem.W.specialIn K (.ref W) "__getattribute__"=some (some (.builtin "type.__getattribute__"))
 rd:PySem.W.readsIn K W (.type "type")=true
 fd:PySem.W.findCls K (.ref W) (.type "type") "__init__"=some (.val (.builtin "ValueError.__init__"))
noncomputable def Ir (K:PySem.W.Frag) (t:TA):TE:=fun σ H Q=>t σ H fun vs H1=>∃ p C W g dx u,vs=[.ref p,u]∧H1 p=some (ExcF p C dx)∧XOwn K C W g∧Q .non H1
noncomputable def Gb (K:PySem.W.Frag) (Q:VK) (vs:List V) (H:Hp):Prop:=∃ p C W g dx u,vs=[.ref p,u]∧H p=some (ExcF p C dx)∧XOwn K C W g∧Q .non H
theorem Es {K:PySem.W.Frag} {t:TA} {Q:VK} (h:t σ H (Gb K Q)):Ir K t σ H Q:=h
theorem Er {K:PySem.W.Frag} {dx:Option Addr} {u:V} {Q:VK} (e:H p=some (ExcF p C dx)) (m:XOwn K C W f) (h:Q .non H):Gb K Q [.ref p,u] H:=⟨p,C,W,f,dx,u,rfl,e,m,h⟩
theorem Gz {a:Value} {dx:Option Addr} {Q:VK} (I:Inv X pins σ H s) (e:H p=some (ExcF p C dx)) (m:XOwn X.K C W f) (h:Q .non H):
  wpAny (model X.prog X.w) X.A (call (.builtin "ValueError.__init__") [.ref p,a]) (EP X pins σ Q) X.xe s:=by
 obtain ⟨⟨t,e0⟩,_⟩:=I.hok p _ e
 have FB:=PySem.F.excBase_ValueError
 obtain ⟨nm,qn,N,bs,sn,sub,ab,col,dd,k0,k1,k2,k3,k5,lk⟩:=m.lk
 have hC:=I.kIn _ _ lk
 have T:OwnTail s.heap xBM (.ref W::xBM):=PySem.W.tail_of_in I.kIn (DQ m.up)
 obtain ⟨hh,g,d,tk,os⟩:=s
 refine wpAny_call (codeAny_call_builtin FB.init.plain FB.initEntry (wpAny_check_init_subT FB T hC e0 rfl ?_))
 unfold Builtin.«BaseException.__init__»
 show wpAny _ _ (newTuple [a] >>=fun tv=>Builtin.BaseException.bexcPut (.ref p) 0 tv >>=fun _=>ret .none) _ _ _
 refine wpAny_bind (wpAny_newTuple ?_ Bf)
 have e1:(hh.push {cls:= .type "tuple",data:= .seq [a].toArray}).get? p=some (xRec C dx t):=Heap.get?_push_of_some _ e0
 unfold Builtin.BaseException.bexcPut
 refine wpAny_bind (wpAny_bind (wpAny_field e1 rfl rfl (wpAny_bind (wpAny_setField e1 rfl (Nat.succ_pos 5) ?_))))
 have e2:=Heap.get?_update_self (Obj.mapFields (·.setIfInBounds 0 (.ref hh.objs.size))) e1 rfl
 have I1:=(I.kept (t':=tk) (h':=hh.push {cls:= .type "tuple",data:= .seq [a].toArray}) (fun b u q=>Heap.get?_push_of_some _ q)).write (x:=p) (e:=p) (o:=ExcF p C dx)
  (h':=(hh.push {cls:= .type "tuple",data:= .seq [a].toArray}).update p (Obj.mapFields (·.setIfInBounds 0 (.ref hh.objs.size)))) (t':=tk) (by rw [e];exact True.intro) (.inl rfl) (fun b u hb q=>(Heap.get?_update_ne _ _ _ _ hb).trans q) ⟨_,e2⟩ (Ah (t:=hh.objs.size) e2)
 have eH:upd H p (ExcF p C dx)=H:=by
  funext b
  by_cases hb:b=p
  ·subst hb;rw [au,e]
  ·rw [aq hb]
 rw [eH] at I1
 unfold letGo letGo
 refine wpAny_bind (wpAny_holding (wpAny_point ?_))
 exact wpAny_pure (wpAny_pure ⟨.non,H,I1,rfl,h⟩)
theorem G6 {x:Str} {np apos pos:Pos} {e:Expr} {es:List Expr} {t:TA} {K:PySem.W.Frag} {pl:Sem Bool} (hK:X.K=K) (hg:Gl X x) (hx:X.mg x=some (.ref W)) (c:MX K W) (ha:PA X (e::es) t)
  (hdb:(x == ("__debug__":Str))=false:=by decide) (hst:starEach (e::es) X.env=(false,eval e X.env)::starEach es X.env:=by rfl) (hpl:(backTo pos (starEach es X.env)).any (·.1)=false:=by rfl)
  (ht:eval (.Call (.Attribute (.Name x np) "__init__" apos) (e::es) [] pos) X.env=(do
   let ov ← eval (.Name x np) X.env
   standAt apos.atName
   let (f,first) ← holding [ov] (getMethod ov "__init__" pl)
   callWith pos f first (backTo pos (starEach (e::es) X.env)) (backToKw pos (keywordEach [] X.env))):=by rfl):
  PE X (.Call (.Attribute (.Name x np) "__init__" apos) (e::es) [] pos) (Ir K t):=by
 subst hK
 intro pins s σ H Q I h
 refine PySem.W.methodCall_KW (pl:=pl) (jx I hg hx ?_ hdb) ht
 refine PySem.W.method_cls I.kIn c.ga (PySem.W.cls_value I.kIn c.rd c.fd rfl ?_)
 have I1:=I.tok (s.toks + 1)
 refine PyProof.Rows.callWith_builtin1 (thn (ha pos pins _ σ H _ I1 h) fun us s1 ⟨vs,H1,I2,r,p,C,W2,g2,dx,u,ev,hp,hm,q2⟩=>?_) hst hpl
 subst ev
 obtain ⟨a1,a2,rfl,ra,rb⟩:=GB r
 obtain rfl:a1= .ref p:=ra
 exact Gz I2 hp hm q2
theorem gR {st:Stmt}:PS X st (fun _ _ _=>False):=fun _ _ _ _ _ _ h=>h.elim
end
end L2
namespace PySem
theorem F.entry_dict_update_loop:entryFor table "dict.update.loop"=some Builtin.«dict.update.loop»:=entryFor_of_fast (by kernel_rfl)
theorem F.plain_dict_update_loop:plainId "dict.update.loop"=true:=by decide +kernel
theorem F.list_keys_none:typeLookup (.type "list") "keys"=pure none:=by rw [typeLookup_type,builtinLookup_eq_fast];kernel_rfl
theorem zO {prog:Program} {w:World} {A:Around} {E:Value→Shared→Prop} {s:Shared} {a:Addr} {xs:Array Value} {k:Nat} {name:Str} {Q:Option Value→Shared→Prop}
  (hx:s.heap.get? a=some {cls:= .type "list",data:= .seq xs k}) (hmiss:typeLookup (.type "list") name=pure none) (hname:(["__module__","__name__","__qualname__","__doc__","__annotations__"]:List Str).contains name=false) (hA:A.handled=none)
  (h:∀ h' tk,(∀ b o,s.heap.get? b=some o→h'.get? b=some o)→Q none {s with heap:=h',toks:=tk}) (hsz:name.length + 100≤sizeLine:=by size_fits):
  wpAny (model prog w) A (getAttr? (.ref a) name) Q E s:=by
 obtain ⟨hp,g,d,tk,os⟩:=s
 have hT:∀ tk',(⟨hp,g,d,tk',os⟩:Shared).TypeIs (.ref a) "list":=fun _=>⟨_,hx,rfl⟩
 have f1:=sub_AttributeError
 have f3:=F.slot_list_getattribute.lookup
 have f4:=F.slot_list_getattribute.bind (.ref a)
 have f5:=am_list_getattr_none
 unfold getAttr? getAttrBy? getAttrBy
 repeat (any_goals (first | assumption | exact hT _ | ((with_reducible show wpAny _ _ (call (Value.builtin "list.__getattribute__") _ _) _ _ _);refine call_meets F.slot_list_getattribute (hT _) am_entry_list_getattribute (F.args_list_getattribute_2 _ _) (meets_getattribute_miss_list a xs k #[] name _ hmiss hname hsz) ⟨hx,hA,fun h' tk' e hx'=>?_⟩) | wp_step))
 obtain ⟨t',u',he⟩:=hx'.there
 show wpAny _ _ (getattributeRaised _ _ _ _ _ _ _) _ _ _
 unfold getattributeRaised
 repeat (any_goals (first | assumption | wp_step))
 exact h _ _ hx'.keeps
section
variable {prog:Program} {w:World} {K:Type} [DecidableEq K] {knd:KeyKind prog w K} {A:Around} {R:Result→Shared→Prop} {I:Addr} {fp wr:List Addr} {n:Nat} {P:Nat→Value→Prop} {St:Nat→Heap→Prop}
noncomputable def IY (knd:KeyKind prog w K) (h:Heap) (a:Addr) (kv:K×Value):Prop:=∃ key o n,h.get? a=some o∧o.cls= .type "tuple"∧o.data= .seq #[key,kv.2] n∧knd.is kv.1 key=true
theorem rf {h h':Heap} {d:Addr} {kvs:List (K×Value)} (hm:h.DictOf knd d kvs) (f:∀ o,h.get? d=some o→h'.get? d=some o):h'.DictOf knd d kvs:=let ⟨o,es,ep,ho,r⟩:=hm;⟨o,es,ep,f o ho,r⟩
theorem kJ (W:Walks prog w A.in1 I fp wr n P St) (d:Addr) (hdf:d∉fp) (more:List (K×Value)) (hn:more.length=n) (hsz:n≤sizeLine) (tup:Nat→Addr) (htw:∀ i,i < n→tup i∉wr∧tup i≠d) (hP:∀ i v,i < n→P i v→v= .ref (tup i)):
  ∀ (k j:Nat) (s:Shared) (ix:Int) (t:Tok),n - j=k→j≤n→St j s.heap→s.heap.DictOf knd d (merged [] (more.take j))→(∀ i kv,more[i]? =some kv→IY knd s.heap (tup i) kv)→
  (∀ h' tk,h'.DictOf knd d (merged [] more)→(∀ b o,b∉wr→b≠d→s.heap.get? b=some o→h'.get? b=some o)→R (.ok (.ret .none)) {s with heap:=h',toks:=tk})→
  codeAny (model prog w) A (.builtin "dict.update.loop" ⟨[.ref d,.ref I,.int ix t,.none],[]⟩) R s:=by
 have hdw:d∉wr:=fun h=>hdf (W.sub _ h)
 intro k
 induction k with
 | zero=>
   intro j s ix t hk hj hst hd hp hR
   have hin:j=n:=by omega
   subst hin
   refine codeAny_builtin F.entry_dict_update_loop ?_
   rw [Around.under_plainId F.plain_dict_update_loop _]
   show wpAny _ A.in1 (pyNext (.ref I) >>=_) _ _ s
   refine wpAny_bind (W.done s _ _ hst fun h' tk hk'=>?_)
   show wpAny _ A.in1 (Builtin.Dict.addKeywords d [] >>=_) _ _ _
   refine wpAny_bind (wpAny_pure (wpAny_pure ?_))
   rw [← hn,List.take_length] at hd
   exact hR h' tk (rf hd fun o e=>hk' d o hdw e) fun b o hb _ e=>hk' b o hb e
 | succ k ih=>
   intro j s ix t hk hj hst hd hp hR
   have hlt:j < n:=by omega
   refine codeAny_builtin F.entry_dict_update_loop ?_
   rw [Around.under_plainId F.plain_dict_update_loop _]
   show wpAny _ A.in1 (pyNext (.ref I) >>=_) _ _ s
   refine wpAny_bind (W.item j s _ _ hlt hst fun v h' tk hPv hst' hk'=>?_)
   have ev:=hP j v hlt hPv
   subst ev
   obtain ⟨kv,hkv⟩:∃ kv,more[j]? =some kv:=⟨_,List.getElem?_eq_getElem (by omega)⟩
   obtain ⟨key,ob,m,ht,hcl,hda,hkey⟩:=hp j kv hkv
   have ht':=hk' _ _ (htw j hlt).1 ht
   show wpAny _ A.in1 (holding [Value.ref (tup j)] _ >>=_) _ _ _
   refine wpAny_bind (wpAny_holding (wpAny_bind (wpAny_tryCatch ?_)))
   unfold Builtin.Dict.pairItems
   refine wpAny_bind (wpAny_typeOf (T:="tuple") ⟨_,ht',hcl⟩ ?_)
   rw [if_pos (by decide)]
   refine wpAny_bind (wpAny_seqItems ht' hda ?_)
   refine wpAny_pure ?_
   show wpAny _ A.in1 (holding [key,kv.2] (dictSet d key kv.2)) _ _ _
   have hd':h'.DictOf knd d (merged [] (more.take j)):=rf hd fun o e=>hk' d o hdw e
   refine wpAny_holding (wpAny_dictSet_pairs (s:={s with heap:=h',toks:=tk}) hkey hd' (fun h2 hd2 hs2=>?_) (hsz:=by have:=merged_length_le [] (more.take j);rw [List.length_nil,List.length_take] at this;omega))
   rw [← merged_take_succ [] more j kv hkv] at hd2
   have kp:∀ b o,b∉wr→b≠d→s.heap.get? b=some o→h2.get? b=some o:=fun b o hb hbd e=>(hs2.2 b hbd).trans (hk' b o hb e)
   refine wpAny_pure ⟨plainId_quiet F.plain_dict_update_loop _,ih (j + 1) _ _ _ (by omega) hlt (W.frame _ _ _ hst' fun b hb o e=>?_) hd2 (fun i kv' hi=>?_) fun h3 tk3 hd3 hk3=>?_⟩
   ·exact (hs2.2 b fun z=>hdf (z ▸ hb)).trans e
   ·obtain ⟨key',o',m',e',x'⟩:=hp i kv' hi
    have hi':i < n:=by rw [← hn];exact (List.getElem?_eq_some_iff.mp hi).1
    exact ⟨key',o',m',kp _ _ (htw i hi').1 (htw i hi').2 e',x'⟩
   ·exact hR h3 tk3 hd3 fun b o hb hbd e=>hk3 b o hb hbd (kp b o hb hbd e)
end
section
variable {prog:Program} {w:World} {K:Type} [DecidableEq K] {knd:KeyKind prog w K} {A:Around} {E:Value→Shared→Prop} {s:Shared}
theorem rF {l:Addr} {its:Array Value} {c:Nat} {more:List (K×Value)} {tup:Nat→Addr} {Q:Value→Shared→Prop} (hA:A.handled=none) (hl:s.heap.get? l=some {cls:= .type "list",data:= .seq its c})
  (hn:more.length=its.size) (hsz:its.size≤sizeLine) (hit:∀ (i:Nat) (v:Value),its[i]? =some v→v= .ref (tup i)) (hp:∀ i kv,more[i]? =some kv→IY knd s.heap (tup i) kv) (nd:(more.map (·.1)).Nodup)
  (h:∀ h' tk,h'.DictOf knd s.heap.objs.size more→(∀ b o,s.heap.get? b=some o→h'.get? b=some o)→Q (.ref s.heap.objs.size) {s with heap:=h',toks:=tk}):
  wpAny (model prog w) A (call (.type "dict") [.ref l]) Q E s:=by
 refine callType_codes (Q₁:=fun obj s₁=>obj= .ref s.heap.objs.size∧s₁={s with heap:=s.heap.push {cls:= .type "dict",data:= .dict #[]}}) F.kt_called_dict (F.kt_typeCall_dict_1 _) F.entry_dict_init (kt_code_dict_new _ ⟨rfl,rfl⟩) ?_
 rintro obj s₁ ⟨rfl,rfl⟩
 have hnew:(s.heap.push {cls:= .type "dict",data:= .dict #[]}).DictOf knd s.heap.objs.size []:=Heap.DictOf.new s.heap
 have hl':(s.heap.push {cls:= .type "dict",data:= .dict #[]}).get? l=some {cls:= .type "list",data:= .seq its c}:=Heap.get?_push_of_some _ hl
 refine ⟨hnew.typeIs,F.args_dict_init_2 _ _,?_⟩
 unfold Builtin.«dict.__init__»
 refine wpAny_bind ?_
 unfold Builtin.Dict.selfAndRest
 refine wpAny_bind (wpAny_notOrdered_dict hnew.typeIs ?_)
 show wpAny _ _ (pure (s.heap.objs.size,[Value.ref l])) _ _ _
 refine wpAny_pure ?_
 show wpAny _ _ (Builtin.Dict.updateFrom "dict.__init__" s.heap.objs.size (.ref l) [] .none) _ _ _
 unfold Builtin.Dict.updateFrom
 refine wpAny_bind (wpAny_typeOf (T:="list") ⟨_,hl',rfl⟩ ?_)
 rw [if_pos (by decide)]
 refine wpAny_bind (zO hl' F.list_keys_none (by decide) hA fun h' tk hk=>?_)
 rw [if_pos (show (none:Option Value).isNone=true from rfl)]
 have hl2:=hk _ _ hl'
 have hlt:l < s.heap.objs.size:=Heap.lt_size hl
 have hd2:h'.DictOf knd s.heap.objs.size []:=rf hnew fun o e=>hk _ _ e
 have hds:s.heap.objs.size < h'.objs.size:=by obtain ⟨o,_,_,ho,_⟩:=hd2;exact Heap.lt_size ho
 have htl:∀ i,i < its.size→tup i < s.heap.objs.size:=fun i hi=>by
  obtain ⟨kv,hkv⟩:∃ kv,more[i]? =some kv:=⟨_,List.getElem?_eq_getElem (by omega)⟩
  obtain ⟨_,_,_,e,_⟩:=hp i kv hkv
  exact Heap.lt_size e
 refine wpAny_bind (wpAny_rule ?_)
 refine wpAny_bind (wpAny_pyIter_list (items:=its) ⟨_,hl2,rfl,c,rfl⟩ ?_)
 have W:=Walks.list (prog:=prog) (w:=w) (A:=A.in1.in1) hA h'.objs.size l (Nat.ne_of_lt (Nat.lt_trans hlt hds)) its
 refine wpAny_pure ⟨plainId_quiet F.plain_dict_update_loop _,kJ (knd:=knd) (A:=A.in1) W s.heap.objs.size ?_ more hn hsz tup (fun i hi=>⟨?_,?_⟩) (fun i v _ e=>hit i v e) _ 0 _ _ _ rfl (Nat.zero_le _) ⟨⟨_,Heap.get?_push_size _ rfl,rfl,rfl⟩,?_⟩ ?_ (fun i kv hi=>?_) fun h3 tk3 hd3 hk3=>?_⟩
 ·intro hm
  rcases List.mem_cons.mp hm with e | hm
  ·exact absurd e (Nat.ne_of_lt hds)
  ·exact absurd (List.mem_singleton.mp hm).symm (Nat.ne_of_lt hlt)
 ·intro hm
  exact absurd (List.mem_singleton.mp hm) (Nat.ne_of_lt (Nat.lt_trans (htl i hi) hds))
 ·exact Nat.ne_of_lt (htl i hi)
 ·exact ⟨_,Heap.get?_push_of_some _ hl2,rfl,c,rfl⟩
 ·exact hd2.push _
 ·obtain ⟨key,ob,m,e,x⟩:=hp i kv hi
  exact ⟨key,ob,m,Heap.get?_push_of_some _ (hk _ _ (Heap.get?_push_of_some _ e)),x⟩
 ·rw [merged_nil_of_nodup more nd] at hd3
  refine ⟨rfl,h h3 tk3 hd3 fun b o e=>hk3 b o (fun hm=>?_) ?_ (Heap.get?_push_of_some _ (hk _ _ (Heap.get?_push_of_some _ e)))⟩
  ·exact absurd (List.mem_singleton.mp hm) (Nat.ne_of_lt (Nat.lt_trans (Heap.lt_size e) hds))
  ·exact Nat.ne_of_lt (Heap.lt_size e)
end
end PySem
namespace L2
open PySem PySem.Spec PyProof.Rows
noncomputable def ID:List V→Hp→VK→Prop:=fun xs H Q=>∃ (l:Addr) (ps:List (Addr×Key×V)),xs=[.ref l]∧H l=some (.lst (ps.map fun q=>V.ref q.1))∧(∀ q∈ps,H q.1=some (.tup [kV q.2.1,q.2.2]))∧(ps.map fun q=>q.2.1).Nodup∧
 ∀ d,H d=none→Q (.ref d) (upd H d (.dK (ps.map (·.2))))
section
variable {X:Cx}
theorem uM (hc:X.calm=true):i6 X (.type "dict") ID:=by
 intro pins s σ H xs us Q I r h
 obtain ⟨l,ps,rfl,hl,ht,nd,q⟩:=h
 obtain ⟨u,rfl,rx⟩:=rU r
 cases rx
 obtain ⟨z,its,c,rv,ll,el⟩:=I.lstM hl
 rw [List.length_map] at z ll
 have get:∀ (i:Nat) q,ps[i]? =some q→its[i]? =some (.ref q.1)∧∃ key v o n,s.heap.get? q.1=some o∧o.cls= .type "tuple"∧o.data= .seq #[key,v] n∧(cH X.prog X.w).is q.2.1 key=true∧RelV q.2.2 v:=fun i q hq=>by
  obtain ⟨u,hu,ru⟩:=Vals.get (x:=V.ref q.1) rv (by rw [List.getElem?_map,hq];rfl)
  cases ru
  refine ⟨hu,?_⟩
  have e:=ht q (List.mem_of_getElem? hq)
  obtain ⟨_,us,rt,it⟩:=I.hok _ _ e
  obtain ⟨a,b,rfl,ra,rb⟩:=Vals.two rt
  obtain ⟨o,ho,hcl,n,hda⟩:=it
  exact ⟨a,b,o,n,ho,hcl,hda,CB ra,rb⟩
 obtain ⟨vs,hvs⟩:∃ vs:List (Key×Value),vs=(List.range ps.length).map fun i=>match ps[i]? with
  | some q=>(q.2.1,match s.heap.get? q.1 with | some o=>(match o.data with | .seq xs _=>xs.getD 1 .none | _=> .none) | none=> .none)
  | none=>(.inl 0,.none):=⟨_,rfl⟩
 have hv:∀ (i:Nat) q,ps[i]? =some q→∃ key v o n,vs[i]? =some (q.2.1,v)∧s.heap.get? q.1=some o∧o.cls= .type "tuple"∧o.data= .seq #[key,v] n∧(cH X.prog X.w).is q.2.1 key=true∧RelV q.2.2 v:=fun i q hq=>by
  obtain ⟨_,key,v,o,n,e,e2,e3,k,rv⟩:=get i q hq
  have hi:=(List.getElem?_eq_some_iff.mp hq).1
  refine ⟨key,v,o,n,?_,e,e2,e3,k,rv⟩
  rw [hvs,List.getElem?_map,List.getElem?_range hi]
  show some (match ps[i]? with | some q=>_ | none=>_)=_
  rw [hq]
  show some (q.2.1,match s.heap.get? q.1 with | some o=>_ | none=>_)=_
  rw [e]
  show some (q.2.1,match o.data with | .seq xs _=>_ | _=>_)=_
  rw [e3];rfl
 have lv:vs.length=ps.length:=by rw [hvs,List.length_map,List.length_range]
 clear hvs
 have keys:vs.map (·.1)=ps.map fun q=>q.2.1:=by
  apply List.ext_getElem?;intro i
  rw [List.getElem?_map,List.getElem?_map]
  cases hq:ps[i]? with
  | none=>rw [List.getElem?_eq_none (by rw [lv];exact List.getElem?_eq_none_iff.mp hq)];rfl
  | some q=>obtain ⟨_,v,_,_,e,_⟩:=hv i q hq;rw [e];rfl
 have kv:KV (ps.map (·.2)) vs:=by
  refine qb (by rw [List.length_map,lv]) fun i a b ha hb=>?_
  rw [List.getElem?_map] at ha
  obtain ⟨q,hq,rfl⟩:=Option.map_eq_some_iff.mp ha
  obtain ⟨_,v,_,_,e,_,_,_,_,rv⟩:=hv i q hq
  rw [e] at hb
  cases hb
  exact ⟨rfl,rv⟩
 refine rF (knd:=cH X.prog X.w) (its:=its.toArray) (c:=c) (more:=vs) (tup:=fun i=>match ps[i]? with | some q=>q.1 | none=>0) (I.ok.hd hc) el (by rw [lv,ll];simp) (by simpa using (ll ▸ z)) (fun i v e=>?_) (fun i kv' e=>?_) (by rw [keys];exact nd) fun h' tk hd hk=>?_
 ·have hi:i < ps.length:=by rw [ll];have:=(Array.getElem?_eq_some_iff.mp e).1;simpa using this
  obtain ⟨q',hq⟩:∃ q',ps[i]? =some q':=⟨_,List.getElem?_eq_getElem hi⟩
  have e2:=(get i q' hq).1
  have e:its[i]? =some v:=by simpa using e
  rw [e2] at e
  cases e
  rw [hq]
 ·have hi:i < ps.length:=by rw [← lv];exact (List.getElem?_eq_some_iff.mp e).1
  obtain ⟨q',hq⟩:∃ q',ps[i]? =some q':=⟨_,List.getElem?_eq_getElem hi⟩
  obtain ⟨key,v,o,n,e1,e2,e3,e4,e5,_⟩:=hv i q' hq
  rw [e1] at e
  cases e
  rw [hq]
  exact ⟨key,o,n,e2,e3,e4,e5⟩
 ·refine ⟨.ref s.heap.objs.size,_,I.laid (t':=tk) hk (Nat.le_refl _) (show dh X.prog X.w _ h' _ (.dK (ps.map (·.2))) from ⟨by rw [List.length_map];exact z,beq_eq_false_iff_ne.mpr fun e=>absurd e.symm (Nat.ne_of_lt I.big),vs,kv,hd⟩),rfl,q _ (I.hok.fresh (Nat.le_refl _))⟩
end
section
variable {H:Hp} {Q:VK}
theorem Ev {l:Addr} {ps:List (Addr×Key×V)} (e:H l=some (.lst (ps.map fun q=>V.ref q.1))) (ht:∀ q∈ps,H q.1=some (.tup [kV q.2.1,q.2.2])) (nd:(ps.map fun q=>q.2.1).Nodup) (h:∀ d H2,H d=none→Same H H2→H2 d=some (.dK (ps.map (·.2)))→Q (.ref d) H2):ID [.ref l] H Q:=⟨l,ps,rfl,e,ht,nd,fW h⟩
end
end L2
namespace PySem
section
variable {M:Model} {A:Around} {E:Value→Shared→Prop} {env:Env} {s:Shared}
variable {nm q:Str} {C N:Addr} {bs bm:List Value} {hdct:Bool} {sn:List Str} {sub:List Value} {ab:Bool} {col:Option Bool} {dd:Option Addr} {k0 k1 k2 k3 k5:Option Value} {newId:String}
theorem km {x:Sem Value} {Q:Flow→Shared→Prop} (hbase:bm.contains (.type "BaseException")=true) (hh:A.handled=none)
  (h:wpAny M A x (fun v s₁=>∃ e t dx,v= .ref e∧s₁.heap.get? C=some (excClassObj nm q C N bs bm hdct sn sub ab col dd k0 k1 k2 k3 k5 newId)∧
   s₁.heap.get? e=some {cls:= .ref C,dict:=dx,data:= .fields #[.ref t,.none,.none,.none,.bool false,.none]}∧E (.ref e) s₁) E s):
  wpAny M A (raiseStmt env (some x) none) Q E s:=by
 have hcB:(Value.ref C::bm).contains (.type "BaseException")=true:=by rw [List.contains_cons,hbase,Bool.or_true]
 unfold raiseStmt
 refine wpAny_bind (wpAny_mono h (fun v s₁ h₁=>?_) fun _ _ x=>x)
 obtain ⟨e,t,dx,rfl,hC,he,hE⟩:=h₁
 obtain ⟨hp,g,d,tk,os⟩:=s₁
 repeat (first | with_reducible refine wpAny_loadPart_at he ?_ | with_reducible refine wpAny_loadPart_at hC ?_ | (with_reducible refine wpAny_isSubtype_exc hC ?_;rw [hcB]) | wp_step)
 exact wpAny_raiseNew_none hh hE
theorem AK {x:Expr} {pos:Pos} {Q:Flow→Shared→Prop} (hbase:bm.contains (.type "BaseException")=true) (hh:A.handled=none)
  (h:wpAny M A (eval x env) (fun v s₁=>∃ e t dx,v= .ref e∧s₁.heap.get? C=some (excClassObj nm q C N bs bm hdct sn sub ab col dd k0 k1 k2 k3 k5 newId)∧
   s₁.heap.get? e=some {cls:= .ref C,dict:=dx,data:= .fields #[.ref t,.none,.none,.none,.bool false,.none]}∧E (.ref e) s₁) E s):
  wpAny M A (exec (.Raise (some x) none pos) env) Q E s:=by
 rw [arm_exec_Raise]
 first
  | exact wpAny_bind (wpAny_standAt (km hbase hh (wpAny_bind (wpAny_mono h (fun v s₁ h₁=>wpAny_bind (wpAny_standAt (wpAny_pure h₁))) fun _ _ x=>x))))
  | (simp only [evalOpt,Option.map];exact wpAny_bind (wpAny_standAt (km hbase hh (wpAny_bind (wpAny_mono h (fun v s₁ h₁=>wpAny_bind (wpAny_standAt (wpAny_pure h₁))) fun _ _ x=>x)))))
  | (show wpAny M A (do standAt pos;raiseStmt env (some (do let v ← eval x env;standAt pos;pure v)) none) Q E s;exact wpAny_bind (wpAny_standAt (km hbase hh (wpAny_bind (wpAny_mono h (fun v s₁ h₁=>wpAny_bind (wpAny_standAt (wpAny_pure h₁))) fun _ _ x=>x)))))
end
end PySem
namespace L2
open PySem PySem.Spec PyProof.Rows
noncomputable def del (H:Hp) (p:Addr):Hp:=fun b=>if b=p then none else H b
theorem Bn {H:Hp} {p:Addr}:del H p p=none:=if_pos rfl
theorem yE {H:Hp} {p b:Addr} (h:b≠p):del H p b=H b:=if_neg h
theorem pO {H:Hp} {p b:Addr} (h:H b=none):del H p b=none:=by unfold del;split;rfl;exact h
theorem l3 {H:Hp} {p b:Addr} {o u:HO} (e:H p=some o) (h:H b=some u) (n:o≠u):del H p b=some u:=by
 rw [yE fun z=>by subst z;rw [e] at h;cases h;exact n rfl];exact h
section
variable {X:Cx} {pins:List (Addr×Obj)} {σ:St} {H:Hp} {s:Shared} {p:Addr}
theorem Inv.untrack {φ:Heap→Prop} (I:Inv X pins σ H s) (e:H p=some (.ext φ)):Inv X pins σ (del H p) s:=by
 have U:=I.base
 refine ⟨I.ok,I.os,I.bare,⟨U.keep,U.slot,fun b ob q n hx=>pO (U.free b ob q n hx),U.there,fun b xs q=>l3 e (U.tups b xs q) (fun z=>by cases z),fun b o u q=>l3 e (U.frzs b o u q) (fun z=>by cases z),fun b ps q=>?_⟩,I.loc,I.cell,pO I.free,fun y c q=>pO (I.freeC y c q),fun p' hp=>?_,fun b ob q=>?_,I.len⟩
 ·obtain ⟨m,q'⟩:=U.tbls b ps q
  exact ⟨m,l3 e q' (fun z=>by cases z)⟩
 ·obtain ⟨q,n,r⟩:=I.pin p' hp
  exact ⟨q,pO n,r⟩
 ·by_cases z:b=p
  ·rw [z,Bn] at q;cases q
  ·rw [yE z] at q
   exact (I.hok b ob q).stay (fun _ _ _ q=>q) (fun c q=>l3 e q (fun z=>by cases z)) fun c xs q=>l3 e q (fun z=>by cases z)
noncomputable def DR (C:Addr) (sp:Sp) (E:XK) (Wx:XW) (t:TA):TS:=fun _ σ H=>t σ H fun vs H1=>∃ v,vs=[v]∧∀ x,H1 x=none→sp [.ref x,v] (upd H1 x (ExcF x C none)) (fun v H2=>v= .non∧∃ dx,H2 x=some (ExcF x C dx)∧Wx σ (.ref C) dx (del H2 x)) E
noncomputable def wI (C:Addr) (sp:Sp) (E:XK) (Wx:XW) (σ:St) (vs:List V) (H:Hp):Prop:=∃ v,vs=[v]∧∀ x,H x=none→sp [.ref x,v] (upd H x (ExcF x C none)) (fun v H2=>v= .non∧∃ dx,H2 x=some (ExcF x C dx)∧Wx σ (.ref C) dx (del H2 x)) E
theorem AW {C:Addr} {sp:Sp} {E:XK} {Wx:XW} {t:TA} {D:Ends} (h:t σ H (wI C sp E Wx σ)):DR C sp E Wx t D σ H:=h
theorem BV {C:Addr} {sp:Sp} {E:XK} {Wx:XW} {v:V} (h:∀ x H2,H x=none→Same H H2→H2 x=some (ExcF x C none)→sp [.ref x,v] H2 (fun v H2=>v= .non∧∃ dx,H2 x=some (ExcF x C dx)∧Wx σ (.ref C) dx (del H2 x)) E):wI C sp E Wx σ [v] H:=
 ⟨v,rfl,fun x f=>h x _ f (fun b o e=>by rw [aq (aj e f)];exact e) au⟩
theorem EM {C W f:Addr} {CX:CXT} {k:Nat} {fd:FuncData} {ps:List Str} {sp:Sp} {E:XK} {Wx:XW} {x:Str} {np cpos pos:Pos} {e:Expr} {es:List Expr} {t:TA} (M:XOwn X.K C W f) (F:FnOk X.prog X.w X.K X.mg X.base CX k f fd ps sp) (hr:Room (k + 1) X.A) (hg:Gl X x) (hm:X.mg x=some (.ref C))
  (hb:bP X.K fd ps []) (hx:oz CX X E) (ht:Thr X Wx) (hc:X.calm=true) (ha:PA X (e::es) t)
  (hdb:(x == ("__debug__":Str))=false:=by decide) (he:starEach (e::es) X.env=(false,eval e X.env)::starEach es X.env:=by rfl) (hpl:(backTo cpos (starEach es X.env)).any (·.1)=false:=by rfl):
  PS X (.Raise (some (.Call (.Name x np) (e::es) [] cpos)) none pos) (DR C sp E Wx t):=by
 intro pins s σ H D I h
 obtain ⟨nm,qn,N,bs,sn,sub,ab,col,dd,k0,k1,k2,k3,k5,lk⟩:=M.lk
 refine AK (C:=C) (nm:=nm) (q:=qn) (N:=N) (bs:=bs) (bm:= .ref W::xBM) (hdct:=true) (sn:=sn) (sub:=sub) (ab:=ab) (col:=col) (dd:=dd) (k0:=k0) (k1:=k1) (k2:=k2) (k3:=k3) (k5:=k5) (newId:="ValueError.__new__") (by simp) (I.ok.hd hc) ?_
 refine wpAny_Call_Name_kw (jx I hg hm ?_ hdb)
 refine PySem.W.callWith_K (h₀:=X.base) I.ok.mod.kin M.kp (thn (ha cpos pins s σ H _ I h) fun us s1 ⟨vs,H1,I1,r,v,ev,q⟩=>⟨I1.kIn,?_⟩) he hpl
 subst ev
 have hC:=I1.kIn _ _ lk
 have T:OwnTail s1.heap xBM (.ref W::xBM):=PySem.W.tail_of_in I1.kIn (DQ M.up)
 have KI:=I1.kIn
 obtain ⟨hh,g,d,tk,os⟩:=s1
 refine FX PySem.F.excBase_ValueError T KI hC M.init (beq_iff_eq.mp M.fn) (fun h' e m=>?_) (by show us.length≤_;rw [← r.length];exact Bf)
 obtain ⟨tt,q1,q2,q3⟩:=m.there
 obtain ⟨I2,f2⟩:=Ke I1 m
 have I3:=I2.track f2.fe (Ah q1)
 have hq:=q e f2.fe.1
 have r2:Vals [V.ref e,v] (Value.ref e::us):= .cons rfl r
 have hl:(Value.ref e::us++[]).length=ps.length:=by
  have z:=r2.length
  rw [F.len _ _ _ _ hq] at z
  rw [List.append_nil]
  exact z.symm
 have bd:=hb _ (Value.ref e::us) I3.kIn hl
 rw [List.append_nil] at bd
 refine wpAny_call (codeAny_mono (F.run _ X.stack _ _ ⟨Value.ref e::us,[]⟩ (Value.ref e::us) _ _ E (hr.make C us []) (I3.env0.make C us []) bd r2 hq) fun r s' hq'=>?_)
 cases r with
 | error e=>exact hx pins σ _ _ e s' I3 hq'
 | ok fl=>
   cases fl with
   | ret u=>
     obtain ⟨v,H',I4,rv,ev,dx,hp,wq⟩:=I3.after hq'
     subst ev
     obtain ⟨⟨t4,e4⟩,_⟩:=I4.hok e _ hp
     obtain ⟨f0,f1,f2',f3,f4,f5⟩:=f2.fe
     exact ⟨rv,e,t4,dx,rfl,I4.kIn _ _ lk,e4,ht _ _ ⟨pins,e,.ref C,dx,none,σ,del H' e,rfl,I4.untrack hp,⟨⟨_,_,e4,rfl,rfl,rfl,by simp,by simp⟩,⟨Bn,f1,f2',f3,f4,f5⟩,fun t fl z=>by cases z⟩,wq⟩⟩
   | next=>exact False.elim hq'
   | brk=>exact False.elim hq'
   | cont=>exact False.elim hq'
end
noncomputable def ExcC (H:Hp) (p C:Addr) (fs:List (Str×V)):Prop:=∃ d,H p=some (ExcO p (.ref C) (some d))∧H d=some (.xd fs)
section
variable {X:Cx} {pins:List (Addr×Obj)} {σ:St} {H:Hp} {s:Shared} {p C:Addr} {fs:List (Str×V)}
theorem ExcC.inst (I:Inv X pins σ H s) (e:ExcC H p C fs):∃ (ox o:Obj) (mA:Str→Option Value),PySem.W.InstAt s.heap p ox C (some o)∧(∀ n,PySem.W.lookIn n o=some (mA n))∧∀ n,RelO (fs.lookup n) (mA n):=by
 obtain ⟨d,a,b⟩:=e
 obtain ⟨⟨oe,vs,e0,e1,e2,e3⟩,_⟩:=I.hok p _ a
 obtain ⟨mA,ns,r⟩:=I.hok d _ b
 obtain ⟨od,ho,hl⟩:=x9 ns
 exact ⟨oe,od,mA,⟨e0,e1,by unfold PySem.W.notCls;rw [e3],by rw [e2];exact ho⟩,hl,r⟩
noncomputable def K4 (K:PySem.W.Frag) (ta:TE) (f:Str):TE:=fun σ H Q=>ta σ H fun x H1=>∃ p C fs v,x= .ref p∧ExcC H1 p C fs∧XIsi K C∧PySem.W.hasDictIn K C=true∧ar K C f∧fs.lookup f=some v∧Q v H1
noncomputable def Ja (K:PySem.W.Frag) (f:Str) (Q:VK) (x:V) (H:Hp):Prop:=∃ p C fs v,x= .ref p∧ExcC H p C fs∧XIsi K C∧PySem.W.hasDictIn K C=true∧ar K C f∧fs.lookup f=some v∧Q v H
theorem Iw {K:PySem.W.Frag} {f:Str} {te:TE} {Q:VK} (h:te σ H (Ja K f Q)):K4 K te f σ H Q:=h
theorem GY {K:PySem.W.Frag} {f:Str} {v:V} {Q:VK} (e:ExcC H p C fs) (c:XIsi K C) (d:PySem.W.hasDictIn K C=true) (n:ar K C f) (l:fs.lookup f=some v) (h:Q v H):Ja K f Q (.ref p) H:=⟨p,C,fs,v,rfl,e,c,d,n,l,h⟩
theorem JP {K:PySem.W.Frag} {e:Expr} {ta:TE} {f:Str} {pos:Pos} (h:X.K=K) (he:PE X e ta) (hb:attributeBase e f X.env (eval e X.env)=eval e X.env):PE X (.Attribute e f pos) (K4 K ta f):=by
 subst h
 intro pins s σ H Q I h
 refine F4 hb (thn (he pins s σ H _ I h) fun u s1 ⟨x,H1,I1,rx,p,C,fs,v,ex,ea,c,d,n,l,q⟩=>?_)
 subst ex
 obtain rfl:u=Value.ref p:=rx
 obtain ⟨ox,o,mA,J,hl,r⟩:=ea.inst I1
 obtain ⟨u',hu,ru⟩:=RelO.some_of (v:=v) (o:=mA f) (by rw [← l];exact r f)
 exact Kn I1.kIn c J (PySem.W.findObj_own (attr:=none) d n rfl (by rw [hl,hu])) (yo ru) ⟨v,H1,I1.tok _,ru,q⟩
end
inductive PH (X:Cx) (Wo:XW):List ExceptHandler→(Ends→XW)→Prop where
 | nil:PH X Wo [] (fun _=>Wo)
 | cons {G:Addr} {g n:Str} {i:Nat} {gp hp:Pos} {b₀:Stmt} {suite:List Stmt} {ts:TS} {hs:List ExceptHandler} {WR:Ends→XW} (cg:wP X.K G) (hg:Gl X g) (hm:X.mg g=some (.ref G)) (hi:X.N[i]? =some n) (hk:X.env.scope.names.lookup n=some .local)
   (hs':∀ pins e,PSs (X.mark pins e) (b₀::suite) ts) (hdb:(g == ("__debug__":Str))=false) (r:PH X Wo hs WR):PH X Wo (.ExceptHandler (some (.Name g gp)) (some n) (b₀::suite) hp::hs) (fun D=>WTry X.K G i (WR D) ts D)
theorem Nj {l:Addr} {ys:List V} {H:Hp} {Q:VK} (e:H l=some (.lst ys)) (h:∀ H2,Upd H H2 l (.lst ys.reverse)→Q .non H2):A5 (.ref l) [] H Q:=⟨l,ys,rfl,rfl,e,h _ Upd.of⟩
noncomputable def EB:V→List V→Hp→VK→Prop:=fun x vs H Q=>∃ (l:Addr) (zs:List Str) (z:Str) (j:Nat),x= .ref l∧vs=[.str z]∧H l=some (.lst (zs.map V.str))∧zs[j]? =some z∧(∀ i,i < j→zs[i]? ≠some z)∧Q (.int j) H
noncomputable def GE (m:Str):Value→Bool
 | .str i _=>i.cps.toList == m.cps.toList
 | _=>false
section
variable {X:Cx}
theorem x4:MtM X "list.index" EB:=by
 intro pins s σ H x xs v us Q I rx rs h
 obtain ⟨l,ns,m,j,rfl,rfl,hH,hj,hno,q⟩:=h
 cases rx
 obtain ⟨u,rfl,ru⟩:=Vals.one rs
 obtain ⟨t,rfl⟩:=ru
 obtain ⟨z,its,n,r,hl,e⟩:=I.lstM hH
 have at':∀ i:Nat,∀ (h:i < its.length),∃ k t,ns[i]? =some k∧its[i]= .str k t:=fun i h=>by
  have hi:i < ns.length:=by rw [List.length_map] at hl;omega
  obtain ⟨u,hu,ru⟩:=r.get (i:=i) (x:= .str ns[i]) (by rw [List.getElem?_map,List.getElem?_eq_getElem hi];rfl)
  obtain ⟨t,rfl⟩:=ru
  rw [List.getElem?_eq_getElem h] at hu
  exact ⟨ns[i],t,List.getElem?_eq_getElem hi,Option.some.inj hu⟩
 have hjl:j < its.length:=by
  have:=(List.getElem?_eq_some_iff.mp hj).1
  rw [List.length_map] at hl;omega
 refine call_meets F.slot_list_index ⟨_,e,rfl⟩ F.entry_list_index (F.args_list_index_2 _ _)
  (MeetsSeq.list_index l its.toArray n (.str m t) (GE m) ?_ j (by rw [List.size_toArray];exact hjl) (by have:sizeLine=sizeLine:=rfl;rw [sizeLine_eq] at *;omega) ?_ ?_) ⟨e,?_⟩
 ·intro y hy
  rw [List.mem_toArray] at hy
  obtain ⟨i,hi,rfl⟩:=List.mem_iff_getElem.mp hy
  obtain ⟨k,t2,_,ek⟩:=at' i hi
  rw [ek]
  exact SeqRoads2.EqGives.str k m t2 t
 ·obtain ⟨k,t2,hk,ek⟩:=at' j hjl
  rw [hj] at hk
  cases hk
  show GE m its[j]=true
  rw [ek];simp [GE]
 ·intro i hi hij
  rw [List.size_toArray] at hi
  obtain ⟨k,t2,hk,ek⟩:=at' i hi
  show GE m its[i]=false
  rw [ek]
  show (k.cps.toList == m.cps.toList)=false
  rw [beq_eq_false_iff_ne]
  intro e'
  have e':k=m:=by cases k;cases m;congr 1;exact Array.toList_inj.mp e'
  rw [e'] at hk
  exact hno i hij hk
 ·exact ⟨.int j,H,I.tok _,⟨_,rfl⟩,q⟩
end
theorem AX {l:Addr} {zs:List Str} {z:Str} {j:Nat} {H:Hp} {Q:VK} (e:H l=some (.lst (zs.map V.str))) (hj:zs[j]? =some z) (hn:∀ i,i < j→zs[i]? ≠some z) (h:Q (.int j) H):EB (.ref l) [.str z] H Q:=⟨l,zs,z,j,rfl,rfl,e,hj,hn,h⟩
structure KQ (osc:Scope) (ON N:List Str) (n:Nat) (fx:List Nat) (x0:Str) (sc:Scope):Prop where
 kind:sc.kind= .function
 one:∃ pre post,sc.names=pre++(x0,.cell)::post∧(∀ y∈pre,y.2≠.cell)∧∀ y∈post,y.2≠.cell
 its:sc.names.lookup x0=some .cell
 own:∀ y∈sc.names,y.2= .local→sc.names.lookup y.1=some .local
 fre:∀ y∈sc.names,y.2= .free→osc.names.lookup y.1=some .cell∨osc.names.lookup y.1=some .free
 len:N.length=n + fx.length
 frn:∀ k,k < fx.length→∃ x j,N[n + k]? =some x∧fx[k]? =some j∧ON[j]? =some x∧sc.names.lookup x=some .free
noncomputable def IB:List V→Hp→VK→Prop:=fun xs H Q=>∃ (p:Addr) (zs:List Str),xs=[.ref p]∧H p=some (.lst (zs.map V.str))∧zs.length < 64∧
 ∀ (l:Addr) (ss:List Str),H l=none→ss.Perm zs→sortedS ss=true→Q (.ref l) (upd H l (.lst (ss.map V.str)))
theorem wX:∀ {us:List Value} {ss:List Str},StrsAre us ss→Vals (ss.map V.str) us
 | _,_,.nil=> .nil
 | _,_,.cons y t h=> .cons ⟨t,rfl⟩ (wX h)
theorem uL {X:Cx}:i6 X (.builtin "sorted") IB:=by
 intro pins s σ H xs us Q I r h
 obtain ⟨p,zs,rfl,hp,h64,q⟩:=h
 obtain ⟨u,rfl,rx⟩:=rU r
 cases rx
 obtain ⟨z,its,n,rv,hl,e⟩:=I.lstM hp
 have hi:=BJ rv
 have hlen:its.length=zs.length:=by have:=rv.length;rw [List.length_map] at this;omega
 refine sorted_strs (vs:=its) ⟨_,e,rfl,n,rfl⟩ hi (by omega) fun out ss' h1 h2 h3=>?_
 obtain ⟨e',he'⟩:=sortedAll_at s.heap its out
 have hls:(ss'.map V.str).length≤sizeLine:=by rw [List.length_map,h2.length_eq];exact Nat.le_of_lt (bz (by omega))
 refine ⟨.ref (s.heap.objs.size + 1),_,I.laid (t':=s.toks) (fun b o eb=>sortedAll_old eb) (Nat.le_succ _) (show dh X.prog X.w _ _ _ (.lst (ss'.map V.str)) from ⟨hls,out.toList,e',wX h1,by simpa using he'⟩),rfl,q _ ss' (I.hok.fresh (Nat.le_succ _)) h2 h3⟩
theorem Et {p:Addr} {zs:List Str} {H:Hp} {Q:VK} (e:H p=some (.lst (zs.map V.str))) (h64:zs.length < 64) (h:∀ (l:Addr) (ss:List Str) (H2:Hp),H l=none→Same H H2→H2 l=some (.lst (ss.map V.str))→ss.Perm zs→sortedS ss=true→Q (.ref l) H2):IB [.ref p] H Q:=
 ⟨p,zs,rfl,e,h64,fun l ss hl hp hw=>h l ss _ hl (bF hl) au hp hw⟩
theorem Fb:∀ {a b:List Nat},ltCps a b=false→ltCps b a=false→a=b
 | [],[],_,_=>rfl
 | [],b::bs,h,_=>by simp [ltCps] at h
 | a::as,[],_,h=>by simp [ltCps] at h
 | a::as,b::bs,h1,h2=>by
   simp only [ltCps] at h1 h2
   by_cases h:a=b
   ·subst h
    simp at h1 h2
    rw [Fb h1 h2]
   ·simp [h,Ne.symm h] at h1 h2
    omega
theorem Mo:∀ {a b c:List Nat},ltCps b a=false→ltCps c b=false→ltCps c a=false
 | a,b,[],h1,h2=>by
   cases b with
   | nil=>cases a with
     | nil=>rfl
     | cons x xs=>simp [ltCps] at h1;
   | cons y ys=>simp [ltCps] at h2
 | [],b,c::cs,h1,h2=>by simp [ltCps]
 | a::as,[],c::cs,h1,h2=>by simp [ltCps] at h1
 | a::as,b::bs,c::cs,h1,h2=>by
   simp only [ltCps] at h1 h2 ⊢
   by_cases hab:b=a
   ·subst hab
    by_cases hbc:c=b
    ·subst hbc
     simp at h1 h2 ⊢
     exact Mo h1 h2
    ·simp [hbc] at h2 ⊢;exact h2
   ·simp [hab] at h1
    by_cases hbc:c=b
    ·subst hbc
     simp [hab];exact h1
    ·simp [hbc] at h2
     have:c≠a:=by omega
     simp [this];omega
theorem ut:∀ (l:List Str) (p:Str),risingS p l=true→∀ x∈l,ltCps x.cps.toList p.cps.toList=false
 | [],_,_,x,hx=>by cases hx
 | y::l,p,h,x,hx=>by
   simp only [risingS,Bool.and_eq_true,Bool.not_eq_true'] at h
   rcases List.mem_cons.mp hx with e | e
   ·rw [e];exact h.1
   ·exact Mo h.1 (ut l y h.2 x e)
theorem xm:∀ (l:List Str) (p:Str),risingS p l=true→(p::l).Pairwise fun a b=>ltCps b.cps.toList a.cps.toList=false
 | [],p,_=>by simp
 | y::l,p,h=>by
   refine List.Pairwise.cons (ut _ _ h) ?_
   simp only [risingS,Bool.and_eq_true] at h
   exact xm l y h.2
theorem w6 {l:List Str} (h:sortedS l=true):l.Pairwise fun a b=>ltCps b.cps.toList a.cps.toList=false:=by
 cases l with
 | nil=>exact .nil
 | cons x l=>exact xm l x h
theorem La {x y:Str} (h:x.cps.toList=y.cps.toList):x=y:=by cases x;cases y;congr 1;exact Array.toList_inj.mp h
theorem ur:∀ {a b:List Str},a.Perm b→(a.Pairwise fun a b=>ltCps b.cps.toList a.cps.toList=false)→(b.Pairwise fun a b=>ltCps b.cps.toList a.cps.toList=false)→a=b
 | [],b,p,_,_=>p.symm.eq_nil.symm
 | x::a,[],p,_,_=>p.eq_nil
 | x::a,y::b,p,h1,h2=>by
   have e:x=y:=by
    have m1:x∈y::b:=p.mem_iff.mp List.mem_cons_self
    have m2:y∈x::a:=p.mem_iff.mpr List.mem_cons_self
    rcases List.mem_cons.mp m1 with e | e
    ·exact e
    ·rcases List.mem_cons.mp m2 with e' | e'
     ·exact e'.symm
     ·exact La (Fb ((List.pairwise_cons.mp h2).1 x e) ((List.pairwise_cons.mp h1).1 y e'))
   subst e
   rw [ur ((List.perm_cons x).mp p) (List.pairwise_cons.mp h1).2 (List.pairwise_cons.mp h2).2]
end L2
set_option autoImplicit false
namespace M
noncomputable def pb:Nat→Nat→Bool
 | 0,_=>false
 | w + 1,m=>(m.testBit w)^^(pb w m)
noncomputable def pl (w m:Nat):List Nat:=(List.range w).filter m.testBit
noncomputable def Span:List Nat→Nat→Prop
 | [],x=>x=0
 | r::rs,x=>Span rs x∨Span rs (x^^^r)
noncomputable def sm:List Nat→Nat→Nat
 | [],_=>0
 | r::rs,p=>(if p.testBit 0 then r else 0)^^^sm rs (p / 2)
noncomputable def Fre (rows:List Nat) (i:Nat):Prop:=i < rows.length∧¬ Span (rows.take i) (rows.getD i 0)
noncomputable def Frs (rows:List Nat) (q:Nat):Prop:=∀ i,q.testBit i=true→Fre rows i
structure Ech (es:List (Nat×Nat)) (rows:List Nat):Prop where
 nz:∀ e∈es,e.1≠0
 lt:∀ e∈es,e.2 < 2 ^ rows.length
 sm:∀ e∈es,sm rows e.2=e.1
 nd:(es.map fun e=>e.1.log2).Nodup
 all:∀ y,Span rows y→y≠0→∃ e∈es,e.1.log2=y.log2
 sub:∀ e∈es,Frs rows e.2
noncomputable def tt (p:Prop):Bool:=@decide p (Classical.propDecidable p)
noncomputable def fr (rows:List Nat):List Nat:=(List.range rows.length).filter fun i=> !tt (Span (rows.take i) (rows.getD i 0))
structure Nul (nms rows:List Nat):Prop where
 lt:∀ x∈nms,x < 2 ^ rows.length
 nz:∀ x∈nms,x≠0
 sm:∀ x∈nms,sm rows x=0
 pw:nms.Pairwise fun a b=>a.log2 < b.log2
 len:nms.length + (fr rows).length=rows.length
noncomputable def Inj (ws:List Nat):Prop:=∀ p,p < 2 ^ ws.length→sm ws p=0→p=0
structure Sums (ks rows:List Nat):Prop where
 nd:ks.Nodup
 all:∀ x,x∈ks↔Span rows x
end M
namespace Sx
open PySem L2
noncomputable abbrev nat (k:Nat):V:= .int (k:Int)
theorem kl {k:Nat} {A:Around} (r:Room k A):A.units + 100 < cLine:=by have:=r.un;omega
structure En where
 a:Addr
 m:Nat
 p:Nat
noncomputable def NJ (es:List En):List (Key×V):=es.map fun e=>(Sum.inl ((e.m.log2:Nat):Int),V.ref e.a)
theorem G3 {kvs:List (Key×V)} {k:Key} {v:V} (h:valV kvs k=none):putK kvs k v=kvs++[(k,v)]:=by
 unfold putK
 rw [kO,h]
 rfl
structure StA (H:Hp) (C p d f n:Addr) (rows:List Nat):Prop where
 ho:∃ dx,H p=some (.ins C dx [("by_top",.ref d),("free_places",.ref f),("null_masks",.ref n)])
 he:∃ es:List En,H d=some (.dK (NJ es))∧(∀ e∈es,H e.a=some (.tup [nat e.m,nat e.p]))∧M.Ech (es.map fun e=>(e.m,e.p)) rows∧es.length=(M.fr rows).length
 hf:H f=some (.lst ((M.fr rows).map nat))
 hn:∃ nms,H n=some (.lst (nms.map nat))∧M.Nul nms rows
 ne:f≠n
theorem aX {α:Type} {f:α→V} {ws:List α} {i:Nat} {x:V} (h:(ws.map f)[i]? =some x):∃ k,ws[i]? =some k∧x=f k:=by
 rw [List.getElem?_map] at h
 cases e:ws[i]? with
 | none=>rw [e] at h;cases h
 | some k=>rw [e] at h;exact ⟨k,rfl,(Option.some.inj h).symm⟩
theorem take_succ {α:Type} {ws:List α} {i:Nat} {w:α} (h:ws[i]? =some w):ws.take (i + 1)=ws.take i++[w]:=by rw [List.take_succ,h];rfl
theorem MB {A:Around} {k:Nat} (hr:Room k A):A.units < cLine:=by have:=hr.un;omega
noncomputable def AT (K:PySem.W.Frag):Sp:=fun vs H Q _=>∃ (a:Addr) (ns:List Int),vs=[.ref a]∧SqL K H a (ns.map V.int)∧ns.length≤63∧∀ H',Q (.bl true) H'
structure Prs (H:Hp) (ws:List Nat) (D:Addr) (ps:List (Addr×Nat)):Prop where
 l:H D=some (.lst (ps.map fun q=>V.ref q.1))
 t:∀ q∈ps,H q.1=some (.tup [nat q.2,nat (M.sm ws q.2)])
 b:∀ q∈ps,q.2 < 2 ^ ws.length
end Sx
namespace M
noncomputable def xs (rows ps:List Nat):Nat:=ps.foldl (fun a k=>a^^^rows.getD k 0) 0
end M
namespace Sx
open PySem L2
end Sx
namespace M
noncomputable abbrev od (m:Nat):Bool:=pb 1000 m
structure Bar (rows:List Nat) (b m:Nat):Prop where
 ev:∀ y,Span rows y→od (m&&&y)=false
 bit:m.testBit b=true
 low:∀ k,k < b→m.testBit k=false
 oth:∀ k,k≠b→(∀ y,Span rows y→y≠0→y.log2≠k)→m.testBit k=false
 lt:∀ W,(∀ r∈rows,r < 2 ^ W)→b < W→m < 2 ^ W
structure BarI (es:List (Nat×Nat)) (ts:List Nat) (b m:Nat):Prop where
 ev:∀ e∈es,e.1.log2∈ts→od (m&&&e.1)=false
 bit:m.testBit b=true
 low:∀ k,k < b→m.testBit k=false
 oth:∀ k,k≠b→(∀ e∈es,e.1.log2≠k)→m.testBit k=false
 lt:∀ W,(∀ e∈es,e.1 < 2 ^ W)→b < W→m < 2 ^ W
end M
namespace Sx
open PySem L2
noncomputable def cell (ns:List Int) (k:Int):Int:=if k < ns.length then ns.getD k.toNat 0 else 41 * k + 3
noncomputable def AU (K:PySem.W.Frag):Sp:=fun vs H Q _=>∃ (p:Addr) (ns:List Int) (k:Int),vs=[.ref p,.int k]∧SqL K H p (ns.map V.int)∧0≤k∧Q (.int (cell ns k)) H
theorem wx {K:PySem.W.Frag} {H:Hp} {Q:VK} {E:XK} {p:Addr} {ns:List Int} {k:Int} (e:SqL K H p (ns.map V.int)) (h0:0≤k) (q:Q (.int (cell ns k)) H):AU K [.ref p,.int k] H Q E:=⟨p,ns,k,rfl,e,h0,q⟩
noncomputable def NO (rows:List Nat) (b:Nat):Prop:=∀ y,M.Span rows y→y≠0→y.log2≠b
structure Acr (rows:List Nat) (wd:Nat) (ms:List Nat):Prop where
 len:ms.length + (M.fr rows).length=wd
 inj:M.Inj ms
 lt:∀ m∈ms,m < 2 ^ wd
 ev:∀ m∈ms,∀ y,M.Span rows y→M.od (m&&&y)=false
 all:∀ z,z < 2 ^ wd→(∀ y,M.Span rows y→M.od (z&&&y)=false)→M.Span ms z
end Sx
namespace M
noncomputable def cm (a b:Nat):Nat:=if b=0 then 0 else (if b % 2=1 then a else 0)^^^2 * cm a (b / 2)
termination_by b
decreasing_by omega
noncomputable def Dv (d x:Nat):Prop:=∃ q,cm q d=x
structure Rm (d x r:Nat):Prop where
 lt:r < 2 ^ d.log2
 dv:Dv d (x^^^r)
end M
namespace Sx
open PySem L2
noncomputable def dg (m:Nat):Int:=(Builtin.Int.intBits (m:Int):Int) - 1
end Sx
namespace M
structure Ord (d e:Nat):Prop where
 pos:1≤e
 one:Rm d (2 ^ e) 1
 least:∀ j,1≤j→j < e→¬ Rm d (2 ^ j) 1
 le:e≤2 ^ d.log2
end M
namespace Sx
open PySem L2
noncomputable def Mn (x:V) (w:Int):Bool:=match x with
 | .int i=>decide (0≤i)&&decide (((Builtin.Int.intBits i:Nat):Int)≤w)
 | _=>false
theorem iB {c m:Int} (h:0 < m):∃ k:Nat,c % m=(k:Int)∧(k:Int) < m:=by
 obtain ⟨k,hk⟩:=Int.eq_ofNat_of_zero_le (Int.emod_nonneg c (Int.ne_of_gt h))
 exact ⟨k,hk,by rw [← hk];exact Int.emod_lt_of_pos c h⟩
end Sx
namespace M
noncomputable def bn (b:Bool):Nat:=if b then 1 else 0
noncomputable def pk (s:Nat→Bool) (t:Nat):Nat→Nat
 | 0=>0
 | L + 1=>pk s t L^^^(if s (t + L) then 2 ^ L else 0)
noncomputable def lf (G:Nat):Nat→(Nat→Bool)→Nat→Bool
 | 0,_,_=>false
 | L + 1,s,t=>lf G L s t^^(G.testBit L&&s (t + L))
noncomputable def tr (as:List Nat) (x:Nat):Nat:=pk (fun k=>od (as.getD k 0&&&x)) 0 as.length
noncomputable def stt (as:List Nat) (x:Nat):Nat→Nat
 | 0=>x
 | t + 1=>tr as (stt as x t)
noncomputable def ans (as:List Nat) (o x t:Nat):Bool:=od (o&&&stt as x t)
noncomputable def lm (L G:Nat):List Nat:=(List.range (L - 1)).map (fun p=>2 ^ (p + 1))++(if 0 < L then [G] else [])
end M
namespace Sx
open PySem L2
noncomputable abbrev Pr3:=Addr×Nat×Nat
noncomputable def refs (ps:List Pr3):List V:=ps.map fun q=>V.ref q.1
noncomputable def Prt (H:Hp) (ps:List Pr3):Prop:=∀ q∈ps,H q.1=some (.tup [nat q.2.1,nat q.2.2])
structure MaA (H:Hp) (C p:Addr) (m:Nat) (nx os:List Pr3):Prop where
 ho:∃ dx tn to,H p=some (.ins C dx [("inputs",nat m),("nexts",.ref tn),("outs",.ref to)])∧H tn=some (.tup (refs nx))∧H to=some (.tup (refs os))
 hn:Prt H nx
 hs:Prt H os
noncomputable def sq (bs:List Bool):Nat→Bool:=fun i=>bs.getD i false
structure Tab (H:Hp) (n o:Addr) (m:Nat) (nx os:List Pr3):Prop where
 m6:m≤6
 n:H n=some (.lst (refs nx))
 o:H o=some (.lst (refs os))
 pn:Prt H nx
 po:Prt H os
 ln:nx.length≤120
 lo:os.length≤6
 bn:∀ q∈nx++os,q.2.1 < 2 ^ nx.length∧q.2.2 < 2 ^ m
structure Lfsr (nx os:List Pr3) (L G:Nat):Prop where
 nx:nx.map (fun q=>q.2.1)=M.lm L G
 os:∃ t,os=[(t,(if 0 < L then 1 else 0),0)]
noncomputable abbrev ms (nx:List Pr3):List Nat:=nx.map fun q=>q.2.1
theorem Kl {n j:Nat} (h:j < n):ixN n (j:Int)=some j:=by unfold ixN;rw [if_pos (Int.natCast_nonneg j),if_pos (by omega),Int.toNat_natCast]
theorem Lh {H:Hp} {Q:Hp→Prop} {p:Addr} {xs:List V} {j:Nat} {v:V} (e:H p=some (.lst xs)) (hj:j < xs.length) (h:∀ H2,Upd H H2 p (.lst (xs.set j v))→Q H2):JH (.ref p) (.int (j:Int)) v H Q:=
 ⟨p,xs,j,j,rfl,rfl,e,Kl hj,h _ Upd.of⟩
theorem Lz {σ:St} {H:Hp} {to ti:TE} {t:TSet} {v:V} {Q:St→Hp→Prop} (h:to σ H fun o H1=>ti σ H1 fun i H2=>t o i v H2 fun H3=>Q σ H3):gSub to ti t v σ H Q:=h
end Sx
namespace M
noncomputable def tr2 (ps:List (Nat×Nat)) (x r:Nat):Nat:=pk (fun k=>od ((ps.getD k (0,0)).1&&&x)^^od ((ps.getD k (0,0)).2&&&r)) 0 ps.length
noncomputable def wan (ps os:List (Nat×Nat)):Nat→List Nat→List Nat
 | _,[]=>[]
 | x,r::rs=>tr2 os x r::wan ps os (tr2 ps x r) rs
noncomputable def pulse (i T:Nat):List Nat:=(List.range T).map fun t=>if t=0 then 2 ^ i else 0
end M
namespace Sx
open PySem L2
structure MaG (m:Nat) (nx os:List Pr3):Prop where
 m6:m≤6
 ln:nx.length≤120
 lo:os.length≤6
 bn:∀ q∈nx++os,q.2.1 < 2 ^ nx.length∧q.2.2 < 2 ^ m
noncomputable abbrev prs (nx:List Pr3):List (Nat×Nat):=nx.map (·.2)
noncomputable def M3 (K:PySem.W.Frag) (H:Hp) (xs:List V):Prop:=∀ x∈xs,∃ k,tQ K H x k
theorem HW (xs:List V) (y:Nat) (hy:y≤xs.length):cutV xs none (some (y:Int))=xs.take y:=by
 unfold cutV
 rw [HT.sIx_nat,HT.sIx_none,Nat.min_eq_left hy,Nat.sub_zero,List.drop_zero]
structure NZ (K:PySem.W.Frag) (H:Hp) (C p rr:Addr) (m:Nat) (nx os:List Pr3) (x:V) (xs:List V):Prop where
 ma:MaA H C p m nx os
 g:MaG m nx os
 kx:∃ k,tQ K H x k
 sq:SqL K H rr xs
 ks:M3 K H xs
 ln:xs.length≤1000
structure TabT (H:Hp) (t n o:Addr) (m:Nat) (nx os:List Pr3):Prop where
 t:H t=some (.tup [nat m,.ref n,.ref o])
 tab:Tab H n o m nx os
theorem HY (xs:List V) (k:Nat) (h:k≤xs.length):cutV xs (some (k:Int)) none=xs.drop k:=by
 unfold cutV
 rw [HT.sIx_nat,HT.sIx_none,Nat.min_eq_left h]
 exact List.take_of_length_le (by rw [List.length_drop];exact Nat.le_refl _)
end Sx
namespace M
noncomputable def bkI (A:List Nat) (s:Nat):Nat→Nat
 | 0=>s
 | i + 1=>sm A (bkI A s i)
end M
namespace Sx
open PySem L2
noncomputable abbrev nA (nx:List Pr3):List Nat:=nx.map fun q=>q.2.1
theorem p4 {K:PySem.W.Frag} {H:Hp} {α:Type} (f:α→V) (g:α→Dt) (r:∀ x,Rep K H (f x) (g x)) (xs:List α):∀ (i:Nat) x d,(xs.map f)[i]? =some x→(xs.map g)[i]? =some d→Rep K H x d:=by
 intro i x d h1 h2
 rw [List.getElem?_map] at h1 h2
 cases e:xs[i]? with
 | none=>rw [e] at h1;cases h1
 | some y=>rw [e] at h1 h2;cases h1;cases h2;exact r y
theorem Lk {K:PySem.W.Frag} {te:TE} {σ:St} {H:Hp} {Q:VK} (h:te σ H fun x H1=>∃ a xs,x= .ref a∧SqL K H1 a xs∧∀ l,H1 l=none→Q (.ref l) (upd H1 l (.lst xs.reverse))):tRev K te σ H Q:=h
noncomputable def low (c:Nat):Bool:=decide (97≤c)&&decide (c≤122)
noncomputable def fig (c:Nat):Bool:=decide (48≤c)&&decide (c≤57)
noncomputable def nm (l:List Nat):Bool:=match l with
 | []=>false
 | c::r=>decide ((c::r).length≤6)&&low c&&(c::r).all fun c=>low c||fig c
noncomputable def J0 (x:V):Bool:=match x with
 | .str z=>nm z.cps.toList
 | _=>false
noncomputable def Nm (z:Str):Prop:=nm z.cps.toList=true
noncomputable def Eb (K:PySem.W.Frag):Sp:=fun vs H Q _=>∃ x k,vs=[x]∧tQ K H x k∧(∀ z,x= .str z→z.length≤1000)∧∀ H',Same H H'→Q (.bl (J0 x)) H'
theorem memL (c:Nat):decide (c∈("abcdefghijklmnopqrstuvwxyz":Str).cps.toList)=low c:=by
 have e:("abcdefghijklmnopqrstuvwxyz":Str).cps.toList=List.range' 97 26:=by decide +kernel
 rw [e]
 unfold low
 rw [Bool.eq_iff_iff,Bool.and_eq_true,decide_eq_true_eq,decide_eq_true_eq,decide_eq_true_eq,List.mem_range']
 constructor
 ·rintro ⟨i,h,rfl⟩;omega
 ·rintro ⟨h1,h2⟩;exact ⟨c - 97,by omega,by omega⟩
theorem memN (c:Nat):decide (c∈("abcdefghijklmnopqrstuvwxyz0123456789":Str).cps.toList)=(low c||fig c):=by
 have e:("abcdefghijklmnopqrstuvwxyz0123456789":Str).cps.toList=List.range' 97 26++List.range' 48 10:=by decide +kernel
 rw [e]
 unfold low fig
 rw [Bool.eq_iff_iff,Bool.or_eq_true,Bool.and_eq_true,Bool.and_eq_true,decide_eq_true_eq,decide_eq_true_eq,decide_eq_true_eq,decide_eq_true_eq,decide_eq_true_eq,List.mem_append,List.mem_range',List.mem_range']
 constructor
 ·rintro (⟨i,h,rfl⟩ | ⟨i,h,rfl⟩)
  ·left;omega
  ·right;omega
 ·rintro (⟨h1,h2⟩ | ⟨h1,h2⟩)
  ·exact .inl ⟨c - 97,by omega,by omega⟩
  ·exact .inr ⟨c - 48,by omega,by omega⟩
theorem Be (z:Str):z.cps.toList.length=z.length:=by simp [Str.length]
theorem DY {z:Str}:z=""↔z.cps.toList=[]:=by
 constructor
 ·rintro rfl;decide +kernel
 ·intro h;cases z with | mk c=>cases c with | mk l=>have h:l=[]:=h;subst h;decide +kernel
theorem Nm.len {z:Str} (h:Nm z):z.length≤6:=by
 have h:nm z.cps.toList=true:=h
 have l:=Be z
 cases e:z.cps.toList with
 | nil=>rw [e] at l;rw [← l];decide
 | cons c r=>
   rw [e] at h l
   unfold nm at h
   rw [Bool.and_eq_true,Bool.and_eq_true] at h
   have:=of_decide_eq_true h.1.1
   omega
theorem c_nm {K:PySem.W.Frag} {H:Hp} {Q:VK} {E:XK} {z:Str} (h:Nm z) (q:∀ H',Same H H'→Q (.bl true) H'):Eb K [.str z] H Q E:=⟨_,"str",rfl,rfl,fun z' e=>by cases e;have:=h.len;omega,fun H' s=>by show Q (.bl (nm z.cps.toList)) H';rw [show nm z.cps.toList=true from h];exact q H' s⟩
noncomputable def GQ (K:PySem.W.Frag):Sp:=fun vs H Q _=>∃ x C dx nm,vs=[.ref x,nm]∧Cls K C∧ar K C "name"∧H x=some (.ins C dx [])∧∀ H2,Upd H H2 x (.ins C dx [("name",nm)])→Q .non H2
noncomputable def GP (C:Addr):Sp:=fun vs H Q _=>∃ x dx nm k,vs=[.ref x,nm,k]∧H x=some (.ins C dx [])∧∀ H2,Upd H H2 x (.ins C dx [("name",nm),("number",k)])→Q .non H2
noncomputable def GO (C:Addr):Sp:=fun vs H Q _=>∃ x dx nm w k,vs=[.ref x,nm,w,k]∧H x=some (.ins C dx [])∧∀ H2,Upd H H2 x (.ins C dx [("name",nm),("wire",w),("number",k)])→Q .non H2
structure Nt where
 ins:List Str
 sums:List (Str×List Str)
 sts:List (Str×Str)
 outs:List Str
noncomputable def Nt.names (N:Nt):List Str:=N.ins++N.sums.map (·.1)++N.sts.map (·.1)
structure Gn (N:Nt):Prop where
 li:N.ins.length≤6
 ls:N.sums.length≤40
 lt:N.sts.length≤16
 lo:N.outs.length≤6
 lw:∀ r∈N.sums,r.2.length≤24
 nm:∀ z∈N.names,Nm z
 nd:N.names.Nodup
 ws:∀ r∈N.sums,∀ z∈r.2,z∈N.names
 ts:∀ r∈N.sts,r.2∈N.names
 os:∀ z∈N.outs,z∈N.names
 rk:∃ rank:Str→Nat,∀ r∈N.sums,∀ z∈r.2,z∈N.sums.map (·.1)→rank z < rank r.1
structure Topo (sums:List (Str×List Str)) (od:List Str):Prop where
 perm:od.Perm (sums.map (·.1))
 need:∀ (i:Nat) z,od[i]? =some z→∀ ws,(z,ws)∈sums→∀ y∈ws,y∈sums.map (·.1)→y∈od.take i
noncomputable abbrev Rw:=Addr×Addr×Str×List Str
noncomputable abbrev Qs:=Addr×Str×Str
structure Hnd (H:Hp) (i s t o:Addr) (rs:List Rw) (qs:List Qs) (N:Nt):Prop where
 i:H i=some (.lst (N.ins.map V.str))
 s:H s=some (.lst (rs.map fun r=>V.ref r.1))
 sr:∀ r∈rs,H r.1=some (.tup [.str r.2.2.1,.ref r.2.1])∧H r.2.1=some (.lst (r.2.2.2.map V.str))
 es:rs.map (·.2.2)=N.sums
 t:H t=some (.lst (qs.map fun q=>V.ref q.1))
 tr:∀ q∈qs,H q.1=some (.tup [.str q.2.1,.str q.2.2])
 et:qs.map (·.2)=N.sts
 o:H o=some (.lst (N.outs.map V.str))
theorem Hnd.same {H H2:Hp} {i s t o:Addr} {rs:List Rw} {qs:List Qs} {N:Nt} (x:Hnd H i s t o rs qs N) (h:Same H H2):Hnd H2 i s t o rs qs N:=⟨h.get x.i,h.get x.s,fun r m=>⟨h.get (x.sr r m).1,h.get (x.sr r m).2⟩,x.es,h.get x.t,fun q m=>h.get (x.tr q m),x.et,h.get x.o⟩
structure Kpt (H:Hp) (i s t o:Addr) (rs:List Rw) (qs:List Qs) (N:Nt):Prop where
 i:H i=some (.tup (N.ins.map V.str))
 s:H s=some (.tup (rs.map fun r=>V.ref r.1))
 sr:∀ r∈rs,H r.1=some (.tup [.str r.2.2.1,.ref r.2.1])∧H r.2.1=some (.tup (r.2.2.2.map V.str))
 es:rs.map (·.2.2)=N.sums
 t:H t=some (.tup (qs.map fun q=>V.ref q.1))
 tr:∀ q∈qs,H q.1=some (.tup [.str q.2.1,.str q.2.2])
 et:qs.map (·.2)=N.sts
 o:H o=some (.tup (N.outs.map V.str))
theorem Kpt.same {H H2:Hp} {i s t o:Addr} {rs:List Rw} {qs:List Qs} {N:Nt} (x:Kpt H i s t o rs qs N) (h:Same H H2):Kpt H2 i s t o rs qs N:=⟨h.get x.i,h.get x.s,fun r m=>⟨h.get (x.sr r m).1,h.get (x.sr r m).2⟩,x.es,h.get x.t,fun q m=>h.get (x.tr q m),x.et,h.get x.o⟩
noncomputable def Ej:Sp:=fun vs H Q _=>∃ (l:Addr) (zs:List Str),vs=[.ref l]∧H l=some (.lst (zs.map V.str))∧zs.length≤1000∧zs.Nodup∧(∀ z∈zs,Nm z)∧∀ H2,Same H H2→Q .non H2
noncomputable def Knw (H:Hp) (d:Addr) (zs:List Str):Prop:=∃ kvs:List (Key×V),H d=some (.dK kvs)∧kvs.map (·.1)=zs.map Sum.inr
theorem Knw.same {H H2:Hp} {d:Addr} {zs:List Str} (x:Knw H d zs) (h:Same H H2):Knw H2 d zs:=let ⟨k,e,f⟩:=x;⟨k,h.get e,f⟩
noncomputable def Eh:Sp:=fun vs H Q _=>∃ (i s t o d:Addr) (rs:List Rw) (qs:List Qs) (N:Nt),vs=[.ref s,.ref t,.ref o,.ref d]∧Kpt H i s t o rs qs N∧Gn N∧Knw H d N.names∧∀ H2,Same H H2→Q .non H2
theorem pG {kvs:List (Key×V)} {zs:List Str} (e:kvs.map (·.1)=zs.map Sum.inr) (z:Str):(valV kvs (Sum.inr z)).isSome=decide (z∈zs):=by
 cases h:valV kvs (Sum.inr z) with
 | none=>
   have:=GD h
   rw [e] at this
   rw [decide_eq_false fun m=>this (List.mem_map.mpr ⟨z,m,rfl⟩)];rfl
 | some v=>
   have:=Jj h
   rw [e] at this
   obtain ⟨y,hy,ey⟩:=List.mem_map.mp this
   cases ey
   rw [decide_eq_true hy];rfl
theorem JK {kvs:List (Key×V)} {zs:List Str} (e:kvs.map (·.1)=zs.map Sum.inr) {z:Str} (h:z∉zs) (v:V):putK kvs (Sum.inr z) v=kvs++[(Sum.inr z,v)]:=by
 refine G3 ?_
 rw [← Option.not_isSome_iff_eq_none,pG e z,decide_eq_false h];exact Bool.false_ne_true
inductive Wob (H:Hp) (CI CS CT:Addr) (N:Nt) (z:Str) (w:Addr):Prop where
 | i (k:Nat) (dx:Addr) (hk:N.ins[k]? =some z) (e:H w=some (.ins CI dx [("name",.str z),("number",nat k)])):Wob H CI CS CT N z w
 | s (ws:List Str) (dx tw:Addr) (hk:(z,ws)∈N.sums) (e:H w=some (.ins CS dx [("name",.str z),("wires",.ref tw)])) (et:H tw=some (.tup (ws.map V.str))):Wob H CI CS CT N z w
 | t (k:Nat) (y:Str) (dx:Addr) (hk:N.sts[k]? =some (z,y)) (e:H w=some (.ins CT dx [("name",.str z),("wire",.str y),("number",nat k)])):Wob H CI CS CT N z w
theorem Wob.same {H H2:Hp} {CI CS CT:Addr} {N:Nt} {z:Str} {w:Addr} (x:Wob H CI CS CT N z w) (h:Same H H2):Wob H2 CI CS CT N z w:=by
 cases x with
 | i k dx hk e=>exact .i k dx hk (h.get e)
 | s ws dx tw hk e et=>exact .s ws dx tw hk (h.get e) (h.get et)
 | t k y dx hk e=>exact .t k y dx hk (h.get e)
theorem Wob.name {H:Hp} {CI CS CT:Addr} {N:Nt} {z:Str} {w:Addr} (x:Wob H CI CS CT N z w):∃ C dx fs,H w=some (.ins C dx (("name",.str z)::fs))∧(C=CI∨C=CS∨C=CT):=by
 cases x with
 | i k dx hk e=>exact ⟨_,_,_,e,.inl rfl⟩
 | s ws dx tw hk e et=>exact ⟨_,_,_,e,.inr (.inl rfl)⟩
 | t k y dx hk e=>exact ⟨_,_,_,e,.inr (.inr rfl)⟩
structure WiA (H:Hp) (CI CS CT d:Addr) (N:Nt) (ws:List (Str×Addr)):Prop where
 d:H d=some (.dK (ws.map fun q=>(Sum.inr q.1,V.ref q.2)))
 nm:ws.map (·.1)=N.names
 ob:∀ q∈ws,Wob H CI CS CT N q.1 q.2
theorem WiA.same {H H2:Hp} {CI CS CT d:Addr} {N:Nt} {ws:List (Str×Addr)} (x:WiA H CI CS CT d N ws) (h:Same H H2):WiA H2 CI CS CT d N ws:=⟨h.get x.d,x.nm,fun q m=>(x.ob q m).same h⟩
theorem WiA.knw {H:Hp} {CI CS CT d:Addr} {N:Nt} {ws:List (Str×Addr)} (x:WiA H CI CS CT d N ws):Knw H d N.names:=⟨_,x.d,by rw [List.map_map,← x.nm,List.map_map];rfl⟩
noncomputable def BL (CI CS CT:Addr):Sp:=fun vs H Q _=>∃ (i s t o:Addr) (rs:List Rw) (qs:List Qs) (N:Nt),vs=[.ref i,.ref s,.ref t]∧Kpt H i s t o rs qs N∧Gn N∧∀ (d:Addr) (H2:Hp) (ws:List (Str×Addr)),H d=none→Same H H2→WiA H2 CI CS CT d N ws→Q (.ref d) H2
noncomputable def dQ (zs:List Str) (ws:List Str):Bool:=ws.any fun w=>decide (w∈zs)
noncomputable def GH:Sp:=fun vs H Q _=>∃ (r:Rw) (d:Addr) (zs:List Str),vs=[.ref r.1,.ref d]∧H r.1=some (.tup [.str r.2.2.1,.ref r.2.1])∧H r.2.1=some (.tup (r.2.2.2.map V.str))∧r.2.2.2.length≤24∧Knw H d zs∧∀ H2,Same H H2→Q (.bl (dQ zs r.2.2.2)) H2
noncomputable def BM:Sp:=fun vs H Q _=>∃ (s:Addr) (rs:List Rw) (N:Nt),vs=[.ref s]∧H s=some (.tup (rs.map fun r=>V.ref r.1))∧(∀ r∈rs,H r.1=some (.tup [.str r.2.2.1,.ref r.2.1])∧H r.2.1=some (.tup (r.2.2.2.map V.str)))∧rs.map (·.2.2)=N.sums∧Gn N∧∀ (D:Addr) (H2:Hp) (od:List Str),H D=none→Same H H2→H2 D=some (.lst (od.map V.str))→Topo N.sums od→Q (.ref D) H2
theorem uV {H:Hp} {Q:VK} {l b:Addr} {xs zs:List V} (e1:H l=some (.lst xs)) (e2:H b=some (.lst zs)) (hl:xs.length + zs.length≤sizeLine) (h:∀ H2,Upd H H2 l (.lst (xs++zs))→Q .non H2):EC (.ref l) [.ref b] H Q:=⟨l,b,xs,zs,rfl,rfl,e1,e2,hl,h _ Upd.of⟩
theorem Wob.keep {H H2:Hp} {CI CS CT:Addr} {N:Nt} {z:Str} {w D:Addr} {xs:List V} (x:Wob H CI CS CT N z w) (hD:H D=some (.lst xs)) (h:∀ b o,b≠D→H b=some o→H2 b=some o):Wob H2 CI CS CT N z w:=by
 cases x with
 | i k dx hk e=>exact .i k dx hk (h _ _ (jq e hD (fun z=>by cases z)) e)
 | s ws dx tw hk e et=>exact .s ws dx tw hk (h _ _ (jq e hD (fun z=>by cases z)) e) (h _ _ (jq et hD (fun z=>by cases z)) et)
 | t k y dx hk e=>exact .t k y dx hk (h _ _ (jq e hD (fun z=>by cases z)) e)
structure WL (H0 H:Hp) (CI CS CT:Addr) (N:Nt) (D:Addr) (ys:List V) (zs:List Str) (ws:List (Str×Addr)):Prop where
 ey:ys=ws.map fun q=>V.ref q.2
 nm:ws.map (·.1)=zs
 ob:∀ q∈ws,Wob H CI CS CT N q.1 q.2
 same:Same H0 H
 d:H D=some (.lst ys)
noncomputable def Eg (K:PySem.W.Frag) (C:Addr):Sp:=fun vs H Q _=>∃ x dx nm tw ws,vs=[.ref x,nm,.ref tw]∧H tw=some (.tup ws)∧H x=some (.ins C dx [])∧
 ∀ H2,Upd H H2 x (.ins C dx [("name",nm),("wires",.ref tw)])→Q .non H2
theorem WL.put {H0 H H4:Hp} {CI CS CT:Addr} {N:Nt} {D:Addr} {ys:List V} {zs:List Str} {ws:List (Str×Addr)} (c:WL H0 H CI CS CT N D ys zs ws) (hD:H0 D=none) (s:Same H H4) {z:Str} {x:Addr} (wb:Wob H4 CI CS CT N z x) (lz:zs.length≤900) {zs':List Str} (ez:zs'=zs++[z]):
  H4 D=some (.lst ys)∧ys.length < sizeLine∧∃ ws,WL H0 (upd H4 D (.lst (ys++[.ref x]))) CI CS CT N D (ys++[.ref x]) zs' ws:=by
 have eD:=s.get c.d
 have k:∀ b o,b≠D→H4 b=some o→upd H4 D (.lst (ys++[.ref x])) b=some o:=fun b o n e=>by rw [aq n];exact e
 have lw:ys.length=zs.length:=by rw [c.ey,← c.nm,List.length_map,List.length_map]
 refine ⟨eD,bz (by omega),ws++[(z,x)],by rw [List.map_append,c.ey];rfl,by rw [List.map_append,c.nm,ez];rfl,fun q hq=>?_,fun b o e=>?_,au⟩
 ·rcases List.mem_append.mp hq with h | h
  ·exact ((c.ob q h).same s).keep eD k
  ·rw [List.mem_singleton] at h;subst h;exact wb.keep eD k
 ·exact k _ _ (aj e hD) (s.get (c.same.get e))
theorem WL.join {H0 H H2 H3:Hp} {CI CS CT:Addr} {N:Nt} {D D2:Addr} {ys ys2:List V} {zs zs2:List Str} {ws ws2:List (Str×Addr)} (c:WL H0 H CI CS CT N D ys zs ws) (c2:WL H H2 CI CS CT N D2 ys2 zs2 ws2) (hD:H0 D=none) (u:Upd H2 H3 D (.lst (ys++ys2))):
  WL H0 H3 CI CS CT N D (ys++ys2) (zs++zs2) (ws++ws2):=by
 have eD:=c2.same.get c.d
 refine ⟨by rw [List.map_append,c.ey,c2.ey],by rw [List.map_append,c.nm,c2.nm],fun q hq=>?_,fun b o e=>u.oth _ _ (aj e hD) (c2.same.get (c.same.get e)),u.at'⟩
 rcases List.mem_append.mp hq with h | h
 ·exact ((c.ob q h).same c2.same).keep eD u.oth
 ·exact (c2.ob q h).keep eD u.oth
structure Otp (sums:List (Str×List Str)) (od:List Str) (lf:List (Str×List Str)):Prop where
 perm:(od++lf.map (·.1)).Perm (sums.map (·.1))
 sub:∀ r∈lf,r∈sums
 need:∀ (i:Nat) z,od[i]? =some z→∀ ws,(z,ws)∈sums→∀ y∈ws,y∈sums.map (·.1)→y∈od.take i
theorem Otp.start (sums:List (Str×List Str)):Otp sums [] sums:=⟨List.Perm.refl _,fun _ h=>h,fun i z h=>by simp at h⟩
theorem Otp.done {sums:List (Str×List Str)} {od:List Str} (o:Otp sums od []):Topo sums od:=⟨by have:=o.perm;rwa [List.map_nil,List.append_nil] at this,o.need⟩
theorem JT {sums:List (Str×List Str)} (nd:(sums.map (·.1)).Nodup) {z:Str} {ws ws':List Str} (h:(z,ws)∈sums) (h':(z,ws')∈sums):ws=ws':=by
 induction sums with
 | nil=>cases h
 | cons r l ih=>
   rw [List.map_cons,List.nodup_cons] at nd
   rcases List.mem_cons.mp h with e | h
   ·rcases List.mem_cons.mp h' with e' | h'
    ·rw [← e] at e';exact (Prod.mk.inj e').2.symm
    ·exact absurd (List.mem_map.mpr ⟨_,h',rfl⟩) (by rw [← e] at nd;exact nd.1)
   ·rcases List.mem_cons.mp h' with e' | h'
    ·exact absurd (List.mem_map.mpr ⟨_,h,rfl⟩) (by rw [← e'] at nd;exact nd.1)
    ·exact ih nd.2 h h'
theorem Otp.step {sums:List (Str×List Str)} (nd:(sums.map (·.1)).Nodup) {od:List Str} {lf:List (Str×List Str)} (o:Otp sums od lf):
  Otp sums (od++(lf.filter fun r=> !dQ (lf.map (·.1)) r.2).map (·.1)) (lf.filter fun r=>dQ (lf.map (·.1)) r.2):=by
 refine ⟨?_,fun r h=>o.sub r (List.mem_filter.mp h).1,fun i z hz ws hw y hy hs=>?_⟩
 ·refine List.Perm.trans ?_ o.perm
  rw [List.append_assoc,← List.map_append]
  refine List.Perm.append_left _ (List.Perm.map _ ?_)
  refine List.Perm.trans List.perm_append_comm ?_
  exact List.filter_append_perm _ _
 ·by_cases hi:i < od.length
  ·rw [List.getElem?_append_left hi] at hz
   rw [List.take_append_of_le_length (Nat.le_of_lt hi)]
   exact o.need i z hz ws hw y hy hs
  ·rw [List.getElem?_append_right (by omega)] at hz
   have hm:=List.mem_of_getElem? hz
   obtain ⟨r,hr,rfl⟩:=List.mem_map.mp hm
   obtain ⟨hr1,hr2⟩:=List.mem_filter.mp hr
   have e:ws=r.2:=JT nd hw (o.sub r hr1)
   subst e
   have hn:y∉lf.map (·.1):=fun m=>by
    have:dQ (lf.map (·.1)) r.2=true:=List.any_eq_true.mpr ⟨y,hy,decide_eq_true m⟩
    rw [this] at hr2
    cases hr2
   have:=(o.perm.mem_iff (a:=y)).mpr hs
   rcases List.mem_append.mp this with h | h
   ·rw [List.take_append,List.mem_append]
    left
    rw [List.take_of_length_le (by omega)]
    exact h
   ·exact absurd h hn
theorem uD {α:Type} (f:α→Nat):∀ l:List α,l≠[]→∃ a∈l,∀ b∈l,f a≤f b
 | [],h=>absurd rfl h
 | [a],_=>⟨a,List.mem_singleton.mpr rfl,fun b h=>by rw [List.mem_singleton.mp h];exact Nat.le_refl _⟩
 | a::b::l,_=>by
   obtain ⟨c,hc,h⟩:=uD f (b::l) (by simp)
   by_cases hac:f a≤f c
   ·exact ⟨a,List.mem_cons_self ..,fun d hd=>(List.mem_cons.mp hd).elim (fun e=>by rw [e];exact Nat.le_refl _) fun e=>Nat.le_trans hac (h d e)⟩
   ·exact ⟨c,List.mem_cons_of_mem _ hc,fun d hd=>(List.mem_cons.mp hd).elim (fun e=>by rw [e];omega) fun e=>h d e⟩
theorem Otp.ready {N:Nt} (g:Gn N) {od:List Str} {lf:List (Str×List Str)} (o:Otp N.sums od lf) (h:lf≠[]):0 < (lf.filter fun r=> !dQ (lf.map (·.1)) r.2).length:=by
 obtain ⟨rank,hr⟩:=g.rk
 obtain ⟨r,hm,hl⟩:=uD (fun r:Str×List Str=>rank r.1) lf h
 refine List.length_pos_of_mem (List.mem_filter.mpr ⟨hm,?_⟩)
 cases hw:dQ (lf.map (·.1)) r.2 with
 | false=>rfl
 | true=>
   obtain ⟨y,hy,hy2⟩:=List.any_eq_true.mp hw
   obtain ⟨r2,hm2,rfl⟩:=List.mem_map.mp (of_decide_eq_true hy2)
   have h1:=hr r (o.sub r hm) _ hy (List.mem_map.mpr ⟨r2,o.sub r2 hm2,rfl⟩)
   have h2:=hl r2 hm2
   omega
theorem Ag {α:Type} (p:α→Bool):∀ l:List α,0 < (l.filter fun x=> !p x).length→(l.filter p).length < l.length:=fun l h=>by
 have:=(List.filter_append_perm p l).length_eq
 rw [List.length_append] at this
 omega
theorem Gn.nds {N:Nt} (g:Gn N):(N.sums.map (·.1)).Nodup:=by
 have:=g.nd
 unfold Nt.names at this
 rw [List.nodup_append,List.nodup_append] at this
 exact this.1.2.1
structure NetA (H:Hp) (C CI CS CT p:Addr) (N:Nt) (od:List Str):Prop where
 ho:∃ (dx i s t o d tq:Addr) (rs:List Rw) (qs:List Qs) (ws:List (Str×Addr)),H p=some (.ins C dx [("ins",.ref i),("sums",.ref s),("kept_stores",.ref t),("outs",.ref o),("by_name",.ref d),("sum_order",.ref tq)])∧Kpt H i s t o rs qs N∧WiA H CI CS CT d N ws∧H tq=some (.tup (od.map V.str))
 g:Gn N
 tp:Topo N.sums od
theorem NetA.same {H H2:Hp} {C CI CS CT p:Addr} {N:Nt} {od:List Str} (x:NetA H C CI CS CT p N od) (h:Same H H2):NetA H2 C CI CS CT p N od:=
 ⟨let ⟨dx,i,s,t,o,d,tq,rs,qs,ws,a,b,c,e⟩:=x.ho;⟨dx,i,s,t,o,d,tq,rs,qs,ws,h.get a,b.same h,c.same h,h.get e⟩,x.g,x.tp⟩
noncomputable def Kx (x:Addr) (H H2:Hp):Prop:=∀ b ob,b≠x→H b=some ob→H2 b=some ob
theorem Kx.trans {x:Addr} {H H2 H3:Hp} (a:Kx x H H2) (b:Kx x H2 H3):Kx x H H3:=fun c o n e=>b c o n (a c o n e)
theorem Kx.same {x:Addr} {H H2:Hp} (s:Same H H2):Kx x H H2:=fun _ _ _ e=>s.get e
theorem Kx.upd {x:Addr} {H H2:Hp} {o:HO} (u:Upd H H2 x o):Kx x H H2:=u.oth
theorem Kx.tup {x:Addr} {H H2:Hp} (k:Kx x H H2) {C dx:Addr} {fs:List (Str×V)} (hx:H x=some (.ins C dx fs)) {b:Addr} {xs:List V} (e:H b=some (.tup xs)):H2 b=some (.tup xs):=k b _ (jq e hx fun z=>by cases z) e
theorem Kx.lst {x:Addr} {H H2:Hp} (k:Kx x H H2) {C dx:Addr} {fs:List (Str×V)} (hx:H x=some (.ins C dx fs)) {b:Addr} {xs:List V} (e:H b=some (.lst xs)):H2 b=some (.lst xs):=k b _ (jq e hx fun z=>by cases z) e
noncomputable def RwK (H:Hp) (rs:List Rw):Prop:=∀ r∈rs,H r.1=some (.tup [.str r.2.2.1,.ref r.2.1])∧H r.2.1=some (.tup (r.2.2.2.map V.str))
noncomputable def QsK (H:Hp) (qs:List Qs):Prop:=∀ q∈qs,H q.1=some (.tup [.str q.2.1,.str q.2.2])
theorem RwK.same {H H2:Hp} {rs:List Rw} (h:RwK H rs) (s:Same H H2):RwK H2 rs:=fun r m=>⟨s.get (h r m).1,s.get (h r m).2⟩
theorem QsK.same {H H2:Hp} {qs:List Qs} (h:QsK H qs) (s:Same H H2):QsK H2 qs:=fun q m=>s.get (h q m)
theorem Kx.rw {x:Addr} {H H2:Hp} (k:Kx x H H2) {C dx:Addr} {fs:List (Str×V)} (hx:H x=some (.ins C dx fs)) {rs:List Rw} (h:RwK H rs):RwK H2 rs:=fun r m=>⟨k.tup hx (h r m).1,k.tup hx (h r m).2⟩
theorem Kx.qs {x:Addr} {H H2:Hp} (k:Kx x H H2) {C dx:Addr} {fs:List (Str×V)} (hx:H x=some (.ins C dx fs)) {qs:List Qs} (h:QsK H qs):QsK H2 qs:=fun q m=>k.tup hx (h q m)
theorem RwK.updL {H H2:Hp} {rs:List Rw} (h:RwK H rs) {D:Addr} {xs:List V} (hD:H D=some (.lst xs)) (k:∀ b o,b≠D→H b=some o→H2 b=some o):RwK H2 rs:=fun r m=>⟨k _ _ (jq (h r m).1 hD fun z=>by cases z) (h r m).1,k _ _ (jq (h r m).2 hD fun z=>by cases z) (h r m).2⟩
theorem QsK.updL {H H2:Hp} {qs:List Qs} (h:QsK H qs) {D:Addr} {xs:List V} (hD:H D=some (.lst xs)) (k:∀ b o,b≠D→H b=some o→H2 b=some o):QsK H2 qs:=fun q m=>k _ _ (jq (h q m) hD fun z=>by cases z) (h q m)
theorem Kx.kpt {x:Addr} {H H2:Hp} (k:Kx x H H2) {C dx:Addr} {fs:List (Str×V)} (hx:H x=some (.ins C dx fs)) {i s t o:Addr} {rs:List Rw} {qs:List Qs} {N:Nt} (h:Kpt H i s t o rs qs N):Kpt H2 i s t o rs qs N:=
 ⟨k.tup hx h.i,k.tup hx h.s,fun r m=>⟨k.tup hx (h.sr r m).1,k.tup hx (h.sr r m).2⟩,h.es,k.tup hx h.t,fun q m=>k.tup hx (h.tr q m),h.et,k.tup hx h.o⟩
theorem Kx.wia {x:Addr} {H H2:Hp} (k:Kx x H H2) {CI CS CT d:Addr} {N:Nt} {ws:List (Str×Addr)} (h:WiA H CI CS CT d N ws) (hd:d≠x) (hw:∀ q∈ws,q.2≠x) {C dx:Addr} {fs:List (Str×V)} (hx:H x=some (.ins C dx fs)):WiA H2 CI CS CT d N ws:=
 ⟨k _ _ hd h.d,h.nm,fun q m=>by
  cases h.ob q m with
  | i k' dx' hk e=>exact .i k' dx' hk (k _ _ (hw q m) e)
  | s ws' dx' tw hk e et=>exact .s ws' dx' tw hk (k _ _ (hw q m) e) (k.tup hx et)
  | t k' y dx' hk e=>exact .t k' y dx' hk (k _ _ (hw q m) e)⟩
noncomputable def xb (f:Str→Bool) (ws:List Str):Bool:=ws.foldl (fun a w=>a^^f w) false
structure Val (N:Nt) (row st:Nat) (f:Str→Bool):Prop where
 i:∀ (k:Nat) z,N.ins[k]? =some z→f z=row.testBit k
 t:∀ (k:Nat) z y,N.sts[k]? =some (z,y)→f z=st.testBit k
 s:∀ z ws,(z,ws)∈N.sums→f z=xb f ws
noncomputable def fv (N:Nt) (row st:Nat):Str→Bool:=Classical.epsilon (Val N row st)
noncomputable def NX (N:Nt):Prop:=∀ r s,∃ f,Val N r s f
noncomputable def need (N:Nt) (od:List Str):List Str:=N.ins++N.sts.map (·.1)++od
structure Pre (N:Nt) (row st:Nat) (pre:List Str) (f:Str→Bool):Prop where
 i:∀ (k:Nat) z,N.ins[k]? =some z→z∈pre→f z=row.testBit k
 t:∀ (k:Nat) z y,N.sts[k]? =some (z,y)→z∈pre→f z=st.testBit k
 s:∀ z ws,(z,ws)∈N.sums→z∈pre→f z=xb f ws∧∀ w∈ws,w∈pre
structure Bt (N:Nt) (row st:Nat) (pre:List Str) (f:Str→Bool) (z:Str) (v:Bool):Prop where
 i:∀ k:Nat,N.ins[k]? =some z→v=row.testBit k
 t:∀ (k:Nat) y,N.sts[k]? =some (z,y)→v=st.testBit k
 s:∀ ws,(z,ws)∈N.sums→v=xb f ws∧∀ w∈ws,w∈pre
section
variable {N:Nt} (g:Gn N)
include g
variable {od:List Str} (tp:Topo N.sums od)
include tp
end
noncomputable abbrev NP:=Hp→Addr→Nt→List Str→Prop
noncomputable def BP (NA:NP):Sp:=fun vs H Q _=>∃ (p:Addr) (N:Nt) (od:List Str),vs=[.ref p]∧NA H p N od∧∀ (D:Addr) (H2:Hp),H D=none→Same H H2→H2 D=some (.lst (N.ins.map V.str))→Q (.ref D) H2
noncomputable def Jm (NA:NP):Sp:=fun vs H Q _=>∃ (p:Addr) (N:Nt) (od:List Str),vs=[.ref p]∧NA H p N od∧∀ (D:Addr) (H2:Hp),H D=none→Same H H2→H2 D=some (.lst (N.outs.map V.str))→Q (.ref D) H2
noncomputable def D0 (NA:NP):Sp:=fun vs H Q _=>∃ (p:Addr) (N:Nt) (od:List Str),vs=[.ref p]∧NA H p N od∧∀ (D:Addr) (H2:Hp) (qs:List Qs),H D=none→Same H H2→H2 D=some (.lst (qs.map fun q=>V.ref q.1))→QsK H2 qs→qs.map (·.2)=N.sts→Q (.ref D) H2
structure RunA (NA:NP) (H:Hp) (C p l n:Addr) (N:Nt) (od:List Str) (st:Nat) (as:List Nat):Prop where
 ho:∃ (dx d:Addr),H p=some (.ins C dx [("net",.ref n),("held",nat st),("bits",.ref d),("given",.ref l)])
 hl:H l=some (.lst (as.map nat))
 na:NA H n N od
noncomputable def mixV (c k:Int):Int:=((c % 2147483647 * 48271 + 7919 * k + 11) % 2147483647 * ((c % 2147483647 * 48271 + 7919 * k + 11) % 2147483647) % 2147483629) * ((c % 2147483647 * 48271 + 7919 * k + 11) % 2147483647 * ((c % 2147483647 * 48271 + 7919 * k + 11) % 2147483647) % 2147483629 + 48271 * k + 7) % 2147483587
noncomputable def Ec:Sp:=fun vs H Q _=>∃ (c k:Int),vs=[.int c,.int k]∧0≤k∧k < 100000∧Q (.int (mixV c k)) H
noncomputable def zi:Str:=("cut x x0 x1 fresh new zero none nil tmp c c0 cut0 cut1 gnd off in out sum store":Str)++(" i0 i1 s0 s1 n0 n1 o0 o1 net wire a b z y0 t0 w w0 k dead open":Str)
noncomputable def W40:List Str:=Txt.split zi " "
theorem rQ:W40.length=40:=by decide +kernel
theorem MZ:W40.Nodup:=by decide +kernel
theorem MY:∀ z∈W40,nm z.cps.toList=true:=by decide +kernel
noncomputable def dval (l:List Nat):Nat:=l.foldl (fun a c=>10 * a + (c - 48)) 0
noncomputable def tx (n:Nat):Str:=(toString (n:Int):String)
theorem kP:∀ n:Fin 2500,(dval (tx n.1).cps.toList=n.1∧(tx n.1).cps.toList.all fig=true)∧(tx n.1).cps.toList.length≤4:=by decide +kernel
noncomputable def nmf (c k:Int):Str:=if mixV c 402 % 2=0 then W40.getD ((k + mixV c 403) % 40).toNat "" else (⟨#[97 + (mixV c 400 % 26).toNat]⟩:Str)++tx ((mixV c 401 % 1000).toNat + 37 * k.toNat)
theorem nL (x y:Str):(x++y).cps.toList=x.cps.toList++y.cps.toList:=by
 show (x.cps++y.cps).toList=_
 rw [Array.toList_append]
theorem Ml (c:Int) {k:Int} (h0:0≤k) (h1:k < 40):Nm (nmf c k):=by
 unfold nmf
 by_cases h:mixV c 402 % 2=0
 ·rw [if_pos h]
  have hi:((k + mixV c 403) % 40).toNat < W40.length:=by
   rw [rQ]
   have:=Int.emod_lt_of_pos (k + mixV c 403) (show (0:Int) < 40 by decide)
   have:=Int.emod_nonneg (k + mixV c 403) (show (40:Int)≠0 by decide)
   omega
  rw [List.getD_eq_getElem?_getD,List.getElem?_eq_getElem hi]
  exact MY _ (List.getElem_mem hi)
 ·rw [if_neg h]
  have hb:(mixV c 401 % 1000).toNat + 37 * k.toNat < 2500:=by
   have:=Int.emod_lt_of_pos (mixV c 401) (show (0:Int) < 1000 by decide)
   have:=Int.emod_nonneg (mixV c 401) (show (1000:Int)≠0 by decide)
   omega
  obtain ⟨⟨_,h2⟩,h3⟩:=kP ⟨_,hb⟩
  have hd:low (97 + (mixV c 400 % 26).toNat)=true:=by
   have:=Int.emod_lt_of_pos (mixV c 400) (show (0:Int) < 26 by decide)
   have:=Int.emod_nonneg (mixV c 400) (show (26:Int)≠0 by decide)
   unfold low
   rw [decide_eq_true (by omega),decide_eq_true (by omega)];rfl
  show nm _=true
  rw [nL]
  show nm ((97 + (mixV c 400 % 26).toNat)::(tx ((mixV c 401 % 1000).toNat + 37 * k.toNat)).cps.toList)=true
  generalize hl:(tx ((mixV c 401 % 1000).toNat + 37 * k.toNat)).cps.toList=l at h2 h3
  generalize 97 + (mixV c 400 % 26).toNat=d at hd
  show (decide ((d::l).length≤6)&&low d&&(d::l).all fun c=>low c||fig c)=true
  rw [hd,List.all_cons,hd]
  have h2':l.all (fun c=>low c||fig c)=true:=by
   rw [List.all_eq_true] at h2 ⊢
   intro x hx
   rw [h2 x hx,Bool.or_true]
  rw [h2',List.length_cons,decide_eq_true (by omega)];rfl
theorem JZ (c:Int) {j k:Int} (j0:0≤j) (j1:j < 40) (k0:0≤k) (k1:k < 40) (e:nmf c j=nmf c k):j=k:=by
 unfold nmf at e
 by_cases h:mixV c 402 % 2=0
 ·rw [if_pos h,if_pos h] at e
  have hj:=Int.emod_lt_of_pos (j + mixV c 403) (show (0:Int) < 40 by decide)
  have hj':=Int.emod_nonneg (j + mixV c 403) (show (40:Int)≠0 by decide)
  have hk:=Int.emod_lt_of_pos (k + mixV c 403) (show (0:Int) < 40 by decide)
  have hk':=Int.emod_nonneg (k + mixV c 403) (show (40:Int)≠0 by decide)
  have lj:((j + mixV c 403) % 40).toNat < W40.length:=by rw [rQ];omega
  have lk:((k + mixV c 403) % 40).toNat < W40.length:=by rw [rQ];omega
  rw [List.getD_eq_getElem?_getD,List.getD_eq_getElem?_getD,List.getElem?_eq_getElem lj,List.getElem?_eq_getElem lk] at e
  have e2:W40[((j + mixV c 403) % 40).toNat]? =W40[((k + mixV c 403) % 40).toNat]? :=by rw [List.getElem?_eq_getElem lj,List.getElem?_eq_getElem lk];exact congrArg some e
  have:=(List.getElem?_inj lj MZ).mp e2
  omega
 ·rw [if_neg h,if_neg h] at e
  have hm:=Int.emod_lt_of_pos (mixV c 401) (show (0:Int) < 1000 by decide)
  have hm':=Int.emod_nonneg (mixV c 401) (show (1000:Int)≠0 by decide)
  have hbj:(mixV c 401 % 1000).toNat + 37 * j.toNat < 2500:=by omega
  have hbk:(mixV c 401 % 1000).toNat + 37 * k.toNat < 2500:=by omega
  have e2:=congrArg (fun z:Str=>z.cps.toList) e
  simp only [nL] at e2
  have e3:=List.append_cancel_left e2
  have e4:=congrArg dval e3
  rw [(kP ⟨_,hbj⟩).1.1,(kP ⟨_,hbk⟩).1.1] at e4
  have e4:(mixV c 401 % 1000).toNat + 37 * j.toNat=(mixV c 401 % 1000).toNat + 37 * k.toNat:=e4
  omega
noncomputable def uq:Sp:=fun vs H Q _=>∃ (c k:Int),vs=[.int c,.int k]∧0≤k∧k < 40∧∀ H2,Same H H2→Q (.str (nmf c k)) H2
noncomputable def Ed:Sp:=fun vs H Q _=>∃ (c:Int) (st:Int) (l:Addr) (zs:List Str) (dg:Bool),vs=[.int c,.int st,.ref l,.bl dg]∧0≤st∧st≤900∧H l=some (.lst (zs.map V.str))∧zs.length≤50∧∀ (D:Addr) (H2:Hp) (ws:List Str),H D=none→Same H H2→H2 D=some (.lst (ws.map V.str))→ws.length≤4→(∀ w∈ws,w∈zs)→Q (.ref D) H2
theorem uC (i:Int) (h0:0≤i) (h1:i < 26):atI ("abcdefghijklmnopqrstuvwxyz":Str).cps.toList i=some (97 + i.toNat):=by
 have e:("abcdefghijklmnopqrstuvwxyz":Str).cps.toList=List.range' 97 26:=by decide +kernel
 obtain ⟨j,rfl⟩:=Int.eq_ofNat_of_zero_le h0
 rw [e]
 refine g7 ?_
 rw [List.getElem?_range' (by omega)]
 show some (97 + 1 * j)=some (97 + (j:Int).toNat)
 rw [Nat.one_mul,Int.toNat_natCast]
noncomputable def RwL (H:Hp) (rs:List Rw):Prop:=∀ r∈rs,H r.1=some (.tup [.str r.2.2.1,.ref r.2.1])∧H r.2.1=some (.lst (r.2.2.2.map V.str))
theorem RwL.same {H H2:Hp} {rs:List Rw} (h:RwL H rs) (s:Same H H2):RwL H2 rs:=fun r m=>⟨s.get (h r m).1,s.get (h r m).2⟩
noncomputable def nms (c:Int) (a n:Nat):List Str:=(List.range n).map fun k=>nmf c ((a + k:Nat):Int)
theorem cG (c:Int) (a n:Nat):(nms c a n).length=n:=by unfold nms;rw [List.length_map,List.length_range]
theorem lR (c:Int) (a n:Nat):nms c a (n + 1)=nms c a n++[nmf c ((a + n:Nat):Int)]:=by unfold nms;rw [List.range_succ,List.map_append];rfl
theorem gd {c:Int} {a n:Nat} {z:Str} (h:z∈nms c a n):∃ k,k < n∧z=nmf c ((a + k:Nat):Int):=by
 obtain ⟨k,hk,rfl⟩:=List.mem_map.mp h
 exact ⟨k,List.mem_range.mp hk,rfl⟩
theorem Mj {c:Int} {a n k:Nat} (h:k < n):nmf c ((a + k:Nat):Int)∈nms c a n:=List.mem_map.mpr ⟨k,List.mem_range.mpr h,rfl⟩
theorem vA (c:Int) {j k:Nat} (j1:j < 40) (k1:k < 40) (e:nmf c (j:Int)=nmf c (k:Int)):j=k:=by
 have:=JZ c (by omega) (by omega) (by omega) (by omega) e
 omega
structure Mk (c:Int) (ni nt:Nat) (rows:List (Str×List Str)):Prop where
 nm:rows.map (·.1)=nms c 22 rows.length
 ws:∀ (k:Nat) r,rows[k]? =some r→r.2.length≤4∧∀ w∈r.2,w∈nms c 0 ni++nms c 6 nt++nms c 22 k
theorem Mk.nil (c:Int) (ni nt:Nat):Mk c ni nt []:=⟨rfl,fun k r h=>by simp at h⟩
theorem Mk.put {c:Int} {ni nt:Nat} {rows:List (Str×List Str)} (m:Mk c ni nt rows) {ws:List Str} (l:ws.length≤4) (h:∀ w∈ws,w∈nms c 0 ni++nms c 6 nt++nms c 22 rows.length):Mk c ni nt (rows++[(nmf c ((22 + rows.length:Nat):Int),ws)]):=by
 refine ⟨by rw [List.map_append,m.nm,List.length_append,List.length_singleton,lR];rfl,fun k r hk=>?_⟩
 by_cases hlt:k < rows.length
 ·rw [List.getElem?_append_left hlt] at hk
  exact m.ws k r hk
 ·rw [List.getElem?_append_right (by omega)] at hk
  have:k - rows.length=0:=by
   have:=(List.getElem?_eq_some_iff.mp hk).1
   rw [List.length_singleton] at this
   omega
  rw [this] at hk
  cases hk
  rw [show k=rows.length by omega]
  exact ⟨l,h⟩
noncomputable def xf (f:Str→Nat) (ws:List Str):Nat:=ws.foldl (fun a w=>a^^^f w) 0
structure Hng (N:Nt) (p:Str→Nat×Nat):Prop where
 i:∀ (k:Nat) z,N.ins[k]? =some z→p z=(0,2 ^ k)
 t:∀ (k:Nat) z y,N.sts[k]? =some (z,y)→p z=(2 ^ k,0)
 s:∀ z ws,(z,ws)∈N.sums→p z=(xf (fun w=>(p w).1) ws,xf (fun w=>(p w).2) ws)
noncomputable def hgp (N:Nt) (z:Str):Nat×Nat:=(M.pk (fun k=>fv N 0 (2 ^ k) z) 0 N.sts.length,M.pk (fun k=>fv N (2 ^ k) 0 z) 0 N.ins.length)
section
variable {N:Nt} (g:Gn N) {od:List Str} (tp:Topo N.sums od) {p:Str→Nat×Nat} (h:Hng N p)
include g tp h
end
structure Hgd (H:Hp) (d:Addr) (N:Nt) (zs:List Str) (hs:List (Str×Addr)):Prop where
 d:H d=some (.dK (hs.map fun q=>(Sum.inr q.1,V.ref q.2)))
 nm:hs.map (·.1)=zs
 ob:∀ q∈hs,H q.2=some (.tup [nat (hgp N q.1).1,nat (hgp N q.1).2])
theorem GC {hs:List (Str×Addr)} {z:Str}:z∈hs.map (·.1)→∃ t,(z,t)∈hs∧valV (hs.map fun q=>((Sum.inr q.1:Key),V.ref q.2)) (Sum.inr z)=some (.ref t):=by
 induction hs with
 | nil=>intro h;cases h
 | cons q hs ih=>
   intro h
   by_cases e:q.1=z
   ·subst e
    exact ⟨q.2,List.mem_cons_self,by show valV ((Sum.inr q.1,V.ref q.2)::_) (Sum.inr q.1)=_;exact pH rfl⟩
   ·have h':z∈hs.map (·.1):=by
     rw [List.map_cons,List.mem_cons] at h
     exact h.resolve_left fun e'=>e e'.symm
    obtain ⟨t,m,v⟩:=ih h'
    refine ⟨t,List.mem_cons_of_mem _ m,?_⟩
    show valV ((Sum.inr q.1,V.ref q.2)::_) (Sum.inr z)=_
    rw [pI fun e'=>e (Sum.inr.inj e')]
    exact v
structure Sml (m:Nat) (ps os:List (Nat×Nat)):Prop where
 m6:m≤6
 lp:ps.length≤16
 lo:os.length≤6
 bn:∀ q∈ps++os,q.1 < 2 ^ ps.length∧q.2 < 2 ^ m
section
variable {m:Nat} {ps os:List (Nat×Nat)} (b:Sml m ps os)
include b
end
section
variable {m:Nat} {ps os:List (Nat×Nat)} (b:Sml m ps os)
include b
end
end Sx
namespace M
noncomputable def stj (ps:List (Nat×Nat)):List Nat→Nat→List Nat
 | S,0=>S
 | S,j + 1=>(stj ps S j).map fun x=>tr2 ps x 0
noncomputable def sg0 (ps:List (Nat×Nat)) (m:Nat):List Nat:=(List.range m).map fun w=>tr2 ps 0 (2 ^ w)
noncomputable def rch (ps:List (Nat×Nat)) (m:Nat):Nat→List Nat
 | 0=>[]
 | T + 1=>stj ps (sg0 ps m) T++rch ps m T
noncomputable def zs (ps:List (Nat×Nat)) (x:Nat):Nat→Nat
 | 0=>x
 | n + 1=>tr2 ps (zs ps x n) 0
noncomputable def upk (w q T:Nat):List Nat:=(List.range T).map fun t=>(q>>>(t * w))&&&(2 ^ w - 1)
structure Kern (R ms:List Nat):Prop where
 inj:Inj ms
 lt:∀ m∈ms,m < 2 ^ R.length
 ev:∀ m∈ms,sm R m=0
 all:∀ z,z < 2 ^ R.length→sm R z=0→Span ms z
structure Lft (left rows:List Nat):Prop where
 nz:∀ x∈left,x≠0
 pw:left.Pairwise fun a b=>b.testBit a.log2=false
 sp:∀ x,Span left x↔Span rows x
 len:left.length=(fr rows).length
noncomputable def bm (rows:List Nat) (b:Nat):Nat:=Classical.epsilon (Bar rows b)
structure Fst (ms:List Nat) (p:Nat):Prop where
 lt:p < ms.length
 out:∀ k,k < p→¬ Span (ms.take k) (ms.getD k 0)
 in_:Span (ms.take p) (ms.getD p 0)
noncomputable def zl (ps:List (Nat×Nat)) (d n:Nat):List Nat:=(List.range (n + 1)).map (zs ps d)
noncomputable def act (ps:List (Nat×Nat)) (x Q:Nat):Nat:=if Q=0 then 0 else (if Q % 2=1 then x else 0)^^^act ps (tr2 ps x 0) (Q / 2)
termination_by Q
decreasing_by omega
structure Lst (ps:List (Nat×Nat)) (x P:Nat):Prop where
 nz:P≠0
 dv:∀ Q,act ps x Q=0↔Dv P Q
structure Rng (ps:List (Nat×Nat)) (x l n:Nat):Prop where
 pos:1≤n
 back:zs ps x (l + n)=zs ps x l
 least:∀ e,1≤e→e < n→zs ps x (l + e)≠zs ps x l
 early:1≤l→zs ps x (l - 1 + n)≠zs ps x (l - 1)
noncomputable def bl (A:List Nat) (s n:Nat):List Nat:=(List.range (n + 1)).map (bkI A s)
end M
namespace Sx
open PySem L2
structure Sgl (H:Hp) (D:Addr) (ds:List Addr) (ps os:List (Nat×Nat)) (n m:Nat):Prop where
 d:H D=some (.lst (ds.map V.ref))
 len:ds.length=m
 at':∀ (w:Nat) (d:Addr),ds[w]? =some d→H d=some (.lst ((M.wan ps os 0 (M.pulse w n)).map nat))
noncomputable def strD (z:Str):Dt:= .str z
noncomputable def rowD (r:Str×List Str):Dt:= .tup [.str r.1,.tup (r.2.map strD)]
noncomputable def stoD (r:Str×Str):Dt:= .tup [.str r.1,.str r.2]
noncomputable def netD (N:Nt):Dt:= .tup [.lst (N.ins.map strD),.lst (N.sums.map rowD),.lst (N.sts.map stoD),.lst (N.outs.map strD)]
theorem d8 {K:PySem.W.Frag} {H:Hp} {D:Addr} {zs:List Str} (e:H D=some (.lst (zs.map V.str))):Rep K H (.ref D) (.lst (zs.map strD)):= .lst (SqL.of e) (by rw [List.length_map,List.length_map]) (p4 V.str strD (fun z=> .str z) zs)
theorem uY {K:PySem.W.Frag} {H:Hp} {D:Addr} {zs:List Str} (e:H D=some (.tup (zs.map V.str))):Rep K H (.ref D) (.tup (zs.map strD)):= .tup (SqT.of e) (by rw [List.length_map,List.length_map]) (p4 V.str strD (fun z=> .str z) zs)
theorem Iz {K:PySem.W.Frag} {H:Hp} {t:Addr} {v w:V} {d e:Dt} (h:H t=some (.tup [v,w])) (r1:Rep K H v d) (r2:Rep K H w e):Rep K H (.ref t) (.tup [d,e]):= .tup (SqT.of h) rfl fun i x y h1 h2=>by
 match i,h1,h2 with
 | 0,h1,h2=>cases h1;cases h2;exact r1
 | 1,h1,h2=>cases h1;cases h2;exact r2
 | i + 2,h1,_=>simp at h1
theorem LP {K:PySem.W.Frag} {H:Hp} {t:Addr} {v w v' w':V} {d e d' e':Dt} (h:H t=some (.tup [v,w,v',w'])) (r1:Rep K H v d) (r2:Rep K H w e) (r3:Rep K H v' d') (r4:Rep K H w' e'):Rep K H (.ref t) (.tup [d,e,d',e']):= .tup (SqT.of h) rfl fun i x y h1 h2=>by
 match i,h1,h2 with
 | 0,h1,h2=>cases h1;cases h2;exact r1
 | 1,h1,h2=>cases h1;cases h2;exact r2
 | 2,h1,h2=>cases h1;cases h2;exact r3
 | 3,h1,h2=>cases h1;cases h2;exact r4
 | i + 4,h1,_=>simp at h1
theorem u0 {K:PySem.W.Frag} {H:Hp} {D:Addr} {rs:List Rw} (e:H D=some (.lst (rs.map fun r=>V.ref r.1))) (k:RwK H rs):Rep K H (.ref D) (.lst ((rs.map (·.2.2)).map rowD)):= .lst (SqL.of e) (by rw [List.length_map,List.length_map,List.length_map]) fun i x y h1 h2=>by
 rw [List.getElem?_map] at h1
 rw [List.map_map,List.getElem?_map] at h2
 obtain ⟨r,hr,rfl⟩:=Option.map_eq_some_iff.mp h1
 rw [hr] at h2
 cases h2
 have:=k r (List.mem_of_getElem? hr)
 exact Iz this.1 (.str _) (uY this.2)
theorem uZ {K:PySem.W.Frag} {H:Hp} {D:Addr} {qs:List Qs} (e:H D=some (.lst (qs.map fun r=>V.ref r.1))) (k:QsK H qs):Rep K H (.ref D) (.lst ((qs.map (·.2)).map stoD)):= .lst (SqL.of e) (by rw [List.length_map,List.length_map,List.length_map]) fun i x y h1 h2=>by
 rw [List.getElem?_map] at h1
 rw [List.map_map,List.getElem?_map] at h2
 obtain ⟨r,hr,rfl⟩:=Option.map_eq_some_iff.mp h1
 rw [hr] at h2
 cases h2
 exact Iz (k r (List.mem_of_getElem? hr)) (.str _) (.str _)
structure TldA (H:Hp) (t D1 D2 D3 D4:Addr) (rs:List Rw) (qs:List Qs) (N:Nt):Prop where
 t:H t=some (.tup [.ref D1,.ref D2,.ref D3,.ref D4])
 i:H D1=some (.lst (N.ins.map V.str))
 s:H D2=some (.lst (rs.map fun r=>V.ref r.1))
 sr:RwK H rs
 es:rs.map (·.2.2)=N.sums
 st:H D3=some (.lst (qs.map fun r=>V.ref r.1))
 tr:QsK H qs
 et:qs.map (·.2)=N.sts
 o:H D4=some (.lst (N.outs.map V.str))
theorem TldA.same {H H2:Hp} {t D1 D2 D3 D4:Addr} {rs:List Rw} {qs:List Qs} {N:Nt} (x:TldA H t D1 D2 D3 D4 rs qs N) (s:Same H H2):TldA H2 t D1 D2 D3 D4 rs qs N:=⟨s.get x.t,s.get x.i,s.get x.s,x.sr.same s,x.es,s.get x.st,fun q m=>s.get (x.tr q m),x.et,s.get x.o⟩
theorem TldA.rep {K:PySem.W.Frag} {H:Hp} {t D1 D2 D3 D4:Addr} {rs:List Rw} {qs:List Qs} {N:Nt} (x:TldA H t D1 D2 D3 D4 rs qs N):Rep K H (.ref t) (netD N):=by
 have r2:Rep K H (.ref D2) (.lst (N.sums.map rowD)):=by rw [← x.es];exact u0 x.s x.sr
 have r3:Rep K H (.ref D3) (.lst (N.sts.map stoD)):=by rw [← x.et];exact uZ x.st x.tr
 exact LP x.t (d8 x.i) r2 r3 (d8 x.o)
theorem fG:∀ l:List Str,cU (l.map strD)=0
 | []=>rfl
 | z::l=>by rw [List.map_cons,cU,fG l];rfl
theorem wg:∀ l:List (Str×List Str),cU (l.map rowD)≤2
 | []=>Nat.zero_le _
 | r::l=>by
   rw [List.map_cons,cU,rowD,depD,cU,cU,depD,fG]
   have:=wg l
   simp [depD,cU];omega
theorem wf:∀ l:List (Str×Str),cU (l.map stoD)≤1
 | []=>Nat.zero_le _
 | r::l=>by
   rw [List.map_cons,cU,stoD,depD,cU,cU]
   have:=wf l
   simp [depD,cU];omega
theorem Ks (N:Nt):depD (netD N)≤100:=by
 unfold netD
 rw [depD,cU,cU,cU,cU,depD,depD,depD,depD,fG,fG]
 have:=wg N.sums
 have:=wf N.sts
 simp [cU];omega
noncomputable def GI (NA:NP):Sp:=fun vs H Q _=>∃ (p:Addr) (N:Nt) (od:List Str),vs=[.ref p]∧NA H p N od∧∀ (t D1 D2 D3 D4:Addr) (H2:Hp) (rs:List Rw) (qs:List Qs),H D1=none→H D2=none→H D3=none→H D4=none→H t=none→Same H H2→TldA H2 t D1 D2 D3 D4 rs qs N→Q (.ref t) H2
noncomputable def Jl (NA:NP):Sp:=fun vs H Q _=>∃ (p:Addr) (N:Nt) (od:List Str),vs=[.ref p]∧NA H p N od∧∀ (D:Addr) (H2:Hp) (rs:List Rw),H D=none→Same H H2→H2 D=some (.lst (rs.map fun r=>V.ref r.1))→RwK H2 rs→rs.map (·.2.2)=N.sums→Q (.ref D) H2
structure Sumd (rows:List Nat) (x q:Nat):Prop where
 lt:q < 2 ^ rows.length
 sm:M.sm rows q=x
 fr:M.Frs rows q
structure Bard (rows:List Nat) (x m:Nat):Prop where
 ns:¬ M.Span rows x
 bar:∃ y,M.Span rows y∧x^^^y≠0∧NO rows (x^^^y).log2∧M.Bar rows (x^^^y).log2 m
 ev:∀ y,M.Span rows y→M.od (m&&&y)=false
 odd:M.od (m&&&x)=true
 lt:∀ W,(∀ r∈rows,r < 2 ^ W)→x < 2 ^ W→m < 2 ^ W
end Sx
namespace L2
open PySem
end L2
namespace Sx
open PySem L2
noncomputable def J (c:Nat):List (List Nat)→List Nat
 | []=>[]
 | [x]=>x
 | x::y::r=>x++c::J c (y::r)
theorem Mf {X:Cx} {K:PySem.W.Frag} (h:X.K=K):OpR X (compareOp .In) (rIn K false):=by subst h;exact EV
inductive Fm:List Str→Prop where
 | i (z:Str) (h:Nm z):Fm ["in",z]
 | o (z:Str) (h:Nm z):Fm ["out",z]
 | s (z:Str) (ws:List Str) (h:Nm z) (hw:∀ w∈ws,Nm w) (l:ws.length≤24):Fm ("sum"::z::"="::ws)
 | t (z y:Str) (h:Nm z) (hy:Nm y):Fm ["store",z,"=",y]
theorem Fa {c:Int} {ni nt:Nat} {rows sums:List (Str×List Str)} {sts:List (Str×Str)} {outs:List Str} (m:Mk c ni nt rows) (h1:ni≤3) (h2:nt≤12) (h3:rows.length≤12) (hp:sums.Perm rows) (hs:sts.map (·.1)=nms c 6 nt) (h4:outs.length≤6)
  (ht:∀ q∈sts,q.2∈nms c 0 ni++nms c 6 nt++nms c 22 rows.length) (ho:∀ z∈outs,z∈nms c 0 ni++nms c 6 nt++nms c 22 rows.length):Gn ⟨nms c 0 ni,sums,sts,outs⟩:=by
 have pn:(sums.map (·.1)).Perm (nms c 22 rows.length):=by rw [← m.nm];exact hp.map _
 have inn:∀ z,z∈nms c 0 ni++nms c 6 nt++nms c 22 rows.length→z∈Nt.names ⟨nms c 0 ni,sums,sts,outs⟩:=fun z hz=>by
  unfold Nt.names
  show z∈nms c 0 ni++sums.map (·.1)++sts.map (·.1)
  rw [hs]
  rcases List.mem_append.mp hz with h | h
  ·rcases List.mem_append.mp h with h | h
   ·exact List.mem_append_left _ (List.mem_append_left _ h)
   ·exact List.mem_append_right _ h
  ·exact List.mem_append_left _ (List.mem_append_right _ (pn.mem_iff.mpr h))
 have lt3:sts.length=nt:=by have:=congrArg List.length hs;rw [List.length_map,cG] at this;exact this
 have row_at:∀ r∈sums,∃ k,rows[k]? =some r:=fun r hr=>List.mem_iff_getElem?.mp (hp.mem_iff.mp hr)
 have num:∀ z∈Nt.names ⟨nms c 0 ni,sums,sts,outs⟩,∃ k:Nat,k < 40∧z=nmf c (k:Int):=fun z hz=>by
  unfold Nt.names at hz
  have hz:z∈nms c 0 ni++sums.map (·.1)++sts.map (·.1):=hz
  rw [hs] at hz
  rcases List.mem_append.mp hz with h | h
  ·rcases List.mem_append.mp h with h | h
   ·obtain ⟨k,hk,e⟩:=gd h;exact ⟨_,by omega,e⟩
   ·obtain ⟨k,hk,e⟩:=gd (pn.mem_iff.mp h);exact ⟨_,by omega,e⟩
  ·obtain ⟨k,hk,e⟩:=gd h;exact ⟨_,by omega,e⟩
 have ndn:∀ (a n:Nat),a + n≤40→(nms c a n).Nodup:=fun a n h=>by
  unfold nms
  refine List.pairwise_map.mpr (List.Pairwise.imp_of_mem (fun {i j} hi hj hij=>?_) List.pairwise_lt_range)
  intro e
  have:=vA c (show a + i < 40 by have:=List.mem_range.mp hi;omega) (show a + j < 40 by have:=List.mem_range.mp hj;omega) e
  omega
 have dis:∀ {a n b k:Nat},a + n≤40→b + k≤40→a + n≤b→∀ x∈nms c a n,∀ y∈nms c b k,x≠y:=fun h1 h2 h3 x hx y hy e=>by
  obtain ⟨i,hi,rfl⟩:=gd hx
  obtain ⟨j,hj,rfl⟩:=gd hy
  have:=vA c (by omega) (by omega) e
  omega
 refine ⟨by show (nms c 0 ni).length≤6;rw [cG];omega,by show sums.length≤40;rw [hp.length_eq];omega,by show sts.length≤16;omega,h4,fun r hr=>?_,fun z hz=>?_,?_,fun r hr z hz=>?_,fun r hr=>inn _ (ht r hr),fun z hz=>inn _ (ho z hz),?_⟩
 ·obtain ⟨k,hk⟩:=row_at r hr
  have:=(m.ws k r hk).1
  omega
 ·obtain ⟨k,hk,rfl⟩:=num z hz
  exact Ml c (by omega) (by omega)
 ·unfold Nt.names
  show (nms c 0 ni++sums.map (·.1)++sts.map (·.1)).Nodup
  rw [hs,List.nodup_append,List.nodup_append]
  refine ⟨⟨ndn _ _ (by omega),pn.nodup_iff.mpr (ndn _ _ (by omega)),fun x hx y hy=>dis (by omega) (by omega) (by omega) x hx y (pn.mem_iff.mp hy)⟩,ndn _ _ (by omega),fun x hx y hy=>?_⟩
  rcases List.mem_append.mp hx with h | h
  ·exact dis (by omega) (by omega) (by omega) x h y hy
  ·exact fun e=>dis (a:=6) (n:=nt) (b:=22) (k:=rows.length) (by omega) (by omega) (by omega) y hy x (pn.mem_iff.mp h) e.symm
 ·obtain ⟨k,hk⟩:=row_at r hr
  have hlt:=(List.getElem?_eq_some_iff.mp hk).1
  refine inn z ?_
  rcases List.mem_append.mp ((m.ws k r hk).2 z hz) with h | h
  ·exact List.mem_append_left _ h
  ·obtain ⟨j,hj,rfl⟩:=gd h
   exact List.mem_append_right _ (Mj (by omega))
 ·refine ⟨fun z=>(nms c 22 rows.length).idxOf z,fun r hr z hz hzs=>?_⟩
  obtain ⟨k,hk⟩:=row_at r hr
  have hlt:=(List.getElem?_eq_some_iff.mp hk).1
  have er:(nms c 22 rows.length)[k]? =some r.1:=by rw [← m.nm,List.getElem?_map,hk];rfl
  have nd:=ndn 22 rows.length (by omega)
  have ik:∀ (j:Nat) y,(nms c 22 rows.length)[j]? =some y→(nms c 22 rows.length).idxOf y=j:=fun j y hj=>by
   obtain ⟨hj1,hj2⟩:=List.getElem?_eq_some_iff.mp hj
   rw [← hj2]
   exact nd.idxOf_getElem j hj1
  obtain ⟨j,hj,ej⟩:=gd (pn.mem_iff.mp hzs)
  have hjk:j < k:=by
   rcases List.mem_append.mp ((m.ws k r hk).2 z hz) with h | h
   ·exfalso
    rcases List.mem_append.mp h with h | h
    ·exact dis (a:=0) (n:=ni) (b:=22) (k:=rows.length) (by omega) (by omega) (by omega) z h z (pn.mem_iff.mp hzs) rfl
    ·exact dis (a:=6) (n:=nt) (b:=22) (k:=rows.length) (by omega) (by omega) (by omega) z h z (pn.mem_iff.mp hzs) rfl
   ·obtain ⟨j',hj',e'⟩:=gd h
    have:=vA c (show 22 + j < 40 by omega) (show 22 + j' < 40 by omega) (ej.symm.trans e')
    omega
  have ez:(nms c 22 rows.length)[j]? =some z:=by unfold nms;rw [List.getElem?_map,List.getElem?_range hj,ej];rfl
  show (nms c 22 rows.length).idxOf z < (nms c 22 rows.length).idxOf r.1
  rw [ik j z ez,ik k r.1 er]
  exact hjk
noncomputable def Nt.rev (N:Nt):Nt:=⟨N.ins,N.sums.reverse,N.sts,N.outs⟩
theorem Nt.rev_mem {N:Nt} {z:Str}:z∈N.rev.names↔z∈N.names:=by
 unfold Nt.names Nt.rev
 simp
theorem Gn.rev {N:Nt} (g:Gn N):Gn N.rev where
 li:=g.li
 ls:=by show N.sums.reverse.length≤40;rw [List.length_reverse];exact g.ls
 lt:=g.lt
 lo:=g.lo
 lw:=fun r hr=>g.lw r (List.mem_reverse.mp hr)
 nm:=fun z hz=>g.nm z (Nt.rev_mem.mp hz)
 nd:=by
  refine (List.Perm.nodup_iff ?_).mpr g.nd
  unfold Nt.names Nt.rev
  refine List.Perm.append_right _ (List.Perm.append_left _ ?_)
  exact (List.reverse_perm _).map _
 ws:=fun r hr z hz=>Nt.rev_mem.mpr (g.ws r (List.mem_reverse.mp hr) z hz)
 ts:=fun r hr=>Nt.rev_mem.mpr (g.ts r hr)
 os:=fun z hz=>Nt.rev_mem.mpr (g.os z hz)
 rk:=by
  obtain ⟨rank,h⟩:=g.rk
  refine ⟨rank,fun r hr z hz hs=>h r (List.mem_reverse.mp hr) z hz ?_⟩
  obtain ⟨q,hq,e⟩:=List.mem_map.mp hs
  exact List.mem_map.mpr ⟨q,List.mem_reverse.mp hq,e⟩
inductive Scl:V→String→Prop where
 | str (z:Str) (l:z.length≤1000):Scl (.str z) "str"
 | int (i:Int):Scl (.int i) "int"
 | bl (b:Bool):Scl (.bl b) "bool"
 | non:Scl .non "NoneType"
theorem Scl.kind {K:PySem.W.Frag} {H:Hp} {v:V} {k:String} (s:Scl v k):tQ K H v k:=by cases s<;>rfl
theorem Scl.len {v:V} {k:String} (s:Scl v k):∀ z,v= .str z→z.length≤1000:=fun z e=>by cases s with
 | str y l=>cases e;exact l
 | int=>cases e
 | bl=>cases e
 | non=>cases e
noncomputable def Tld (H H2:Hp) (dx:Addr) (v:V):Prop:=Same H H2∧H2 dx=some (.xd [("name",v)])
theorem Nb {H H2:Hp} {x C:Addr} {v:V} (f:H x=none) (e:ExcV H2 x C [("name",v)]) (hk:∀ b u,b≠x→H b=some u→H2 b=some u):∃ dx,H2 x=some (ExcF x C (some dx))∧Tld H (del H2 x) dx v:=by
 obtain ⟨o,a,b⟩:=e
 cases o with
 | none=>cases b
 | some d=>
   have b:H2 d=some (.xd [("name",v)]):=b
   have hd:d≠x:=fun z=>by rw [z,a] at b;cases b
   exact ⟨d,a,fun b' u e'=>by rw [yE (aj e' f)];exact hk _ _ (aj e' f) e',by rw [yE hd];exact b⟩
theorem Tld.pre {H H1 H2:Hp} {dx:Addr} {v:V} (s:Same H H1) (t:Tld H1 H2 dx v):Tld H H2 dx v:=⟨s.trans t.1,t.2⟩
theorem Kq {H H2:Hp} {x C dx:Addr} {v:V} (f:H x=none) (t:H dx=some (.xd [("name",v)])) (u:Upd H H2 x (ExcO x (.ref C) (some dx))):ExcC H2 x C [("name",v)]:=⟨dx,u.at',u.oth _ _ (aj t f) t⟩
noncomputable def DZ (NA:NP):Sp:=fun vs H Q _=>∃ (p:Addr) (N:Nt) (od:List Str),vs=[.ref p]∧NA H p N od∧∀ (D:Addr) (H2:Hp),H D=none→Same H H2→H2 D=some (.lst (N.names.map V.str))→Q (.ref D) H2
noncomputable def ldn (k:Nat):Str:=("l":Str)++tx k++("l":Str)
theorem zW (k:Nat):(ldn k).cps.toList=108::((tx k).cps.toList++[108]):=by
 unfold ldn;rw [nL,nL];rfl
theorem zX:∀ k:Fin 40,(nm (ldn k.1).cps.toList=true∧ldn k.1∉W40)∧(ldn k.1).cps.toList.getLast? =some 108:=by decide +kernel
theorem Kf {j k:Nat} (hj:j < 40) (hk:k < 40) (e:ldn j=ldn k):j=k:=by
 have e2:=congrArg (fun z:Str=>z.cps.toList) e
 simp only [zW] at e2
 injection e2 with _ e2
 have e4:=congrArg dval (List.append_cancel_right e2)
 rw [(kP ⟨j,by omega⟩).1.1,(kP ⟨k,by omega⟩).1.1] at e4
 exact e4
theorem xZ (c:Int) {k:Nat} (hk:k < 40):nmf c (k:Int)∈W40∨∃ (d n:Nat),n < 2500∧n=(mixV c 401 % 1000).toNat + 37 * k∧d=97 + (mixV c 400 % 26).toNat∧(nmf c (k:Int)).cps.toList=d::(tx n).cps.toList:=by
 unfold nmf
 by_cases hc:mixV c 402 % 2=0
 ·left
  rw [if_pos hc]
  have hi:(((k:Int) + mixV c 403) % 40).toNat < W40.length:=by
   rw [rQ]
   have:=Int.emod_lt_of_pos ((k:Int) + mixV c 403) (show (0:Int) < 40 by decide)
   have:=Int.emod_nonneg ((k:Int) + mixV c 403) (show (40:Int)≠0 by decide)
   omega
  rw [List.getD_eq_getElem?_getD,List.getElem?_eq_getElem hi]
  exact List.getElem_mem hi
 ·right
  rw [if_neg hc]
  refine ⟨_,(mixV c 401 % 1000).toNat + 37 * k,?_,rfl,rfl,?_⟩
  ·have:=Int.emod_lt_of_pos (mixV c 401) (show (0:Int) < 1000 by decide)
   have:=Int.emod_nonneg (mixV c 401) (show (1000:Int)≠0 by decide)
   omega
  ·rw [nL];rfl
theorem JY {c:Int} {k j:Nat} (hk:k < 40) (hj:j < 40):nmf c (k:Int)≠ldn j:=fun e=>by
 have ha:=zX ⟨j,hj⟩
 rcases xZ c hk with h | ⟨d,n,hn,_,_,h⟩
 ·rw [e] at h;exact ha.1.2 h
 ·rw [e] at h
  have h2:=ha.2
  have h2:(ldn j).cps.toList.getLast? =some 108:=h2
  rw [h] at h2
  have hf:=(kP ⟨n,hn⟩).1.2
  rw [List.all_eq_true] at hf
  cases hl:(tx n).cps.toList with
  | nil=>
    rw [hl] at h
    have:=congrArg List.length h
    rw [zW,List.length_cons,List.length_append] at this
    simp at this
  | cons x xs=>
    rw [hl,List.getLast?_cons_cons] at h2
    have hm:108∈(tx n).cps.toList:=by rw [hl];exact List.mem_of_getLast? h2
    exact absurd (hf 108 hm) (by decide)
noncomputable def nm60 (c:Int):Str:=(⟨#[97 + (mixV c 400 % 26).toNat]⟩:Str)++tx ((mixV c 401 % 1000).toNat + 2220)
theorem tx60:∀ n:Fin 1000,(dval (tx (n.1 + 2220)).cps.toList=n.1 + 2220∧(tx (n.1 + 2220)).cps.toList.length=4)∧(tx (n.1 + 2220)).cps.toList.all fig=true:=by decide +kernel
theorem Ii:∀ z∈W40,z.cps.toList.length=5→fig (z.cps.toList.getD 1 0)=false:=by decide +kernel
theorem vB (c:Int):∃ n,n < 1000∧n=(mixV c 401 % 1000).toNat∧(nm60 c).cps.toList=(97 + (mixV c 400 % 26).toNat)::(tx (n + 2220)).cps.toList:=by
 refine ⟨(mixV c 401 % 1000).toNat,?_,rfl,by unfold nm60;rw [nL];rfl⟩
 have:=Int.emod_lt_of_pos (mixV c 401) (show (0:Int) < 1000 by decide)
 have:=Int.emod_nonneg (mixV c 401) (show (1000:Int)≠0 by decide)
 omega
theorem He (c:Int):(nm60 c).length=5:=by
 obtain ⟨n,hn,_,e⟩:=vB c
 have h:=(tx60 ⟨n,hn⟩).1.2
 show (nm60 c).cps.size=5
 rw [← Array.length_toList,e,List.length_cons]
 have h:(tx (n + 2220)).cps.toList.length=4:=h
 omega
theorem Hd {c:Int} {k:Nat} (hk:k < 40):nm60 c≠nmf c (k:Int):=fun e=>by
 obtain ⟨n,hn,en,e6⟩:=vB c
 have h4:(tx (n + 2220)).cps.toList.length=4:=(tx60 ⟨n,hn⟩).1.2
 have hf:=(tx60 ⟨n,hn⟩).2
 rw [List.all_eq_true] at hf
 rcases xZ c hk with h | ⟨d,m,hm,em,_,h⟩
 ·rw [← e] at h
  have h5:=Ii _ h (by rw [e6,List.length_cons,h4])
  rw [e6] at h5
  cases hl:(tx (n + 2220)).cps.toList with
  | nil=>rw [hl] at h4;cases h4
  | cons x xs=>
    rw [hl] at h5
    have:fig x=true:=hf x (by show x∈(tx (n + 2220)).cps.toList;rw [hl];exact List.mem_cons_self)
    have h5:fig x=false:=h5
    rw [this] at h5;cases h5
 ·rw [← e,e6] at h
  injection h with _ h
  have e1:=congrArg dval h
  rw [(kP ⟨m,hm⟩).1.1] at e1
  have e2:dval (tx (n + 2220)).cps.toList=n + 2220:=(tx60 ⟨n,hn⟩).1.1
  have e1:dval (tx (n + 2220)).cps.toList=m:=e1
  omega
theorem Hf {c:Int} {j:Nat} (hj:j < 40):nm60 c≠ldn j:=fun e=>by
 obtain ⟨n,hn,en,e6⟩:=vB c
 have h4:(tx (n + 2220)).cps.toList.length=4:=(tx60 ⟨n,hn⟩).1.2
 have hf:=(tx60 ⟨n,hn⟩).2
 rw [List.all_eq_true] at hf
 have h2:(ldn j).cps.toList.getLast? =some 108:=(zX ⟨j,hj⟩).2
 rw [← e,e6] at h2
 cases hl:(tx (n + 2220)).cps.toList with
 | nil=>rw [hl] at h4;cases h4
 | cons x xs=>
   rw [hl,List.getLast?_cons_cons] at h2
   have hm:108∈(tx (n + 2220)).cps.toList:=by rw [hl];exact List.mem_of_getLast? h2
   exact absurd (hf 108 hm) (by decide)
noncomputable def ldr (k:Nat):Str×List Str:=(ldn k,(List.range (k - (k - 2))).map fun j=>ldn (k - 2 + j))
noncomputable def ldrs (n:Nat):List (Str×List Str):=(List.range n).map ldr
theorem uE (n:Nat):(ldrs n).map (·.1)=(List.range n).map ldn:=by unfold ldrs;rw [List.map_map];rfl
noncomputable def lad (N:Nt):Nt:=⟨N.ins,N.sums++ldrs (40 - N.sums.length),N.sts,N.outs⟩
theorem ib (N:Nt):(lad N).names.Perm (N.names++(List.range (40 - N.sums.length)).map ldn):=by
 unfold Nt.names lad
 rw [List.map_append,uE]
 show (N.ins++(N.sums.map (·.1)++_)++N.sts.map (·.1)).Perm (N.ins++N.sums.map (·.1)++N.sts.map (·.1)++_)
 rw [← List.append_assoc,List.append_assoc (N.ins++N.sums.map (·.1)),List.append_assoc (N.ins++N.sums.map (·.1))]
 exact List.Perm.append_left _ List.perm_append_comm
noncomputable def Nmc (c:Int) (N:Nt):Prop:=∀ z∈N.names,∃ k:Nat,k < 40∧z=nmf c (k:Int)
theorem Nmc.ldn {c:Int} {N:Nt} (h:Nmc c N) {j:Nat} (hj:j < 40):Sx.ldn j∉N.names:=fun hz=>by
 obtain ⟨k,hk,e⟩:=h _ hz
 exact JY hk hj e.symm
theorem Nmc.no {c:Int} {N:Nt} (h:Nmc c N):nm60 c∉N.names:=fun hz=>by
 obtain ⟨k,hk,e⟩:=h _ hz
 exact Hd hk e
theorem Nmc.noL {c:Int} {N:Nt} (h:Nmc c N):nm60 c∉(lad N).names:=fun hz=>by
 rcases List.mem_append.mp ((ib N).mem_iff.mp hz) with h1 | h1
 ·exact h.no h1
 ·obtain ⟨k,hk,e⟩:=List.mem_map.mp h1
  exact Hf (by have:=List.mem_range.mp hk;omega) e.symm
theorem Gn.lad {c:Int} {N:Nt} (g:Gn N) (h:Nmc c N):Gn (lad N) where
 li:=g.li
 ls:=by
  show (N.sums++ldrs (40 - N.sums.length)).length≤40
  unfold ldrs
  have:=g.ls
  rw [List.length_append,List.length_map,List.length_range];omega
 lt:=g.lt
 lo:=g.lo
 lw:=fun r hr=>by
  rcases List.mem_append.mp hr with hr | hr
  ·exact g.lw r hr
  ·obtain ⟨k,_,rfl⟩:=List.mem_map.mp hr
   show ((List.range (k - (k - 2))).map _).length≤24
   rw [List.length_map,List.length_range];omega
 nm:=fun z hz=>by
  rcases List.mem_append.mp ((ib N).mem_iff.mp hz) with h1 | h1
  ·exact g.nm z h1
  ·obtain ⟨k,hk,rfl⟩:=List.mem_map.mp h1
   exact (zX ⟨k,by have:=List.mem_range.mp hk;omega⟩).1.1
 nd:=by
  refine (ib N).nodup_iff.mpr (List.nodup_append.mpr ⟨g.nd,?_,fun x hx y hy e=>?_⟩)
  ·refine List.pairwise_map.mpr (List.Pairwise.imp_of_mem (fun {a b} ha hb ne e=>ne ?_) List.nodup_range)
   exact Kf (by have:=List.mem_range.mp ha;omega) (by have:=List.mem_range.mp hb;omega) e
  ·obtain ⟨k,hk,rfl⟩:=List.mem_map.mp hy
   rw [e] at hx
   exact h.ldn (by have:=List.mem_range.mp hk;omega) hx
 ws:=fun r hr z hz=>by
  refine (ib N).mem_iff.mpr ?_
  rcases List.mem_append.mp hr with hr | hr
  ·exact List.mem_append_left _ (g.ws r hr z hz)
  ·obtain ⟨k,hk,rfl⟩:=List.mem_map.mp hr
   obtain ⟨j,hj,rfl⟩:=List.mem_map.mp hz
   have h1:=List.mem_range.mp hk
   have h2:=List.mem_range.mp hj
   exact List.mem_append_right _ (List.mem_map.mpr ⟨k - 2 + j,List.mem_range.mpr (by omega),rfl⟩)
 ts:=fun r hr=>(ib N).mem_iff.mpr (List.mem_append_left _ (g.ts r hr))
 os:=fun r hr=>(ib N).mem_iff.mpr (List.mem_append_left _ (g.os r hr))
 rk:=by
  obtain ⟨rank,hk⟩:=g.rk
  have hin:∀ r∈N.sums,r.1∈N.names:=fun r hr=>by
   unfold Nt.names
   exact List.mem_append_left _ (List.mem_append_right _ (List.mem_map.mpr ⟨r,hr,rfl⟩))
  refine ⟨fun z=>if z∈N.names then rank z else dval ((z.cps.toList.drop 1).dropLast),fun r hr z hz hs=>?_⟩
  have rkl:∀ k,k < 40→dval (((ldn k).cps.toList.drop 1).dropLast)=k:=fun k hk=>by
   rw [zW]
   show dval (((tx k).cps.toList++[108]).dropLast)=k
   rw [List.dropLast_concat];exact (kP ⟨k,by omega⟩).1.1
  rcases List.mem_append.mp hr with hr | hr
  ·have hz':=g.ws r hr z hz
   show (if z∈N.names then rank z else _) < (if r.1∈N.names then rank r.1 else _)
   rw [if_pos hz',if_pos (hin r hr)]
   refine hk r hr z hz ?_
   have hs:z∈(N.sums++ldrs (40 - N.sums.length)).map (·.1):=hs
   rw [List.map_append,uE] at hs
   rcases List.mem_append.mp hs with hs | hs
   ·exact hs
   ·obtain ⟨k,hk2,e⟩:=List.mem_map.mp hs
    exact absurd hz' (by rw [← e];exact h.ldn (by have:=List.mem_range.mp hk2;omega))
  ·obtain ⟨k,hk2,rfl⟩:=List.mem_map.mp hr
   obtain ⟨j,hj,rfl⟩:=List.mem_map.mp hz
   have h1:=List.mem_range.mp hk2
   have h2:=List.mem_range.mp hj
   show (if ldn (k - 2 + j)∈N.names then _ else _) < (if ldn k∈N.names then _ else _)
   rw [if_neg (h.ldn (by omega)),if_neg (h.ldn (by omega)),rkl _ (by omega)]
   show k - 2 + j < dval (((ldn k).cps.toList.drop 1).dropLast)
   rw [rkl _ (by omega)]
   omega
noncomputable def TupV (K:PySem.W.Frag) (H:Hp) (y:V):Option (List V)→Prop
 | some xs=>∃ r,y= .ref r∧SqT K H r xs∧M3 K H xs
 | none=>∃ k,tQ K H y k∧k≠"tuple"
noncomputable def NE (n m:Nat):Option (List V)→Bool
 | some [x,y]=>Mn x n&&Mn y m
 | _=>false
noncomputable abbrev It2:=V×Option (List V)
noncomputable def LstV (K:PySem.W.Frag) (H:Hp) (y:V):Option (List It2)→Prop
 | some zs=>∃ r,y= .ref r∧H r=some (.lst (zs.map (·.1)))∧∀ z∈zs,TupV K H z.1 z.2
 | none=>∃ k,tQ K H y k∧k≠"list"
noncomputable def tabB (x:V) (on oo:Option (List It2)):Bool:=match x,on,oo with
 | .int i,some zs,some ws=>decide (0≤i)&&decide (i≤6)&&decide (zs.length≤120)&&decide (ws.length≤6)&&(zs++ws).all fun z=>NE zs.length i.toNat z.2
 | _,_,_=>false
end Sx
namespace L2
open PySem
end L2
namespace Sx
open PySem L2
structure BadT (K:PySem.W.Frag) (H:Hp) (x y z:V):Prop where
 ex:∃ k on oo,tQ K H x k∧LstV K H y on∧LstV K H z oo∧tabB x on oo=false
end Sx
namespace L2
open PySem
end L2
namespace Sx
open PySem L2
noncomputable def cps (p q k:Nat):List Nat:=if k + 1 < p then [k + 1] else M.pl 1000 q
structure ChS (H:Hp) (S:Addr) (p q:Nat) (rs:List Addr):Prop where
 at_:H S=some (.lst (rs.map V.ref))
 len:rs.length=p
 get:∀ (k:Nat) (r:Addr),rs[k]? =some r→H r=some (.lst ((cps p q k).map nat))
structure ChT (H:Hp) (D S:Addr) (ms:List Nat) (p q:Nat):Prop where
 fs:M.Fst ms p
 sd:Sumd (ms.take p) (ms.getD p 0) q
 d:H D=some (.lst ((ms.take p).map nat))
 s:∃ rs,ChS H S p q rs
structure LA (K:PySem.W.Frag) (H:Hp) (t n o rr:Addr) (m:Nat) (nx os:List Pr3) (rs:List Nat) (a b:Nat):Prop where
 tt:TabT H t n o m nx os
 sq:SqL K H rr (rs.map nat)
 lr:rs.length=20
 br:∀ r∈rs,r < 2 ^ m
 ln:nx.length≤16
 ha:a < 2 ^ nx.length
 hb:b < 2 ^ nx.length
structure ApA (H:Hp) (f:Addr) (nx os:List Pr3) (d k ans:Nat):Prop where
 f:H f=some (.tup [.str "apart",nat k,nat ans.log2])
 hk:k < nx.length
 an:ans=M.tr2 (prs os) (M.zs (prs nx) d k) 0
 ne:ans≠0
 qu:∀ j,j < k→M.tr2 (prs os) (M.zs (prs nx) d j) 0=0
structure ApL (H:Hp) (f D S:Addr) (nx os:List Pr3) (d p q:Nat):Prop where
 f:H f=some (.tup [.str "alike",.ref D,.ref S])
 ct:ChT H D S (M.zl (prs nx) d nx.length) p q
 qu:∀ j,j < p→M.tr2 (prs os) (M.zs (prs nx) d j) 0=0
structure CmA (H:Hp) (t D:Addr) (m:Nat) (nx:List Pr3) (st T q mk:Nat):Prop where
 f:H t=some (.tup [.str "come",.ref D,nat mk])
 d:H D=some (.lst ((M.upk m q T).map nat))
 hT:T≤nx.length
 no:∀ j,j < T→¬ M.Span (M.rch (prs nx) m j) st
 sd:Sumd (M.rch (prs nx) m T) st q
 br:(T=0∧mk=0)∨∃ T',T=T' + 1∧Bard (M.rch (prs nx) m T') st mk
structure CmN (H:Hp) (t D S:Addr) (m:Nat) (nx:List Pr3) (st mk p q:Nat):Prop where
 f:H t=some (.tup [.str "never",.ref D,.ref S])
 no:∀ j,j≤nx.length→¬ M.Span (M.rch (prs nx) m j) st
 bd:Bard (M.rch (prs nx) m nx.length) st mk
 ct:ChT H D S (M.bl (nA nx) mk nx.length) p q
structure LN (K:PySem.W.Frag) (H:Hp) (n:Addr) (m:Nat) (nx os:List Pr3) (st:Nat):Prop where
 sq:SqL K H n (refs nx)
 pt:Prt H nx
 g:MaG m nx os
 ln:nx.length≤16
 hs:st < 2 ^ nx.length
end Sx
namespace M
noncomputable def ow (x:Nat) (L:List Nat):Nat:=pk (fun k=>od (x&&&L.getD k 0)) 0 L.length
noncomputable def lk1 (A os:List Nat) (t:Nat):List Nat:=os.map fun s=>bkI A s t
noncomputable def lkm (A os:List Nat):Nat→List Nat
 | 0=>[]
 | T + 1=>lkm A os T++lk1 A os T
section
variable (ps os:List (Nat×Nat)) (m:Nat)
noncomputable def msk:List Nat:=lkm (ps.map (·.1)) (os.map (·.1)) ps.length
noncomputable def ldp:List Nat:=fr ((rch ps m ps.length).map (ow · (msk ps os)))
noncomputable def lst_:List Nat:=(ldp ps os m).map fun i=>(rch ps m ps.length).getD i 0
noncomputable def lkp:List Nat:=fr ((msk ps os).map (ow · (lst_ ps os m)))
noncomputable def lkL:List Nat:=(lkp ps os m).map fun i=>(msk ps os).getD i 0
noncomputable def sen:List Nat:=(lkL ps os m).map (ow · (lst_ ps os m))
end
section
variable {ps os:List (Nat×Nat)} {m:Nat}
structure Lsr (ps os:List (Nat×Nat)) (m:Nat) (nx' os':List (Nat×Nat)):Prop where
 ln:nx'.length=(lkp ps os m).length
 lo:os'.length=os.length
 n1:∀ (j:Nat) (q:Nat×Nat),nx'[j]? =some q→q.1 < 2 ^ (lkp ps os m).length∧sm (sen ps os m) q.1=ow (sm (ps.map (·.1)) ((lkL ps os m).getD j 0)) (lst_ ps os m)∧q.2=sm (ps.map (·.2)) ((lkL ps os m).getD j 0)
 o1:∀ (j:Nat) (q:Nat×Nat),os'[j]? =some q→q.1 < 2 ^ (lkp ps os m).length∧sm (sen ps os m) q.1=ow (os.getD j (0,0)).1 (lst_ ps os m)∧q.2=(os.getD j (0,0)).2
structure Fit (ps os:List (Nat×Nat)) (m:Nat):Prop where
 ln:ps.length≤120
 bn:∀ q∈ps++os,q.1 < 2 ^ ps.length
end
end M
namespace Sx
open PySem L2
noncomputable def Co (ob:Nat→HO) (H1:Hp) (D:Addr) (i:Nat) (ys:List V) (H:Hp):Prop:=∃ ds:List Addr,ys=ds.map V.ref∧ds.length=i∧(∀ (j:Nat) (d:Addr),ds[j]? =some d→H d=some (ob j))∧(∀ d∈ds,H1 d=none∧d≠D)∧Same H1 H∧H D=some (.lst ys)
theorem KB {ob:Nat→HO} {H1:Hp} {D:Addr} (hD:H1 D=none):Co ob H1 D 0 [] (upd H1 D (.lst [])):=⟨[],rfl,rfl,fun j d h=>(by simp at h),fun _ h=>(by cases h),bF hD,au⟩
theorem MO {ob:Nat→HO} {H1 H H6:Hp} {D t:Addr} {i:Nat} {ys:List V} (hD:H1 D=none) (c:Co ob H1 D i ys H) (s6:Same H H6) (ft:H t=none) (et:H6 t=some (ob i)) (hi:i < 1000):H6 D=some (.lst ys)∧ys.length < sizeLine∧Co ob H1 D (i + 1) (ys++[.ref t]) (upd H6 D (.lst (ys++[.ref t]))):=by
 obtain ⟨ds,rfl,ld,ha,hf,s,eD⟩:=c
 have nt:t≠D:=fun z=>by rw [z,eD] at ft;cases ft
 refine ⟨s6.get eD,by rw [List.length_map,ld];exact bz (by omega),ds++[t],by rw [List.map_append];rfl,by rw [List.length_append,ld];rfl,fun j d h=>?_,fun d hd=>?_,fun b o e=>?_,au⟩
 ·by_cases hj:j < ds.length
  ·rw [List.getElem?_append_left hj] at h
   rw [aq (hf d (List.mem_of_getElem? h)).2];exact s6.get (ha j d h)
  ·rw [List.getElem?_append_right (by omega)] at h
   have hz:j - ds.length=0:=by
    cases e:j - ds.length with
    | zero=>rfl
    | succ m=>rw [e] at h;simp at h
   rw [hz] at h
   have h:d=t:=(Option.some.inj h).symm
   have hj:j=i:=by omega
   rw [h,aq nt,hj];exact et
 ·rcases List.mem_append.mp hd with h | h
  ·exact hf d h
  ·rw [List.mem_singleton.mp h];exact ⟨s.free ft,nt⟩
 ·rw [aq (aj e hD)];exact s6.get (s.get e)
structure Lrl (H:Hp) (Dr Dl:Addr) (ds es:List Addr) (m:Nat) (nx os:List Pr3):Prop where
 r:H Dr=some (.lst (ds.map V.ref))
 l:H Dl=some (.lst (es.map V.ref))
 dl:ds.length=(M.ldp (prs nx) (prs os) m).length
 el:es.length=(M.lkp (prs nx) (prs os) m).length
 da:∀ (j:Nat) (d k:Nat),ds[j]? =some d→(M.ldp (prs nx) (prs os) m)[j]? =some k→H d=some (.lst ((M.upk m (2 ^ k) nx.length).map nat))
 ea:∀ (j:Nat) (e k:Nat),es[j]? =some e→(M.lkp (prs nx) (prs os) m)[j]? =some k→H e=some (.tup [nat (k / os.length),nat (k % os.length)])
noncomputable def less (H:Hp) (R:Addr→Prop):Hp:=fun b=>@ite _ (R b) (Classical.propDecidable _) none (H b)
theorem Fe {H:Hp} {R:Addr→Prop} {b:Addr} (h:R b):less H R b=none:=by unfold less;rw [if_pos h]
theorem pN {H:Hp} {R:Addr→Prop} {b:Addr} (h:¬ R b):less H R b=H b:=by unfold less;rw [if_neg h]
theorem Fd {H:Hp} {R:Addr→Prop}:Same (less H R) H:=fun b o e=>by
 by_cases h:R b
 ·rw [Fe h] at e;cases e
 ·rw [pN h] at e;exact e
theorem Eo {H0 H:Hp} {R:Addr→Prop} (s:Same H0 H) (h:∀ b,R b→H0 b=none):Same H0 (less H R):=fun b o e=>by
 rw [pN fun z=>by rw [h b z] at e;cases e];exact s.get e
theorem fE {H:Hp} {R:Addr→Prop} (h:∀ b,R b→∃ xs,H b=some (.lst xs)) {b:Addr} {xs:List V} (e:H b=some (.tup xs)):less H R b=some (.tup xs):=by
 rw [pN fun z=>by obtain ⟨ys,hy⟩:=h b z;rw [hy] at e;cases e];exact e
structure Hnd2 (H:Hp) (i s t o:Addr) (rs:List Rw) (qs:List Qs) (N:Nt):Prop where
 i:H i=some (.lst (N.ins.map V.str))
 s:H s=some (.lst (rs.map fun r=>V.ref r.1))
 sr:∀ r∈rs,H r.1=some (.tup [.str r.2.2.1,.ref r.2.1])∧(H r.2.1=some (.lst (r.2.2.2.map V.str))∨H r.2.1=some (.tup (r.2.2.2.map V.str)))
 es:rs.map (·.2.2)=N.sums
 t:H t=some (.lst (qs.map fun q=>V.ref q.1))
 tr:∀ q∈qs,H q.1=some (.tup [.str q.2.1,.str q.2.2])
 et:qs.map (·.2)=N.sts
 o:H o=some (.lst (N.outs.map V.str))
theorem Hnd2.same {H H2:Hp} {i s t o:Addr} {rs:List Rw} {qs:List Qs} {N:Nt} (x:Hnd2 H i s t o rs qs N) (h:Same H H2):Hnd2 H2 i s t o rs qs N:=⟨h.get x.i,h.get x.s,fun r m=>⟨h.get (x.sr r m).1,(x.sr r m).2.imp h.get h.get⟩,x.es,h.get x.t,fun q m=>h.get (x.tr q m),x.et,h.get x.o⟩
theorem Kx.hnd2 {x:Addr} {H H2:Hp} (k:Kx x H H2) {C dx:Addr} {fs:List (Str×V)} (hx:H x=some (.ins C dx fs)) {i s t o:Addr} {rs:List Rw} {qs:List Qs} {N:Nt} (h:Hnd2 H i s t o rs qs N):Hnd2 H2 i s t o rs qs N:=
 ⟨k.lst hx h.i,k.lst hx h.s,fun r m=>⟨k.tup hx (h.sr r m).1,(h.sr r m).2.imp (k.lst hx) (k.tup hx)⟩,h.es,k.lst hx h.t,fun q m=>k.tup hx (h.tr q m),h.et,k.lst hx h.o⟩
noncomputable def BQ:Sp:=fun vs H Q _=>∃ (i s t o:Addr) (rs:List Rw) (qs:List Qs) (N:Nt),vs=[.ref i,.ref s,.ref t,.ref o]∧Hnd2 H i s t o rs qs N∧Gn N∧∀ H2,Same H H2→Q .non H2
noncomputable def Jn (C CI CS CT:Addr):Sp:=fun vs H Q _=>∃ (x dx i s t o:Addr) (rs:List Rw) (qs:List Qs) (N:Nt),vs=[.ref x,.ref i,.ref s,.ref t,.ref o]∧H x=some (.ins C dx [])∧Hnd2 H i s t o rs qs N∧Gn N∧∀ (H2:Hp) (od:List Str),Kx x H H2→NetA H2 C CI CS CT x N od→Q .non H2
inductive Thg (H:Hp):V→String→Prop where
 | sc {v:V} {k:String} (s:Scl v k):Thg H v k
 | nil {p:Addr} (e:H p=some (.lst [])):Thg H (.ref p) "list"
inductive Cpy (H H2:Hp):V→V→Prop where
 | sc {v:V} {k:String} (s:Scl v k):Cpy H H2 v v
 | nil {p p2:Addr} (e:H p=some (.lst [])) (e2:H2 p2=some (.lst [])):Cpy H H2 (.ref p) (.ref p2)
theorem Thg.same {H H2:Hp} {v:V} {k:String} (t:Thg H v k) (s:Same H H2):Thg H2 v k:=by
 cases t with
 | sc h=>exact .sc h
 | nil e=>exact .nil (s.get e)
theorem Thg.str {H:Hp} {z:Str} {k:String} (t:Thg H (.str z) k):z.length≤1000:=by
 cases t with
 | sc h=>exact h.len z rfl
theorem Thg.kind {K:PySem.W.Frag} {H:Hp} {v:V} {k:String} (t:Thg H v k):tQ K H v k:=by
 cases t with
 | sc h=>exact h.kind
 | nil e=>exact .inl ⟨rfl,_,SqL.of e⟩
noncomputable def GN:Sp:=fun vs H Q _=>∃ (v:V) (k:String),vs=[v,.int 12]∧Thg H v k∧∀ v2 H2,Same H H2→Cpy H H2 v v2→Q v2 H2
noncomputable def Nc:Sp:=fun _ _ _ _=>False
noncomputable def w4 (C:Addr):Sp:=fun vs H Q _=>∃ (p:Addr) (v:V) (k:String),vs=[.ref p,v]∧Thg H v k∧H p=some (ExcF p C none)∧∀ v2 H2,ExcV H2 p C [("name",v2)]→(∀ b u,b≠p→H b=some u→H2 b=some u)→Cpy H H2 v v2→Q .non H2
noncomputable def Tld2 (H H2:Hp) (dx:Addr) (v:V):Prop:=∃ v2,Tld H H2 dx v2∧Cpy H H2 v v2
noncomputable def Ei (CN:Addr):Sp:=fun vs H Q E=>∃ (v:V) (k:String) (d:Addr) (zs:List Str),vs=[v,.ref d]∧Thg H v k∧Knw H d zs∧(∀ z∈zs,Nm z)∧(∀ z∈zs,v= .str z→∀ H2,Same H H2→Q .non H2)∧((∀ z∈zs,v≠.str z)→∀ H2 dx,Tld2 H H2 dx v→E (.ref CN) (some dx) H2)
noncomputable def BK (NA:NP) (CI CS CT CN:Addr):Sp:=fun vs H Q E=>∃ (p:Addr) (N:Nt) (od:List Str) (v:V) (k:String),vs=[.ref p,v]∧NA H p N od∧Thg H v k∧(∀ z∈N.names,v= .str z→∀ (w:Addr) (H2:Hp),Same H H2→Wob H2 CI CS CT N z w→Q (.ref w) H2)∧((∀ z∈N.names,v≠.str z)→∀ H2 dx,Tld2 H H2 dx v→E (.ref CN) (some dx) H2)
noncomputable def Ea (NA:NP):Sp:=fun vs H Q _=>∃ (p:Addr) (N:Nt) (od:List Str),vs=[.ref p]∧NA H p N od∧∀ (D:Addr) (H2:Hp),H D=none→Same H H2→H2 D=some (.lst (od.map V.str))→Q (.ref D) H2
noncomputable def BN:Sp:=fun vs H Q _=>∃ c:Int,vs=[.int c,.int 60]∧∀ H2,Same H H2→Q (.str (nm60 c)) H2
noncomputable def GK (K:PySem.W.Frag):Sp:=fun vs H Q _=>∃ (p:Addr) (ns:List Int) (st mo:Nat),vs=[.ref p,nat st,nat mo]∧SqL K H p (ns.map V.int)∧st≤900∧mo≤12∧∀ (t i s u o:Addr) (H2:Hp) (rs:List Rw) (qs:List Qs) (N:Nt),Same H H2→H2 t=some (.tup [.ref i,.ref s,.ref u,.ref o])→Hnd H2 i s u o rs qs N→Gn N→N.ins.length≤3→N.sums.length≤mo→Nmc (cell ns (st:Int)) N→Q (.ref t) H2
theorem Kd {c:Int} {ni nt:Nat} {rows sums:List (Str×List Str)} {sts:List (Str×Str)} {outs:List Str} (m:Mk c ni nt rows) (h1:ni≤3) (h2:nt≤12) (h3:rows.length≤12) (hp:sums.Perm rows) (hs:sts.map (·.1)=nms c 6 nt) (h4:outs.length≤6)
  (ht:∀ q∈sts,q.2∈nms c 0 ni++nms c 6 nt++nms c 22 rows.length) (ho:∀ z∈outs,z∈nms c 0 ni++nms c 6 nt++nms c 22 rows.length):Nmc c ⟨nms c 0 ni,sums,sts,outs⟩:=by
 have pn:(sums.map (·.1)).Perm (nms c 22 rows.length):=by rw [← m.nm];exact hp.map _
 intro z hz
 unfold Nt.names at hz
 have hz:z∈nms c 0 ni++sums.map (·.1)++sts.map (·.1):=hz
 rw [hs] at hz
 rcases List.mem_append.mp hz with h | h
 ·rcases List.mem_append.mp h with h | h
  ·obtain ⟨k,hk,e⟩:=gd h;exact ⟨_,by omega,e⟩
  ·obtain ⟨k,hk,e⟩:=gd (pn.mem_iff.mp h);exact ⟨_,by omega,e⟩
 ·obtain ⟨k,hk,e⟩:=gd h;exact ⟨_,by omega,e⟩
noncomputable def RwLs (H:Hp) (rs:List Rw):Prop:=∀ r∈rs,H r.1=some (.tup [.str r.2.2.1,.ref r.2.1])∧H r.2.1=some (.lst (r.2.2.2.map V.str))
theorem RwLs.same {H H2:Hp} {rs:List Rw} (h:RwLs H rs) (s:Same H H2):RwLs H2 rs:=fun r m=>⟨s.get (h r m).1,s.get (h r m).2⟩
noncomputable def BO:Sp:=fun vs H Q _=>∃ (s:Addr) (rs:List Rw) (N:Nt),vs=[.ref s]∧H s=some (.lst (rs.map fun r=>V.ref r.1))∧RwLs H rs∧rs.map (·.2.2)=N.sums∧N.sums.length≤12∧∀ (D:Addr) (H2:Hp) (rs2:List Rw),H D=none→Same H H2→H2 D=some (.lst (rs2.map fun r=>V.ref r.1))→RwLs H2 rs2→rs2.map (·.2.2)=(lad N).rev.sums→Q (.ref D) H2
noncomputable def GL (NA:NP):Sp:=fun vs H Q _=>∃ (p:Addr) (N:Nt) (od:List Str) (v:V) (k:String),vs=[.ref p,v]∧NA H p N od∧Thg H v k∧(∀ z∈N.names,v≠.str z)∧∀ H2,Same H H2→Q (.bl true) H2
noncomputable def Ee (NA:NP):Sp:=fun vs H Q _=>∃ (p i s u o:Addr) (N:Nt) (od:List Str) (rs:List Rw) (qs:List Qs),vs=[.ref p,.ref i,.ref s,.ref u]∧NA H p N od∧Hnd H i s u o rs qs N∧Gn N∧∀ H2,Same H H2→Q (.bl true) H2
noncomputable def Ef:Sp:=fun vs H Q _=>∃ (D i s u o:Addr) (N:Nt) (od:List Str) (rs:List Rw) (qs:List Qs),vs=[.ref D,.ref s]∧H D=some (.lst (od.map V.str))∧Hnd H i s u o rs qs N∧Gn N∧Topo N.sums od∧∀ H2,Same H H2→Q (.bl true) H2
noncomputable def GM (NA:NP):Sp:=fun vs H Q _=>∃ (p i s u o:Addr) (N:Nt) (od:List Str) (rs:List Rw) (qs:List Qs),vs=[.ref p,.ref i,.ref s,.ref u,.ref o]∧NA H p N od∧Hnd H i s u o rs qs N∧Gn N∧∀ H2,Same H H2→Q (.bl true) H2
theorem vC {N:Nt} (g:Gn N):N.ins.Nodup∧(N.sums.map (·.1)).Nodup∧(N.sts.map (·.1)).Nodup∧(∀ z∈N.ins,z∉N.sums.map (·.1))∧(∀ z∈N.ins,z∉N.sts.map (·.1))∧∀ z∈N.sums.map (·.1),z∉N.sts.map (·.1):=by
 have h:=g.nd
 unfold Nt.names at h
 obtain ⟨h1,h2,h3⟩:=List.nodup_append.mp h
 obtain ⟨h4,h5,h6⟩:=List.nodup_append.mp h1
 exact ⟨h4,h5,h2,fun z a b=>h6 z a z b rfl,fun z a b=>h3 z (List.mem_append_left _ a) z b rfl,fun z a b=>h3 z (List.mem_append_right _ a) z b rfl⟩
theorem Fj {α:Type}:∀ {l:List (Str×α)} {z:Str} {x y:α},(l.map (·.1)).Nodup→(z,x)∈l→(z,y)∈l→x=y
 | [],z,x,y,_,h,_=>by cases h
 | (w,v)::l,z,x,y,nd,h1,h2=>by
   rw [List.map_cons,List.nodup_cons] at nd
   rcases List.mem_cons.mp h1 with e1 | e1
   ·rcases List.mem_cons.mp h2 with e2 | e2
    ·exact (Prod.mk.inj (e1.trans e2.symm)).2
    ·exact absurd (List.mem_map.mpr ⟨_,e2,(Prod.mk.inj e1).1⟩) nd.1
   ·rcases List.mem_cons.mp h2 with e2 | e2
    ·exact absurd (List.mem_map.mpr ⟨_,e1,(Prod.mk.inj e2).1⟩) nd.1
    ·exact Fj nd.2 e1 e2
theorem IW {l:List Str} (nd:l.Nodup) {j k:Nat} {z:Str} (h1:l[j]? =some z) (h2:l[k]? =some z):j=k:=
 (List.getElem?_inj (List.getElem?_eq_some_iff.mp h1).1 nd).mp (h1.trans h2.symm)
theorem KW {H:Hp} {CI CS CT w:Addr} {N:Nt} {z:Str} {k:Nat} (g:Gn N) (h:N.ins[k]? =some z) (x:Wob H CI CS CT N z w):∃ dx,H w=some (.ins CI dx [("name",.str z),("number",nat k)]):=by
 obtain ⟨n1,n2,n3,n4,n5,n6⟩:=vC g
 have hm:=List.mem_of_getElem? h
 cases x with
 | i k' dx hk e=>rw [IW n1 h hk];exact ⟨dx,e⟩
 | s ws dx tw hk e et=>exact absurd (List.mem_map.mpr ⟨_,hk,rfl⟩) (n4 z hm)
 | t k' y dx hk e=>exact absurd (List.mem_map.mpr ⟨_,List.mem_of_getElem? hk,rfl⟩) (n5 z hm)
theorem Ji {H:Hp} {CI CS CT w:Addr} {N:Nt} {z:Str} {ws:List Str} (g:Gn N) (h:(z,ws)∈N.sums) (x:Wob H CI CS CT N z w):∃ dx tw,H w=some (.ins CS dx [("name",.str z),("wires",.ref tw)])∧H tw=some (.tup (ws.map V.str)):=by
 obtain ⟨n1,n2,n3,n4,n5,n6⟩:=vC g
 have hm:z∈N.sums.map (·.1):=List.mem_map.mpr ⟨_,h,rfl⟩
 cases x with
 | i k' dx hk e=>exact absurd hm (n4 z (List.mem_of_getElem? hk))
 | s ws' dx tw hk e et=>rw [Fj n2 h hk];exact ⟨dx,tw,e,et⟩
 | t k' y dx hk e=>exact absurd (List.mem_map.mpr ⟨_,List.mem_of_getElem? hk,rfl⟩) (n6 z hm)
theorem KU {H:Hp} {CI CS CT w:Addr} {N:Nt} {z y:Str} {k:Nat} (g:Gn N) (h:N.sts[k]? =some (z,y)) (x:Wob H CI CS CT N z w):∃ dx,H w=some (.ins CT dx [("name",.str z),("wire",.str y),("number",nat k)]):=by
 obtain ⟨n1,n2,n3,n4,n5,n6⟩:=vC g
 have hm:z∈N.sts.map (·.1):=List.mem_map.mpr ⟨_,List.mem_of_getElem? h,rfl⟩
 cases x with
 | i k' dx hk e=>exact absurd hm (n5 z (List.mem_of_getElem? hk))
 | s ws' dx tw hk e et=>exact absurd hm (n6 z (List.mem_map.mpr ⟨_,hk,rfl⟩))
 | t k' y' dx hk e=>
   have e1:(N.sts.map (·.1))[k]? =some z:=by rw [List.getElem?_map,h];rfl
   have e2:(N.sts.map (·.1))[k']? =some z:=by rw [List.getElem?_map,hk];rfl
   have hkk:=IW n3 e1 e2
   subst hkk
   rw [h] at hk
   cases hk
   exact ⟨dx,e⟩
theorem Cpy.rep {K:PySem.W.Frag} {H H2:Hp} {v v2:V} (c:Cpy H H2 v v2) (s:Same H H2):∃ d,Rep K H2 v d∧Rep K H2 v2 d∧depD d≤1:=by
 cases c with
 | sc h=>
   cases h with
   | str z l=>exact ⟨.str z,.str z,.str z,Nat.zero_le _⟩
   | int i=>exact ⟨.int i,.int i,.int i,Nat.zero_le _⟩
   | bl b=>exact ⟨.bl b,.bl b,.bl b,Nat.zero_le _⟩
   | non=>exact ⟨.non,.non,.non,by decide⟩
 | nil e e2=>exact ⟨.lst [],.lst (SqL.of (s.get e)) rfl fun i x d h=>by simp at h,.lst (SqL.of e2) rfl fun i x d h=>by simp at h,by decide⟩
theorem AY {K:PySem.W.Frag} {H:Hp} {D:Addr} {v:V} {d:Dt} (e:H D=some (.lst [v])) (r:Rep K H v d):Rep K H (.ref D) (.lst [d]):= .lst (SqL.of e) rfl fun i x y h1 h2=>by
 match i,h1,h2 with
 | 0,h1,h2=>cases h1;cases h2;exact r
 | i + 1,h1,_=>simp at h1
theorem pK {K:PySem.W.Frag} {H:Hp} {D:Addr} {x y:V} {d e:Dt} (h:H D=some (.tup [x,y])) (r1:Rep K H x d) (r2:Rep K H y e):Rep K H (.ref D) (.tup [d,e]):= .tup (SqT.of h) rfl fun i x y h1 h2=>by
 match i,h1,h2 with
 | 0,h1,h2=>cases h1;cases h2;exact r1
 | 1,h1,h2=>cases h1;cases h2;exact r2
 | i + 2,h1,_=>simp at h1
theorem xn {K:PySem.W.Frag} {H:Hp} {D:Addr} {x y z:V} {d e f:Dt} (h:H D=some (.tup [x,y,z])) (r1:Rep K H x d) (r2:Rep K H y e) (r3:Rep K H z f):Rep K H (.ref D) (.tup [d,e,f]):= .tup (SqT.of h) rfl fun i x y h1 h2=>by
 match i,h1,h2 with
 | 0,h1,h2=>cases h1;cases h2;exact r1
 | 1,h1,h2=>cases h1;cases h2;exact r2
 | 2,h1,h2=>cases h1;cases h2;exact r3
 | i + 3,h1,_=>simp at h1
theorem Ez {K:PySem.W.Frag} {H:Hp} {D:Addr} {x y z w:V} {d e f g:Dt} (h:H D=some (.lst [x,y,z,w])) (r1:Rep K H x d) (r2:Rep K H y e) (r3:Rep K H z f) (r4:Rep K H w g):Rep K H (.ref D) (.lst [d,e,f,g]):= .lst (SqL.of h) rfl fun i x y h1 h2=>by
 match i,h1,h2 with
 | 0,h1,h2=>cases h1;cases h2;exact r1
 | 1,h1,h2=>cases h1;cases h2;exact r2
 | 2,h1,h2=>cases h1;cases h2;exact r3
 | 3,h1,h2=>cases h1;cases h2;exact r4
 | i + 4,h1,_=>simp at h1
theorem Kr (N:Nt):depD (.lst [.lst (N.ins.map strD),.lst (N.sums.map rowD),.lst (N.sts.map stoD),.lst (N.outs.map strD)])≤100:=by
 rw [depD,cU,cU,cU,cU,depD,depD,depD,depD,fG,fG]
 have:=wg N.sums
 have:=wf N.sts
 simp [cU];omega
theorem lT {H:Hp} {R:Addr→Prop} (h:∀ b,R b→∃ xs,H b=some (.lst xs)) {b:Addr} {o:HO} (n:∀ xs,o≠.lst xs) (e:H b=some o):less H R b=some o:=by
 rw [pN fun z=>by obtain ⟨ys,hy⟩:=h b z;rw [hy] at e;exact n ys (Option.some.inj e).symm];exact e
theorem NetA.lessL {H:Hp} {R:Addr→Prop} (h:∀ b,R b→∃ xs,H b=some (.lst xs)) {C CI CS CT p:Addr} {N:Nt} {od:List Str} (x:NetA H C CI CS CT p N od):NetA (less H R) C CI CS CT p N od:=by
 obtain ⟨dx,i,s,t,o,d,tq,rs,qs,ws,a,b,c,e⟩:=x.ho
 refine ⟨⟨dx,i,s,t,o,d,tq,rs,qs,ws,lT h (fun _=>by simp) a,⟨fE h b.i,fE h b.s,fun r m=>⟨fE h (b.sr r m).1,fE h (b.sr r m).2⟩,b.es,fE h b.t,fun q m=>fE h (b.tr q m),b.et,fE h b.o⟩,⟨lT h (fun _=>by simp) c.d,c.nm,fun q m=>?_⟩,fE h e⟩,x.g,x.tp⟩
 cases c.ob q m with
 | i k dx hk e=>exact .i k dx hk (lT h (fun _=>by simp) e)
 | s ws dx tw hk e et=>exact .s ws dx tw hk (lT h (fun _=>by simp) e) (fE h et)
 | t k y dx hk e=>exact .t k y dx hk (lT h (fun _=>by simp) e)
theorem FA {z:Str} {l:List Str}:(inV (V.str z) (l.map V.str))=true↔z∈l:=by
 unfold inV
 rw [List.any_eq_true]
 constructor
 ·rintro ⟨x,hx,e⟩
  obtain ⟨y,hy,rfl⟩:=List.mem_map.mp hx
  have:y=z:=by simpa [eqV] using e
  rw [← this];exact hy
 ·intro h
  exact ⟨_,List.mem_map.mpr ⟨z,h,rfl⟩,by simp [eqV]⟩
theorem re {z:Str}:∀ {l:List Str},z∈l→∃ j:Nat,l[j]? =some z∧∀ i,i < j→l[i]? ≠some z
 | [],h=>by cases h
 | x::l,h=>by
   by_cases e:x=z
   ·exact ⟨0,by rw [e];rfl,fun i hi=>absurd hi (Nat.not_lt_zero i)⟩
   ·have hm:z∈l:=by
     rcases List.mem_cons.mp h with h | h
     ·exact absurd h.symm e
     ·exact h
    obtain ⟨j,h1,h2⟩:=re hm
    refine ⟨j + 1,h1,fun i hi=>?_⟩
    cases i with
    | zero=>exact fun q=>e (Option.some.inj q)
    | succ i=>exact h2 i (by omega)
theorem zj {sums:List (Str×List Str)} {od:List Str} (tp:Topo sums od) {z y:Str} {ws:List Str} (hz:(z,ws)∈sums) (hy:y∈ws) (hs:y∈sums.map (·.1)) {j k:Nat} (hj:od[j]? =some z) (hk:∀ i,i < k→od[i]? ≠some y):k < j:=by
 have:=tp.need j z hj ws hz y hy hs
 obtain ⟨i,hi,e⟩:=List.mem_iff_getElem.mp this
 rw [List.length_take] at hi
 rw [List.getElem_take] at e
 have hlt:i < od.length:=by omega
 rcases Nat.lt_or_ge i k with h | h
 ·exact absurd (by rw [List.getElem?_eq_getElem hlt,e]) (hk i h)
 ·omega
end Sx
namespace My
open PySem L2 Sx
local macro_rules | `(tactic| walk_at "o") =>`(tactic| first | exact Or.inl rfl | exact Or.inr rfl)
local macro_rules | `(tactic| walk_at "s") =>`(tactic| exact ⟨rfl,rfl,rfl,by decide +kernel,rfl,by decide +kernel,by decide +kernel⟩)
local macro_rules | `(tactic| walk_at "l2side") =>`(tactic| first | assumption | rfl | omega | decide | ((try dsimp only [CDiv,NR,CPow,CMul]);first | omega | decide | (refine ⟨?_,?_⟩<;>first | omega | decide) | (refine ⟨?_,?_,?_⟩<;>first | omega | decide) | (left;refine ⟨?_,?_⟩<;>first | omega | decide) | (right;refine ⟨?_,?_⟩<;>first | omega | decide)))
local macro_rules | `(tactic| walk_at "l2len") =>`(tactic| ((with_reducible show _ + _≤sizeLine);first | assumption | (rw [sizeLine_eq];omega) | omega))
local macro_rules | `(tactic| walk_at "l2at") =>`(tactic| first | assumption | exact au | (refine' Same.get (by assumption) ?h;(case h=>walk_at "l2at")))
local macro_rules | `(tactic| walk_at "l2hp") =>`(tactic| first | assumption | (refine' SqL.of ?h;(case h=>walk_at "l2at")) | (refine' SqT.of ?h;(case h=>walk_at "l2at")) | (refine' Same.seq (by assumption) ?h;(case h=>walk_at "l2hp")) | (refine' Same.tup (by assumption) ?h;(case h=>walk_at "l2hp")) | (refine' Rep.same (by assumption) ?h;(case h=>walk_at "l2hp")) | walk_at "l2at")
local macro_rules | `(tactic| walk_at "l2kind") =>`(tactic| first | assumption | exact rfl | (refine' Or.inl ⟨rfl,_,?e⟩;(case e=>walk_at "l2hp")) | (refine' Or.inr (Or.inl ⟨rfl,_,?e⟩);(case e=>walk_at "l2hp")) | (refine' Or.inr (Or.inr ⟨rfl,_,Or.inl ?e⟩);(case e=>walk_at "l2hp")))
local macro_rules | `(tactic| walk_at "l2step") =>`(tactic| first
 | (with_reducible refine Ni ?_) | (with_reducible refine NB ?_) | (with_reducible refine s_if ?_) | (with_reducible refine Nk ?_) | (with_reducible refine s_retN ?_) | (with_reducible refine LC ?_) | (with_reducible refine Lm ?_)
 | ((with_reducible refine' Nf ?e ?_);(case e=>repeat constructor)) | (with_reducible refine s_c ?_) | (with_reducible refine s_op ?_) | (with_reducible refine s_un ?_)
 | (with_reducible refine LH ?_) | (with_reducible refine Np ?_) | (with_reducible refine JF ?_) | (with_reducible refine s_cb ?_)
 | (with_reducible refine Nl ?_) | ((with_reducible refine' s_rI ?e ?_);(case e=>walk_at "l2side")) | (with_reducible refine s_rU ?_)
 | ((with_reducible refine' Nn ?e ?_);(case e=>rfl)) | ((with_reducible refine' s_rNe ?e ?_);(case e=>rfl)) | (with_reducible refine s_leS ?_)
 | (with_reducible refine Lg ?_) | (with_reducible refine s_tB ?_) | (with_reducible refine L2.s_chain ?_) | (with_reducible refine NC ?_) | (with_reducible refine s_or ?_) | (with_reducible refine No ?_)
 | (with_reducible refine LK ?_) | (with_reducible refine s_orV ?_) | (with_reducible refine s_notV ?_) | (with_reducible refine s_ifE ?_)
 | ((with_reducible refine' Jy ?e ?_);(case e=>repeat constructor)) | (with_reducible refine Jz ?_) | (with_reducible refine LB ?_) | ((with_reducible refine' Ly ?e ?l ?_);(case e=>walk_at "l2hp");(case l=>rfl))
 | (with_reducible refine Ng ?_) | (with_reducible refine Nq ?_) | ((with_reducible refine' Lo ?l ?_);(case l=>exact Ff (Nat.le_of_ble_eq_true rfl))) | ((with_reducible refine' Ln ?l ?_);(case l=>exact Ff (Nat.le_of_ble_eq_true rfl)))
 | (with_reducible refine s_sl ?_) | (with_reducible refine GW ?_) | (with_reducible refine Ll ?_)
 | ((with_reducible refine' Nh ?e ?_);(case e=>walk_at "l2hp")) | ((with_reducible refine' s_slS ?e ?_);(case e=>walk_at "l2side"))
 | ((with_reducible refine' Nu ?e ?a ?_);(case e=>walk_at "l2hp");(case a=>first | assumption | rfl)) | ((with_reducible refine' Nr ?e ?a ?_);(case e=>walk_at "l2hp");(case a=>first | assumption | rfl))
 | ((with_reducible refine' s_ty ?e ?_);(case e=>first | exact rfl | (refine' Or.inl ⟨rfl,_,?f⟩;(case f=>walk_at "l2hp")) | (refine' Or.inr (Or.inr (Or.inl ⟨rfl,Or.inl ⟨_,?f⟩⟩));(case f=>walk_at "l2hp"))))
 | (with_reducible refine Nz ?_) | (with_reducible refine s_bm ?_) | (with_reducible refine s_bits ?_)
 | ((with_reducible refine' Lv ?e ?_);(case e=>walk_at "l2hp")) | ((with_reducible refine' Ls ?e ?_);(case e=>walk_at "l2hp")) | ((with_reducible refine' Lu ?e ?_);(case e=>walk_at "l2side"))
 | ((with_reducible refine' Nv ?e ?m ?_);(case e=>walk_at "l2kind");(case m=>decide))
 | (with_reducible refine LF ?_) | (with_reducible refine Nw ?_) | (with_reducible refine Jx ?_) | (with_reducible refine Lw ?_) | (with_reducible refine Lx ?_) | (with_reducible refine Lj ?_) | (with_reducible refine Li ?_)
 | (with_reducible refine Nd ?_) | (with_reducible refine Lf ?_) | (with_reducible refine JA ?_) | (with_reducible refine s_intB ?_) | (with_reducible refine s_inS ?_) | ((with_reducible refine' s_addS ?e ?_);(case e=>walk_at "l2side"))
 | (with_reducible refine LJ ?_) | ((with_reducible refine' xl ?e ?_);(case e=>first | rfl | decide | assumption)) | ((with_reducible refine' kZ ?e ?_);(case e=>first | rfl | decide | assumption)) | ((with_reducible refine' G1 ?a ?b ?_);(case a=>omega);(case b=>omega))
 | (with_reducible refine ⟨_,_,rfl,rfl,?_⟩;(with_reducible refine ⟨?l,?_⟩);(case l=>walk_at "l2len")) | (with_reducible refine ⟨_,_,rfl,rfl,?_⟩) | (with_reducible refine Or.inl ⟨_,rfl,?_⟩) | (with_reducible refine Or.inr ⟨_,rfl,?_⟩)
 | (with_reducible refine ⟨_,rfl,?_⟩) | (with_reducible refine ⟨rfl,?_⟩) | ((with_reducible refine' ⟨⟨_,?e⟩,?_⟩);(case e=>walk_at "l2hp")))
local macro_rules | `(tactic| walk_at "l2") =>`(tactic| repeat walk_at "l2step")
local macro_rules | `(tactic| walk_at "l2step") =>`(tactic| first
 | (with_reducible refine GU ?_) | (with_reducible refine Nx ?_) | (with_reducible refine Lq ?_) | (with_reducible refine GX ?_) | (with_reducible refine Lp ?_) | (with_reducible refine LD ?_) | (with_reducible refine LG ?_) | (with_reducible refine s_iEnum ?_)
 | ((with_reducible refine' Ju ?e ?_);(case e=>walk_at "l2hp")) | ((with_reducible refine' Jt ?e ?_);(case e=>walk_at "l2hp")) | ((with_reducible refine' Ld ?e ?_);(case e=>walk_at "l2hp")) | ((with_reducible refine' Lc ?e ?_);(case e=>walk_at "l2hp")))
local macro_rules | `(tactic| walk_at "l2step") =>`(tactic| first
 | (with_reducible refine Ny ?_) | (with_reducible refine LE ?_) | (with_reducible refine s_disp1I ?_) | ((with_reducible refine' Jv ?e ?_);(case e=>walk_at "l2at")))
local macro_rules | `(tactic| walk_at "l2step") =>`(tactic| first | (with_reducible refine s_raise ?_) | (with_reducible refine s_try0 ?_) | (with_reducible refine JE ?_))
noncomputable def top (i:Nat):Stmt:=PySem.Challenge.pw_sumwires_k12_nets_told.main.body.getD i (.Pass ⟨0,0,0,0⟩)
noncomputable abbrev pZ:Stmt:=top 3
theorem Em:aG ["thing","depth"] ["thing","depth"] (af pZ):=by walk_at "s"
noncomputable abbrev bN:Stmt:=dE (top 8) 0
theorem kU:aG ["self","name"] ["self","name"] (af bN):=by walk_at "s"
noncomputable abbrev cb:Stmt:=dE (top 11) 0
theorem oH:aG ["self","name"] ["self","name"] (af cb):=by walk_at "s"
noncomputable abbrev bO:Stmt:=dE (top 12) 0
theorem kW:aG ["self","name","number"] ["self","name","number"] (af bO):=by walk_at "s"
noncomputable abbrev bG:Stmt:=dE (top 13) 0
theorem ki:aG ["self","name","wires"] ["self","name","wires"] (af bG):=by walk_at "s"
noncomputable abbrev bv:Stmt:=dE (top 14) 0
theorem jf:aG ["self","name","wire","number"] ["self","name","wire","number"] (af bv):=by walk_at "s"
noncomputable abbrev fV:Stmt:=top 19
theorem BU:aG ["thing"] ["thing"] (af fV):=by walk_at "s"
noncomputable abbrev cn:Stmt:=top 26
theorem r8:aG ["ins","sums","stores","outs"] ["ins","sums","stores","outs"] (af cn):=by walk_at "s"
noncomputable abbrev cO:Stmt:=top 27
theorem gP:aG ["names","known","name"] ["names"] (af cO):=by walk_at "s"
noncomputable abbrev du:Stmt:=top 28
theorem uT:aG ["wire","known"] ["wire","known"] (af du):=by walk_at "s"
noncomputable abbrev cN:Stmt:=top 29
theorem de:aG ["sums","stores","outs","known","row","wire"] ["sums","stores","outs","known"] (af cN):=by walk_at "s"
noncomputable abbrev a9:Stmt:=top 30
theorem iR:aG ["ins","sums","stores","wires"] ["ins","sums","stores"] (af a9):=by walk_at "s"
noncomputable abbrev kj:Stmt:=top 31
theorem GT:aG ["row","waiting"] ["row","waiting"] (af kj):=by walk_at "s"
noncomputable abbrev eO:Stmt:=top 33
theorem fQ:aG ["sums","names","left","waiting","ready"] ["sums"] (af eO):=by walk_at "s"
noncomputable abbrev bp:Stmt:=dE (top 34) 0
theorem pX:aG ["self","ins","sums","stores","outs"] ["self","ins","sums","stores","outs"] (af bp):=by walk_at "s"
noncomputable abbrev cA:Stmt:=dE (top 34) 1
theorem pW:aG ["self"] ["self"] (af cA):=by walk_at "s"
noncomputable abbrev cz:Stmt:=dE (top 34) 2
theorem pV:aG ["self"] ["self"] (af cz):=by walk_at "s"
noncomputable abbrev bY:Stmt:=dE (top 34) 3
theorem mF:aG ["self"] ["self"] (af bY):=by walk_at "s"
noncomputable abbrev cc:Stmt:=dE (top 34) 4
theorem oI:aG ["self"] ["self"] (af cc):=by walk_at "s"
noncomputable abbrev fS:Stmt:=dE (top 34) 5
theorem zo:aG ["self"] ["self"] (af fS):=by walk_at "s"
noncomputable abbrev bX:Stmt:=dE (top 34) 6
theorem mE:aG ["self"] ["self"] (af bX):=by walk_at "s"
noncomputable abbrev cQ:Stmt:=dE (top 34) 7
theorem r9:aG ["self","name"] ["self","name"] (af cQ):=by walk_at "s"
noncomputable abbrev dU:Stmt:=dE (top 34) 8
theorem xk:aG ["self"] ["self"] (af dU):=by walk_at "s"
noncomputable abbrev dS:Stmt:=top 36
theorem xj:aG ["_law_script","_law_k"] ["_law_script","_law_k"] (af dS):=by walk_at "s"
noncomputable abbrev fR:Stmt:=top 37
theorem kh:aG ["_law_cell_here","_law_k","_law_number"] ["_law_cell_here","_law_k"] (af fR):=by walk_at "s"
noncomputable abbrev dR:Stmt:=top 38
theorem ck:aG ["_law_cell_here","_law_k","_law_letters","_law_some"] ["_law_cell_here","_law_k"] (af dR):=by walk_at "s"
noncomputable abbrev cE:Stmt:=top 39
theorem cL:aG ["_law_cell_here","_law_start","_law_names","_law_digits","_law_left","_law_found","_law_k","_law_many"] ["_law_cell_here","_law_start","_law_names","_law_digits"] (af cE):=by walk_at "s"
noncomputable abbrev cP:Stmt:=top 40
theorem aM:aG ["_law_script","_law_start","_law_most","_law_cell_here","_law_sizes","_law_ins","_law_stores","_law_known","_law_sums","_law_k","_law_wires_here","_law_at","_law_ends","_law_name_here","_law_outs"] ["_law_script","_law_start","_law_most"] (af cP):=by walk_at "s"
noncomputable abbrev dm:Stmt:=top 41
theorem xi:aG ["_law_ins","_law_sums","_law_stores","_law_outs"] ["_law_ins","_law_sums","_law_stores","_law_outs"] (af dm):=by walk_at "s"
noncomputable abbrev cq:Stmt:=top 42
theorem gQ:aG ["_law_sums","_law_found","_law_k"] ["_law_sums"] (af cq):=by walk_at "s"
noncomputable abbrev cy:Stmt:=top 43
theorem dA:aG ["_law_net_here","_law_thing","_law_told_here","e"] ["_law_net_here","_law_thing"] (af cy):=by walk_at "s"
noncomputable abbrev bM:Stmt:=top 44
theorem az:aG ["_law_net_here","_law_ins","_law_sums","_law_stores","_law_k","_law_name_here","_law_one","_law_wires_here","_law_wire"] ["_law_net_here","_law_ins","_law_sums","_law_stores"] (af bM):=by walk_at "s"
noncomputable abbrev bA:Stmt:=top 45
theorem bZ:aG ["_law_order","_law_sums","_law_names","_law_name_here","_law_wires_here","_law_wire"] ["_law_order","_law_sums"] (af bA):=by walk_at "s"
noncomputable abbrev cF:Stmt:=top 46
theorem cD:aG ["_law_net_here","_law_ins","_law_sums","_law_stores","_law_outs","_law_due","_law_told_here","_law_found","_law_names","_law_order","_law_some"] ["_law_net_here","_law_ins","_law_sums","_law_stores","_law_outs"] (af cF):=by walk_at "s"
noncomputable abbrev uU:Stmt:=top 47
theorem je:aG ["_law_script","_law_ins","_law_sums","_law_stores","_law_outs","_law_wires_here","_law_handed","_law_net_here","_law_some","_law_thing"] ["_law_script"] (af uU):=by walk_at "s"
set_option genInjectivity false in
set_option genSizeOf false in
structure Ad where
 j6:Addr
 Bo:FuncData
 aJ:Addr
 dZ:FuncData
 ba:Addr
 bS:FuncData
 aE:Addr
 d0:FuncData
 aA:Addr
 dH:FuncData
 ax:Addr
 c9:FuncData
 dG:Addr
 rp:FuncData
 bJ:Addr
 iD:FuncData
 bK:Addr
 iE:FuncData
 b3:Addr
 jB:FuncData
 bI:Addr
 iC:FuncData
 bq:Addr
 gt:FuncData
 iz:Addr
 An:FuncData
 dF:Addr
 rn:FuncData
 be:Addr
 gZ:FuncData
 bc:Addr
 gY:FuncData
 bb:Addr
 gX:FuncData
 aI:Addr
 fi:FuncData
 aP:Addr
 gu:FuncData
 ci:Addr
 nv:FuncData
 aH:Addr
 fh:FuncData
 bt:Addr
 iH:FuncData
 bR:Addr
 kH:FuncData
 cw:Addr
 kG:FuncData
 cT:Addr
 nu:FuncData
 b7:Addr
 iF:FuncData
 b4:Addr
 jC:FuncData
 cS:Addr
 nq:FuncData
 cu:Addr
 kE:FuncData
 bL:Addr
 iG:FuncData
 bB:Addr
 gW:FuncData
 aR:Addr
 dX:FuncData
 aS:Addr
 dY:FuncData
 cv:Addr
 kF:FuncData
 yz:Addr
 Kz:FuncData
 aV:Addr
 al:Addr
 ai:Addr
 ae:Addr
 aQ:Addr
 bU:Addr
 bE:Addr
 ao:Addr
 i9:Tok
 pP:Tok
 gO:Tok
 mB:Tok
 ke:Tok
 il:Tok
 kd:Tok
 i8:Tok
 i7:Tok
open PySem.W in
structure Tx (K:Frag) (mg:Str→Option Value) (a:Ad):Prop where
 zb:Fun K "kept" "kept" pZ a.j6 a.Bo
 IR:keepIn K (.ref a.j6)=true
 Bu:bP K a.Bo ["thing","depth"] []
 IT:mg "kept"=some (.ref a.j6)
 cZ:Fun K "__init__" "NoWire.__init__" bN a.aJ a.dZ
 Cz:keepIn K (.ref a.aJ)=true
 d4:bP K a.dZ ["self","name"] []
 dN:Fun K "__init__" "Wire.__init__" cb a.ba a.bS
 Fp:keepIn K (.ref a.ba)=true
 cJ:bP K a.bS ["self","name"] []
 c6:Fun K "__init__" "InWire.__init__" bO a.aE a.d0
 CA:keepIn K (.ref a.aE)=true
 d5:bP K a.d0 ["self","name","number"] []
 cC:Fun K "__init__" "SumWire.__init__" bG a.aA a.dH
 Bg:keepIn K (.ref a.aA)=true
 dI:bP K a.dH ["self","name","wires"] []
 ca:Fun K "__init__" "StoreWire.__init__" bv a.ax a.c9
 zf:keepIn K (.ref a.ax)=true
 dc:bP K a.c9 ["self","name","wire","number"] []
 mx:Fun K "is_name" "is_name" fV a.dG a.rp
 yk:keepIn K (.ref a.dG)=true
 ml:bP K a.rp ["thing"] []
 yp:mg "is_name"=some (.ref a.dG)
 fM:Fun K "check_sizes" "check_sizes" cn a.bJ a.iD
 vO:keepIn K (.ref a.bJ)=true
 iJ:bP K a.iD ["ins","sums","stores","outs"] []
 vW:mg "check_sizes"=some (.ref a.bJ)
 fN:Fun K "check_names" "check_names" cO a.bK a.iE
 vP:keepIn K (.ref a.bK)=true
 iK:bP K a.iE ["names"] []
 vX:mg "check_names"=some (.ref a.bK)
 gM:Fun K "check_wire" "check_wire" du a.b3 a.jB
 gC:keepIn K (.ref a.b3)=true
 dz:bP K a.jB ["wire","known"] []
 gG:mg "check_wire"=some (.ref a.b3)
 fL:Fun K "check_wires" "check_wires" cN a.bI a.iC
 vN:keepIn K (.ref a.bI)=true
 iI:bP K a.iC ["sums","stores","outs","known"] []
 vV:mg "check_wires"=some (.ref a.bI)
 dM:Fun K "wires_by_name" "wires_by_name" a9 a.bq a.gt
 qT:keepIn K (.ref a.bq)=true
 gw:bP K a.gt ["ins","sums","stores"] []
 qX:mg "wires_by_name"=some (.ref a.bq)
 wO:Fun K "waits" "waits" kj a.iz a.An
 Fn:keepIn K (.ref a.iz)=true
 wA:bP K a.An ["row","waiting"] []
 FE:mg "waits"=some (.ref a.iz)
 mw:Fun K "ordered" "ordered" eO a.dF a.rn
 Fo:keepIn K (.ref a.dF)=true
 rK:bP K a.rn ["sums"] []
 FF:mg "ordered"=some (.ref a.dF)
 eG:Fun K "__init__" "Net.__init__" bp a.be a.gZ
 Gx:keepIn K (.ref a.be)=true
 g6:bP K a.gZ ["self","ins","sums","stores","outs"] []
 eu:Fun K "in_names" "Net.in_names" cA a.bc a.gY
 Gw:keepIn K (.ref a.bc)=true
 ee:bP K a.gY ["self"] []
 eh:Fun K "sum_rows" "Net.sum_rows" cz a.bb a.gX
 Gv:keepIn K (.ref a.bb)=true
 d9:bP K a.gX ["self"] []
 dk:Fun K "store_rows" "Net.store_rows" bY a.aI a.fi
 DH:keepIn K (.ref a.aI)=true
 di:bP K a.fi ["self"] []
 dO:Fun K "out_wires" "Net.out_wires" cc a.aP a.gu
 Fq:keepIn K (.ref a.aP)=true
 dJ:bP K a.gu ["self"] []
 jO:Fun K "told" "Net.told" fS a.ci a.nv
 KP:keepIn K (.ref a.ci)=true
 nK:bP K a.nv ["self"] []
 dj:Fun K "wire_names" "Net.wire_names" bX a.aH a.fh
 DG:keepIn K (.ref a.aH)=true
 fj:bP K a.fh ["self"] []
 fP:Fun K "wire_of" "Net.wire_of" cQ a.bt a.iH
 Hx:keepIn K (.ref a.bt)=true
 cV:bP K a.iH ["self","name"] []
 iQ:Fun K "order" "Net.order" dU a.bR a.kH
 Kj:keepIn K (.ref a.bR)=true
 kL:bP K a.kH ["self"] []
 iP:Fun K "_law_cell" "_law_cell" dS a.cw a.kG
 gi:keepIn K (.ref a.cw)=true
 dq:bP K a.kG ["_law_script","_law_k"] []
 gq:mg "_law_cell"=some (.ref a.cw)
 jN:Fun K "_law_mix" "_law_mix" fR a.cT a.nu
 bg:keepIn K (.ref a.cT)=true
 aU:bP K a.nu ["_law_cell_here","_law_k"] []
 bh:mg "_law_mix"=some (.ref a.cT)
 gy:Fun K "_law_name" "_law_name" dR a.b7 a.iF
 gh:keepIn K (.ref a.b7)=true
 dn:bP K a.iF ["_law_cell_here","_law_k"] []
 gn:mg "_law_name"=some (.ref a.b7)
 gN:Fun K "_law_wires" "_law_wires" cE a.b4 a.jC
 yl:keepIn K (.ref a.b4)=true
 jI:bP K a.jC ["_law_cell_here","_law_start","_law_names","_law_digits"] []
 yq:mg "_law_wires"=some (.ref a.b4)
 jM:Fun K "_law_net" "_law_net" cP a.cS a.nq
 Cy:keepIn K (.ref a.cS)=true
 nJ:bP K a.nq ["_law_script","_law_start","_law_most"] []
 CD:mg "_law_net"=some (.ref a.cS)
 iN:Fun K "_law_told" "_law_told" dm a.cu a.kE
 z9:keepIn K (.ref a.cu)=true
 kK:bP K a.kE ["_law_ins","_law_sums","_law_stores","_law_outs"] []
 Ab:mg "_law_told"=some (.ref a.cu)
 fO:Fun K "_law_ladder" "_law_ladder" cq a.bL a.iG
 vQ:keepIn K (.ref a.bL)=true
 iL:bP K a.iG ["_law_sums"] []
 vY:mg "_law_ladder"=some (.ref a.bL)
 eg:Fun K "_law_missing" "_law_missing" cy a.bB a.gW
 tR:keepIn K (.ref a.bB)=true
 g5:bP K a.gW ["_law_net_here","_law_thing"] []
 tS:mg "_law_missing"=some (.ref a.bB)
 cW:Fun K "_law_wires_good" "_law_wires_good" bM a.aR a.dX
 nb:keepIn K (.ref a.aR)=true
 d2:bP K a.dX ["_law_net_here","_law_ins","_law_sums","_law_stores"] []
 ng:mg "_law_wires_good"=some (.ref a.aR)
 cX:Fun K "_law_order_good" "_law_order_good" bA a.aS a.dY
 nc:keepIn K (.ref a.aS)=true
 d3:bP K a.dY ["_law_order","_law_sums"] []
 nh:mg "_law_order_good"=some (.ref a.aS)
 iO:Fun K "_law_good" "_law_good" cF a.cv a.kF
 qU:keepIn K (.ref a.cv)=true
 iM:bP K a.kF ["_law_net_here","_law_ins","_law_sums","_law_stores","_law_outs"] []
 qY:mg "_law_good"=some (.ref a.cv)
 Io:Fun K "law" "law" uU a.yz a.Kz
 NV:keepIn K (.ref a.yz)=true
 MQ:bP K a.Kz ["_law_script"] []
 NW:mg "law"=some (.ref a.yz)
 FG:mg "Wire"=some (.ref a.aV)
 NU:Cls K a.aV
 NT:AM K a.aV
 Gm:ar K a.aV "by_name"
 KL:ar K a.aV "ins"
 A9:ar K a.aV "kept_stores"
 Kb:ar K a.aV "name"
 Hg:ar K a.aV "number"
 Ka:ar K a.aV "outs"
 J9:ar K a.aV "ring"
 Dz:ar K a.aV "sum_order"
 J8:ar K a.aV "sums"
 J7:ar K a.aV "wire"
 IN:ar K a.aV "wires"
 lZ:kitOne K (.ref a.aV) (.ref a.al)=some false
 iW:kitOne K (.ref a.aV) (.ref a.ae)=some false
 j5:kitOne K (.ref a.aV) (.ref a.ai)=some false
 Bj:mg "InWire"=some (.ref a.al)
 my:Cls K a.al
 Im:AM K a.al
 Ik:Mk K a.al a.aE
 DF:ar K a.al "by_name"
 IQ:ar K a.al "ins"
 ze:ar K a.al "kept_stores"
 iw:ar K a.al "name"
 ju:ar K a.al "number"
 Hq:ar K a.al "outs"
 Ho:ar K a.al "ring"
 Bb:ar K a.al "sum_order"
 Hn:ar K a.al "sums"
 Hm:ar K a.al "wire"
 Gu:ar K a.al "wires"
 gm:kitOne K (.ref a.al) (.ref a.al)=some true
 gE:kitOne K (.ref a.al) (.ref a.ae)=some false
 iY:kitOne K (.ref a.al) (.ref a.ai)=some false
 yr:mg "SumWire"=some (.ref a.ai)
 jK:Cls K a.ai
 Ge:AM K a.ai
 Gd:Mk K a.ai a.aA
 Ci:ar K a.ai "by_name"
 Hh:ar K a.ai "ins"
 x2:ar K a.ai "kept_stores"
 gU:ar K a.ai "name"
 DA:ar K a.ai "number"
 Gr:ar K a.ai "outs"
 Gq:ar K a.ai "ring"
 zP:ar K a.ai "sum_order"
 Gp:ar K a.ai "sums"
 Go:ar K a.ai "wire"
 jr:ar K a.ai "wires"
 iX:kitOne K (.ref a.ai) (.ref a.al)=some false
 gj:kitOne K (.ref a.ai) (.ref a.ae)=some false
 dW:kitOne K (.ref a.ai) (.ref a.ai)=some true
 qZ:mg "StoreWire"=some (.ref a.ae)
 dr:Cls K a.ae
 AN:AM K a.ae
 AL:Mk K a.ae a.ax
 zQ:ar K a.ae "by_name"
 E8:ar K a.ae "ins"
 vD:ar K a.ae "kept_stores"
 fg:ar K a.ae "name"
 gB:ar K a.ae "number"
 DD:ar K a.ae "outs"
 DC:ar K a.ae "ring"
 x3:ar K a.ae "sum_order"
 DB:ar K a.ae "sums"
 iU:ar K a.ae "wire"
 Cj:ar K a.ae "wires"
 gD:kitOne K (.ref a.ae) (.ref a.al)=some false
 cI:kitOne K (.ref a.ae) (.ref a.ae)=some true
 gl:kitOne K (.ref a.ae) (.ref a.ai)=some false
 NK:mg "Net"=some (.ref a.aQ)
 cB:Cls K a.aQ
 NY:AM K a.aQ
 NQ:Mk K a.aQ a.be
 j4:Meth K a.aQ "in_names" a.bc
 j3:Meth K a.aQ "sum_rows" a.bb
 iV:Meth K a.aQ "store_rows" a.aI
 jw:Meth K a.aQ "out_wires" a.aP
 Cp:Meth K a.aQ "told" a.ci
 o6:Meth K a.aQ "wire_names" a.aH
 fz:Meth K a.aQ "wire_of" a.bt
 zT:Meth K a.aQ "order" a.bR
 dD:ar K a.aQ "by_name"
 qA:ar K a.aQ "ins"
 cR:ar K a.aQ "kept_stores"
 KO:ar K a.aQ "name"
 IP:ar K a.aQ "number"
 mV:ar K a.aQ "outs"
 KN:ar K a.aQ "ring"
 jt:ar K a.aQ "sum_order"
 ia:ar K a.aQ "sums"
 KM:ar K a.aQ "wire"
 Kc:ar K a.aQ "wires"
 oi:kitOne K (.ref a.aQ) (.ref a.al)=some false
 jz:kitOne K (.ref a.aQ) (.ref a.ae)=some false
 l0:kitOne K (.ref a.aQ) (.ref a.ai)=some false
 bS:Je K a.aV "__init__" a.ba
 Ac:mg "WireError"=some (.ref a.bU)
 zh:MX K a.bU
 MC:mg "TooMany"=some (.ref a.bE)
 kN:excIn K a.bE [.type "ValueError",.type "Exception",.type "BaseException",.type "object"] "ValueError.__new__"=true
 M4:XIsi K a.bE
 Mw:keepIn K (.ref a.bE)=true
 iS:mroIn K a.bE (.ref a.ao)=some false
 Bi:mg "NoWire"=some (.ref a.ao)
 HN:wP K a.ao
 wJ:XOwn K a.ao a.bU a.aJ
 Il:XIsi K a.ao
 qW:hasDictIn K a.ao=true
 fX:mroIn K a.ao (.ref a.ao)=some true
 DE:ar K a.ao "by_name"
 IO:ar K a.ao "ins"
 zd:ar K a.ao "kept_stores"
 lS:ar K a.ao "name"
 E9:ar K a.ao "number"
 Hl:ar K a.ao "outs"
 Hk:ar K a.ao "ring"
 Ba:ar K a.ao "sum_order"
 Hj:ar K a.ao "sums"
 Hi:ar K a.ao "wire"
 Gs:ar K a.ao "wires"
 Aa:kitOne K (.ref a.ao) (.type "ValueError")=some true
 yv:mg "KEPT_DEPTH"=some (.int 12 a.i9)
 FH:mg "LETTERS"=some (.str "abcdefghijklmnopqrstuvwxyz" a.pP)
 tT:mg "LONGEST_NAME"=some (.int 6 a.gO)
 CF:mg "MOST_INS"=some (.int 6 a.mB)
 Af:mg "MOST_OUTS"=some (.int 6 a.ke)
 vZ:mg "MOST_STORES"=some (.int 16 a.il)
 Ae:mg "MOST_SUMS"=some (.int 40 a.kd)
 yu:mg "MOST_WIRES"=some (.int 24 a.i8)
 yt:mg "NAME_SIGNS"=some (.str "abcdefghijklmnopqrstuvwxyz0123456789" a.i7)
 NH:mg "all"=none
 Mm:mg "any"=none
 E7:mg "dict"=none
 ge:mg "enumerate"=none
 b0:mg "isinstance"=none
 iu:mg "len"=none
 df:mg "list"=none
 NG:mg "max"=none
 ir:mg "range"=none
 Ch:mg "reversed"=none
 A8:mg "sorted"=none
 E6:mg "str"=none
 ff:mg "tuple"=none
section
variable {P:Program} {w:World} {K:PySem.W.Frag} {mg:Str→Option Value} {base:Heap} {a:Ad}
theorem uA (T:Tx K mg a):FnOk P w K mg base CX0 1 a.dG a.rp ["thing"] (Eb K):=by
 refine T.mx.ok BU (fun vs H Q E h=>?_) (fun cdv A outer s H vs Q E hr h=>?_)
 ·obtain ⟨x,k,rfl,_⟩:=h;rfl
 ·obtain ⟨x,k,rfl,hk,hz,q⟩:=h
  have q0:=q H (Same.refl H)
  refine ⟨_,((ah (c8 (PW.pt (sg (gz (dw (aB (ii (K:=K) rfl) (by rfl) T.b0 PyProof.Rows.boot_isinstance (aa (pv 0) (aa (mJ (v:= .ty "str") (by rfl) T.E6 PyProof.Rows.boot_str rfl) ad))))) (sg (bw xF (pv 0) fo (bV _)) (nZ (bw xE (aB (bu (K:=K) rfl) (by rfl) T.iu PySem.boot_len (aa (pv 0) ad)) (eW (v:= .int 6) (by rfl) T.tT ⟨_,rfl⟩) (bV _)))))) (ak (aZ i5)) aW)
   (ak (aZ (Mc (p9 xD (cj Fw (pv 0) am (fun _ _=>rfl)) (eW (v:= .str "abcdefghijklmnopqrstuvwxyz") (by rfl) T.FH ⟨_,rfl⟩) (by rfl)) (L7 (aB (FY (K:=K) rfl rfl) (by rfl) T.NH PyProof.Rows.boot_all (aa (cr (osc:=af fV) (ON:=["thing"]) (N:=["sign"]) (n:=1) (fx:=[]) rfl rfl rfl (by decide +kernel) (L4 (pv 0)) (bo (by decide)) (fun _ _ _ _ _=>⟨(av (i:=0) (show List.Nodup (["sign"]:List Str) from by decide +kernel) rfl (by walk_at "o")),bQ,(p9 xD (pv 0) (eW (v:= .str "abcdefghijklmnopqrstuvwxyz0123456789") (by rfl) T.yt ⟨_,rfl⟩) (by rfl))⟩)) ad)))))))),aK (σ':=[some _]) rfl ?_⟩
  walk_at "l2"
  cases x with
  | int i=>have hk:k="int":=hk;subst hk;walk_at "l2";exact q0
  | bl b=>have hk:k="bool":=hk;subst hk;walk_at "l2";exact q0
  | non=>have hk:k="NoneType":=hk;subst hk;walk_at "l2";exact q0
  | ref p=>rcases hk with ⟨rfl,_⟩ | ⟨rfl,_⟩ | ⟨rfl,_⟩<;>walk_at "l2"<;>exact q0
  | str z=>
    have hk:k="str":=hk
    subst hk
    have hz:=hz z rfl
    have hs:z.length≤sizeLine:=Nat.le_of_lt (bz hz)
    have q:∀ H',Same H H'→Q (.bl (nm z.cps.toList)) H':=q
    have q0:=q H (Same.refl H)
    walk_at "l2"
    by_cases h1:z=""
    ·rw [DY.mp h1] at q0
     refine xl (by rw [decide_eq_true];rw [h1]) ?_
     walk_at "l2"
     exact q0
    ·refine kZ (by rw [decide_eq_false];exact fun z=>h1 (V.str.inj z)) ?_
     walk_at "l2"
     obtain ⟨c,r,hcr⟩:∃ c r,z.cps.toList=c::r:=by
      cases hl:z.cps.toList with
      | nil=>exact absurd (DY.mpr hl) h1
      | cons c r=>exact ⟨c,r,rfl⟩
     have hlen:=Be z
     rw [hcr] at q0 hlen
     have q:∀ H',Same H H'→Q (.bl (decide ((c::r).length≤6)&&low c&&(c::r).all fun c=>low c||fig c)) H':=fun H' s=>by have:=q H' s;rw [hcr] at this;exact this
     by_cases h2:(6:Int) < z.length
     ·refine xl (decide_eq_true h2) ?_
      walk_at "l2"
      have:=q H (Same.refl H)
      rw [decide_eq_false (show ¬ (c::r).length≤6 by omega)] at this
      exact this
     ·refine kZ (decide_eq_false h2) ?_
      rw [decide_eq_true (show (c::r).length≤6 by omega)] at q
      walk_at "l2"
      refine Jw hs (c:=c) (by rw [hcr];exact g7 (j:=0) rfl) ?_
      walk_at "l2"
      rw [StrLaws.found_one,memL]
      cases hlo:low c
      ·rw [hlo] at q
       walk_at "l2"
       exact q H (Same.refl H)
      ·rw [hlo] at q
       walk_at "l2"
       intro D f
       refine Ia (Cs (fun i ys=>ys=(((c::r).take i).map fun c=>low c||fig c).map V.bl) H D) (Cs.zero f rfl) (fun i d ys H' hd ⟨e,s,at',len⟩=>?_) (fun ys H' ⟨e,s,at',len⟩=>?_)
       ·have hi:i < z.cps.size:=(Array.getElem?_eq_some_iff.mp hd).1
        have hd':(c::r)[i]? =some d:=by rw [← hcr];simpa using hd
        walk_at "l2"
        rw [StrLaws.found_one,memN]
        refine Cs.put f s at' len (by have:z.cps.size=z.length:=rfl;omega) ?_
        rw [e,List.take_succ,hd',List.map_append,List.map_append];rfl
       ·have hsz:z.cps.size=(c::r).length:=hlen.symm
        rw [hsz,List.take_length] at e
        refine LL (SqL.of (by rw [at',e])) ?_
        have:=q H' s
        rw [List.all_map]
        exact this
  | _=>exact False.elim hk
theorem fc (T:Tx K mg a):FnOk P w K mg base CX0 1 a.ba a.bS ["self","name"] (GQ K):=by
 refine T.dN.ok oH (fun vs H Q E h=>?_) (fun cdv A outer s H vs Q E hr h=>?_)
 ·obtain ⟨x,C,dx,nm,rfl,_⟩:=h;rfl
 ·obtain ⟨x,C,dx,nm,rfl,hc,hn,hx,q⟩:=h
  refine ⟨_,((ak (fY (K:=K) rfl (pv 0) (pv 1) rfl))),aK (σ':=[some _,some _]) rfl ?_⟩
  walk_at "l2"
  exact fU hx hc hn (by decide) rfl q
theorem lE (T:Tx K mg a):FnOk P w K mg base CX0 2 a.aE a.d0 ["self","name","number"] (GP a.al):=by
 have cK:=@fc P w K mg base a T
 refine T.c6.ok kW (fun vs H Q E h=>?_) (fun cdv A outer s H vs Q E hr h=>?_)
 ·obtain ⟨x,dx,nm,k,rfl,_⟩:=h;rfl
 ·obtain ⟨x,dx,nm,k,rfl,hx,q⟩:=h
  refine ⟨_,((ah (bW (qa (by rfl) T.FG T.bS cK (hr.mono (by decide)) T.cJ .nil a0 (aa (pv 0) (aa (pv 1) ad))))
   (ak (fY (K:=K) rfl (pv 0) (pv 2) rfl)))),aK (σ':=[some _,some _,some _]) rfl ?_⟩
  walk_at "l2"
  refine ⟨x,_,dx,nm,rfl,T.my,T.iw,hx,fun H2 u=>?_⟩
  walk_at "l2"
  exact fU u.at' T.my T.ju (by show 1 < 1000;decide) rfl fun H3 u3=>q H3 (u.trans u3)
theorem jj (T:Tx K mg a):FnOk P w K mg base CX0 2 a.ax a.c9 ["self","name","wire","number"] (GO a.ae):=by
 have cK:=@fc P w K mg base a T
 refine T.ca.ok jf (fun vs H Q E h=>?_) (fun cdv A outer s H vs Q E hr h=>?_)
 ·obtain ⟨x,dx,nm,w,k,rfl,_⟩:=h;rfl
 ·obtain ⟨x,dx,nm,wr,k,rfl,hx,q⟩:=h
  refine ⟨_,((ah (bW (qa (by rfl) T.FG T.bS cK (hr.mono (by decide)) T.cJ .nil a0 (aa (pv 0) (aa (pv 1) ad))))
   (ah (fY (K:=K) rfl (pv 0) (pv 2) rfl)
   (ak (fY (K:=K) rfl (pv 0) (pv 3) rfl))))),aK (σ':=[some _,some _,some _,some _]) rfl ?_⟩
  walk_at "l2"
  refine ⟨x,_,dx,nm,rfl,T.dr,T.fg,hx,fun H2 u=>?_⟩
  walk_at "l2"
  refine fU u.at' T.dr T.iU (by show 1 < 1000;decide) rfl fun H3 u3=>?_
  walk_at "l2"
  exact fU u3.at' T.dr T.gB (by show 2 < 1000;decide) rfl fun H4 u4=>q H4 ((u.trans u3).trans u4)
theorem kt (T:Tx K mg a):FnOk P w K mg base CX0 2 a.aA a.dH ["self","name","wires"] (Eg K a.ai):=by
 have cK:=@fc P w K mg base a T
 refine T.cC.ok ki (fun vs H Q E h=>?_) (fun cdv A outer s H vs Q E hr h=>?_)
 ·obtain ⟨x,dx,nm,tw,ws,rfl,_⟩:=h;rfl
 ·obtain ⟨x,dx,nm,tw,ws,rfl,hw,hx,q⟩:=h
  have hne:tw≠x:=jq hw hx fun z=>by cases z
  refine ⟨_,((ah (bW (qa (by rfl) T.FG T.bS cK (hr.mono (by decide)) T.cJ .nil a0 (aa (pv 0) (aa (pv 1) ad))))
   (ak (fY (K:=K) rfl (pv 0) (aw (b8 (K:=K) rfl) (by rfl) T.ff PyProof.Rows.boot_tuple (aa (pv 2) ad)) rfl)))),aK (σ':=[some _,some _,some _]) rfl ?_⟩
  walk_at "l2"
  refine ⟨x,_,dx,nm,rfl,T.jK,T.gU,hx,fun H2 u=>?_⟩
  have hw2:=u.oth _ _ hne hw
  walk_at "l2"
  exact fU u.at' T.jK T.jr (by show 1 < 1000;decide) rfl fun H4 u4=>q H4 (u.trans u4)
end
section
variable {P:Program} {w:World} {K:PySem.W.Frag} {mg:Str→Option Value} {base:Heap} {a:Ad}
local macro_rules | `(tactic| walk_at "l2step") =>`(tactic| first | ((with_reducible refine' c_whole ?e ?_);(case e=>walk_at "l2kind")) | ((with_reducible refine' c_mask ?e ?_);(case e=>walk_at "l2kind")) | (with_reducible refine cM ?_) | (with_reducible refine eV ?_))
local macro_rules | `(tactic| walk_at "l2step") =>`(tactic| first | (with_reducible refine AW ?_) | (with_reducible refine s_tryH ?_) | (with_reducible refine Iw ?_) | (with_reducible refine Iv ?_) | (with_reducible refine Es ?_) | (with_reducible refine Le ?_))
theorem G9 (T:Tx K mg a):FnOk P w K mg base CX0 1 a.j6 a.Bo ["thing","depth"] Nc:=by
 refine T.zb.ok Em (fun vs H Q E h=>?_) (fun cdv A outer s H vs Q E hr h=>?_)
 ·exact False.elim h
 ·exact False.elim h
theorem JU (T:Tx K mg a):FnOk P w K mg base CX0 2 a.j6 a.Bo ["thing","depth"] GN:=by
 have Gh:=@G9 P w K mg base a T
 refine T.zb.ok Em (fun vs H Q E h=>?_) (fun cdv A outer s H vs Q E hr h=>?_)
 ·obtain ⟨v,k,rfl,_⟩:=h;rfl
 ·obtain ⟨v,k,rfl,th,q⟩:=h
  refine ⟨_,((ah (c8 (bw xF (pv 1) am (bV _)) (ak (aZ (pv 0))) aW)
   (ah (c8 (dw (aB (ii (K:=K) rfl) (by rfl) T.b0 PyProof.Rows.boot_isinstance (aa (pv 0) (aa (mJ (v:= .ty "list") (by rfl) T.df PyProof.Rows.boot_list rfl) ad)))) (ak (aZ (cr (osc:=af pZ) (ON:=["thing","depth"]) (N:=["part","depth"]) (n:=1) (fx:=[1]) rfl rfl rfl (by decide +kernel) (bx (K:=K) rfl (pv 0)) (bo (by decide)) (fun _ _ _ _ _=>⟨(av (i:=0) (show List.Nodup (["part","depth"]:List Str) from by decide +kernel) rfl (by walk_at "o")),bQ,(ay Gh (hr.mono (by decide)) (by rfl) T.IT T.IR T.Bu .nil a0 (aa (pv 0) (aa (aC A7 (pv 1) am) ad)))⟩)))) aW)
   (ah (c8 (dw (aB (ii (K:=K) rfl) (by rfl) T.b0 PyProof.Rows.boot_isinstance (aa (pv 0) (aa (mJ (v:= .ty "tuple") (by rfl) T.ff PyProof.Rows.boot_tuple rfl) ad)))) (ak gR) aW)
   (ah (c8 (dw (aB (ii (K:=K) rfl) (by rfl) T.b0 PyProof.Rows.boot_isinstance (aa (pv 0) (aa (mJ (v:= .ty "dict") (by rfl) T.E7 PyProof.Rows.boot_dict rfl) ad)))) (ak gR) aW)
   (ak (aZ (pv 0)))))))),aK (σ':=[some _,some _]) rfl ?_⟩
  cases th with
  | sc sv=>
    cases sv with
    | str z l=>walk_at "l2";exact q _ H (Same.refl _) (.sc (.str z l))
    | int i=>walk_at "l2";exact q _ H (Same.refl _) (.sc (.int i))
    | bl b=>walk_at "l2";exact q _ H (Same.refl _) (.sc (.bl b))
    | non=>walk_at "l2";exact q _ H (Same.refl _) (.sc .non)
  | nil e=>
    walk_at "l2"
    intro D hD
    refine bT (xs:=[]) (fun i ys H'=>Cs (fun i ys=>ys=[]) H D i ys H') (Cs.zero hD rfl) (fun i ys H' _ c=>SqL.of (c.same.get e)) (fun i v ys H' hv c=>by simp at hv) (fun ys H' c=>?_)
    have e2:=c.at'
    rw [c.pv] at e2
    walk_at "l2"
    exact q _ H' c.same (.nil e e2)
theorem lD (T:Tx K mg a):FnOk P w K mg base CX0 3 a.aJ a.dZ ["self","name"] (w4 a.ao):=by
 have Gh:=@JU P w K mg base a T
 refine T.cZ.ok kU (fun vs H Q E h=>?_) (fun cdv A outer s H vs Q E hr h=>?_)
 ·obtain ⟨p,v,k,rfl,_⟩:=h;rfl
 ·obtain ⟨p,v,k,rfl,sv,e,q⟩:=h
  refine ⟨_,((ah (bW (G6 (K:=K) rfl (by rfl) T.Ac T.zh (aa (pv 0) (aa fo ad))))
   (ak (JL (K:=K) rfl (pv 0) (ay Gh (hr.mono (by decide)) (by rfl) T.IT T.IR T.Bu .nil a0 (aa (pv 1) (aa (eW (v:= .int 12) (by rfl) T.yv ⟨_,rfl⟩) ad))) rfl)))),aK (σ':=[some _,some _]) rfl ?_⟩
  walk_at "l2"
  refine Er e T.wJ ?_
  walk_at "l2"
  refine ⟨v,k,rfl,sv,fun v2 H1 s1 cp=>?_⟩
  have e1:=s1.get e
  walk_at "l2"
  refine GV e1 T.wJ T.lS fun H2 e2 s2=>?_
  walk_at "l2"
  refine q v2 H2 e2 (fun b u hb hu=>s2 _ _ hb (s1.get hu)) ?_
  cases cp with
  | sc h=>exact .sc h
  | nil a1 a2=>exact .nil a1 (s2 _ _ (fun z=>by rw [z,e1] at a2;cases a2) a2)
theorem lA (T:Tx K mg a):FnOk P w K mg base (CX1 P w) 5 a.b3 a.jB ["wire","known"] (Ei a.ao):=by
 have rS:=@uA P w K mg base a T
 have nS:=@lD P w K mg base a T
 refine T.gM.okX uT (fun vs H Q E h=>?_) (fun cdv A outer s H vs Q E hr h=>?_)
 ·obtain ⟨v,k,d,zs,rfl,_⟩:=h;rfl
 ·obtain ⟨v,k,d,zs,rfl,sv,⟨kvs,ed,ek⟩,nms,qQ,qE⟩:=h
  have hu:=Hz hr
  have fin:∀ {H2:Hp} (σ:St),Same H H2→(∀ z∈zs,v≠.str z)→wI a.ao (w4 a.ao) E0 (fun _=>E) σ [v] H2:=fun {H2} σ s2 hb=>BV fun x H3 f3 s3 e3=>⟨x,v,k,rfl,(sv.same s2).same s3,e3,fun v2 H4 e4 k4 cp=>by
   obtain ⟨dx,a1,a2⟩:=Nb (H:=H2) f3 e4 fun b u hb' e'=>k4 _ _ hb' (s3.get e')
   exact ⟨rfl,some dx,a1,qE hb _ dx ⟨v2,a2.pre s2,by
    cases cp with
    | sc h=>exact .sc h
    | nil c1 c2=>
      cases sv with
      | sc h=>cases h
      | nil c0=>
        refine .nil c0 ?_
        rw [yE (fun z=>by rw [z,a1] at c2;cases c2)];exact c2⟩⟩⟩
  refine ⟨_,((ak (c8 (PW.pt (sg (gz (dw (ay rS (hr.mono (by decide)) (by rfl) T.yp T.yk T.ml .nil a0 (aa (pv 0) ad)))) (nZ (IJ (ES hu (pv 0) (pv 1)))))) (ak (EM T.wJ nS (hr.mono (by decide)) (by rfl) T.Bi T.d4 a0 uO rfl (aa (pv 0) ad))) aW))),aK (σ':=[some _,some _]) rfl ?_⟩
  walk_at "l2"
  refine ⟨v,k,rfl,sv.kind,fun z e=>by subst e;exact sv.str,fun H2 s2=>?_⟩
  by_cases hn:J0 v=true
  ·rw [hn]
   cases sv with
   | nil=>cases hn
   | sc sv=>
    cases sv with
    | int=>cases hn
    | bl=>cases hn
    | non=>cases hn
    | str z l=>
     have ed2:=s2.get ed
     walk_at "l2"
     refine JC ed2 ?_
     rw [pG ek z]
     by_cases hz:z∈zs
     ·rw [decide_eq_true hz]
      walk_at "l2"
      exact qQ z hz rfl H2 s2
     ·rw [decide_eq_false hz]
      walk_at "l2"
      exact fin _ s2 fun y hy e=>hz (by cases e;exact hy)
  ·rw [show J0 v=false by simpa using hn]
   walk_at "l2"
   exact fin _ s2 fun y hy e=>hn (by rw [e];exact nms y hy)
end
section
variable {P:Program} {w:World} {K:PySem.W.Frag} {mg:Str→Option Value} {base:Heap} {a:Ad}
local macro_rules | `(tactic| walk_at "l2step") =>`(tactic| first | ((with_reducible refine' c_whole ?e ?_);(case e=>walk_at "l2kind")) | ((with_reducible refine' c_mask ?e ?_);(case e=>walk_at "l2kind")) | (with_reducible refine cM ?_) | (with_reducible refine eV ?_))
theorem sy (T:Tx K mg a):FnOk P w K mg base CX0 1 a.bJ a.iD ["ins","sums","stores","outs"] BQ:=by
 refine T.fM.ok r8 (fun vs H Q E h=>?_) (fun cdv A outer s H vs Q E hr h=>?_)
 ·obtain ⟨i,s,t,o,rs,qs,N,rfl,_⟩:=h;rfl
 ·obtain ⟨i,s,t,o,rs,qs,N,rfl,hn,g,q⟩:=h
  have hi:=hn.i
  have hs:=hn.s
  have ht:=hn.t
  have ho:=hn.o
  have li:=g.li
  have ls:=g.ls
  have lt:=g.lt
  have lo:=g.lo
  have lrs:rs.length=N.sums.length:=by rw [← hn.es,List.length_map]
  have lqs:qs.length=N.sts.length:=by rw [← hn.et,List.length_map]
  refine ⟨_,((ah (c8 (bw xE (aB (bu (K:=K) rfl) (by rfl) T.iu PySem.boot_len (aa (pv 0) ad)) (eW (v:= .int 6) (by rfl) T.CF ⟨_,rfl⟩) (bV _)) (ak gR) aW)
   (ah (c8 (bw xE (aB (bu (K:=K) rfl) (by rfl) T.iu PySem.boot_len (aa (pv 1) ad)) (eW (v:= .int 40) (by rfl) T.Ae ⟨_,rfl⟩) (bV _)) (ak gR) aW)
   (ah (c8 (bw xE (aB (bu (K:=K) rfl) (by rfl) T.iu PySem.boot_len (aa (pv 2) ad)) (eW (v:= .int 16) (by rfl) T.vZ ⟨_,rfl⟩) (bV _)) (ak gR) aW)
   (ah (c8 (bw xE (aB (bu (K:=K) rfl) (by rfl) T.iu PySem.boot_len (aa (pv 3) ad)) (eW (v:= .int 6) (by rfl) T.Af ⟨_,rfl⟩) (bV _)) (ak gR) aW)
   (ak (c8 (dw (aB (yR (K:=K) rfl rfl) (by rfl) T.Mm PyProof.Rows.boot_any (aa (cr (osc:=af cn) (ON:=["ins","sums","stores","outs"]) (N:=["row"]) (n:=1) (fx:=[]) rfl rfl rfl (by decide +kernel) (bx (K:=K) rfl (pv 1)) (bo (by decide)) (fun _ _ _ _ _=>⟨(av (i:=0) (show List.Nodup (["row"]:List Str) from by decide +kernel) rfl (by walk_at "o")),bQ,(p9 xE (aB (bu (K:=K) rfl) (by rfl) T.iu PySem.boot_len (aa (cj (b6 (K:=K) rfl) (pv 0) am (fun _ _=>rfl)) ad)) (eW (v:= .int 24) (by rfl) T.yu ⟨_,rfl⟩) (bV _))⟩)) ad))) (ak gR) aW))))))),aK (σ':=[some _,some _,some _,some _]) rfl ?_⟩
  walk_at "l2"
  rw [List.length_map]
  refine kZ (decide_eq_false (by omega)) ?_
  walk_at "l2"
  rw [List.length_map]
  refine kZ (decide_eq_false (by omega)) ?_
  walk_at "l2"
  rw [List.length_map]
  refine kZ (decide_eq_false (by omega)) ?_
  walk_at "l2"
  rw [List.length_map]
  refine kZ (decide_eq_false (by omega)) ?_
  walk_at "l2"
  intro D hD
  refine bT (xs:=rs.map fun r=>V.ref r.1) (fun i ys H'=>Cs (fun i ys=>ys=(List.replicate i false).map V.bl) H D i ys H') (Cs.zero hD rfl) (fun i ys H' _ c=>SqL.of (c.same.get hs)) (fun i x ys H' hx c=>?_) (fun ys H' c=>?_)
  ·obtain ⟨r,hr',rfl⟩:=aX hx
   have hi:=(List.getElem?_eq_some_iff.mp hr').1
   have hm:=List.mem_of_getElem? hr'
   have er:=c.same.get (hn.sr r hm).1
   have hw:=g.lw r.2.2 (by rw [← hn.es];exact List.mem_map.mpr ⟨r,hm,rfl⟩)
   rcases (hn.sr r hm).2 with ew | ew
   ·have ew:=c.same.get ew
    walk_at "l2"
    rw [List.length_map,decide_eq_false (show ¬ (24:Int) < (r.2.2.2.length:Int) by omega)]
    refine Cs.put hD c.same c.at' c.len (by omega) ?_
    rw [c.pv,List.replicate_succ',List.map_append];rfl
   ·have ew:=c.same.get ew
    walk_at "l2"
    rw [List.length_map,decide_eq_false (show ¬ (24:Int) < (r.2.2.2.length:Int) by omega)]
    refine Cs.put hD c.same c.at' c.len (by omega) ?_
    rw [c.pv,List.replicate_succ',List.map_append];rfl
  ·have ec:=c.at'
   rw [c.pv] at ec
   walk_at "l2"
   refine Iy (SqL.of ec) ?_
   walk_at "l2"
   refine kZ (by simp) ?_
   walk_at "l2"
   exact q H' c.same
theorem sL (T:Tx K mg a):FnOk P w K mg base CX0 2 a.bK a.iE ["names"] Ej:=by
 have rS:=@uA P w K mg base a T
 refine T.fN.ok gP (fun vs H Q E h=>?_) (fun cdv A outer s H vs Q E hr h=>?_)
 ·obtain ⟨l,zs,rfl,_⟩:=h;rfl
 ·obtain ⟨l,zs,rfl,hl,ln,nd,hn,q⟩:=h
  have hu:=Hz hr
  refine ⟨_,((ah (bf (i:=1) gP.nd rfl (by walk_at "o") G7)
   (ak (eP PassesOwn.never rfl (bx (K:=K) rfl (pv 0)) (av (i:=2) gP.nd rfl (by walk_at "o")) (ah (c8 (gz (dw (ay rS (hr.mono (by decide)) (by rfl) T.yp T.yk T.ml .nil a0 (aa (pv 2) ad)))) (ak gR) aW)
   (ah (c8 (IJ (IL hu (pv 2) (pv 1))) (ak gR) aW)
   (ak (JM hu (pv 1) (pv 2) i5 rfl)))))))),aK (σ':=[some _,none,none]) rfl ?_⟩
  walk_at "l2"
  intro D H1 f1 s1 e1
  have hl1:=s1.get hl
  walk_at "l2"
  refine iy (xs:=zs.map V.str) (fun i σ H'=>∃ v,σ=[some (.ref l),some (.ref D),v]∧Same H H'∧∃ kvs:List (Key×V),H' D=some (.dK kvs)∧kvs.map (·.1)=(zs.take i).map Sum.inr) ⟨none,rfl,s1,[],e1,rfl⟩ (fun i σ H' _ ⟨_,_,s',_⟩=>SqL.of (s'.get hl)) ?_ ?_
  ·rintro i y σ H' hy ⟨v,rfl,s',kvs,eD,ek⟩
   obtain ⟨z,hz,rfl⟩:=aX hy
   have hi:=(List.getElem?_eq_some_iff.mp hz).1
   have hnot:z∉zs.take i:=fun m=>by
    have h2:=nd
    rw [← List.take_append_drop i zs,List.nodup_append] at h2
    exact h2.2.2 z m z (List.mem_of_getElem? (i:=0) (by rw [List.getElem?_drop,Nat.add_zero];exact hz)) rfl
   have lk:kvs.length≤1000:=by have:=congrArg List.length ek;rw [List.length_map,List.length_map,List.length_take] at this;omega
   walk_at "l2"
   refine c_nm (hn z (List.mem_of_getElem? hz)) fun H2 s2=>?_
   have eD2:=s2.get eD
   walk_at "l2"
   refine Ix eD2 ?_
   rw [pG ek z,decide_eq_false hnot]
   walk_at "l2"
   refine JB eD2 (bz lk) fun H3 u3=>?_
   rw [JK ek hnot] at u3
   walk_at "l2"
   refine ⟨fun b o e=>u3.oth _ _ (aj e f1) (s2.get (s'.get e)),_,u3.at',?_⟩
   rw [List.map_append,ek,take_succ hz,List.map_append];rfl
  ·rintro σ H' ⟨v,rfl,s',_⟩
   walk_at "l2"
   exact q H' s'
theorem su (T:Tx K mg a):FnOk P w K mg base CX0 6 a.bI a.iC ["sums","stores","outs","known"] Eh:=by
 have eU:=@lA P w K mg base a T
 refine T.fL.ok de (fun vs H Q E h=>?_) (fun cdv A outer s H vs Q E hr h=>?_)
 ·obtain ⟨i,s,t,o,d,rs,qs,N,rfl,_⟩:=h;rfl
 ·obtain ⟨i,s,t,o,d,rs,qs,N,rfl,kp,g,kn,q⟩:=h
  have hs:=kp.s
  have ht:=kp.t
  have ho:=kp.o
  refine ⟨_,((ah (eP PassesOwn.never rfl (mI (K:=K) rfl (pv 0)) (av (i:=4) de.nd rfl (by walk_at "o")) (ak (eP PassesOwn.never rfl (mI (K:=K) rfl (cj (b6 (K:=K) rfl) (pv 4) am (fun _ _=>rfl))) (av (i:=5) de.nd rfl (by walk_at "o")) (ak (bW (pM eU (hr.mono (by decide)) (by rfl) T.gG T.gC T.dz .nil thr0 (aa (pv 5) (aa (pv 3) ad))))))))
   (ah (eP PassesOwn.never rfl (mI (K:=K) rfl (pv 1)) (av (i:=4) de.nd rfl (by walk_at "o")) (ak (bW (pM eU (hr.mono (by decide)) (by rfl) T.gG T.gC T.dz .nil thr0 (aa (cj (b6 (K:=K) rfl) (pv 4) am (fun _ _=>rfl)) (aa (pv 3) ad))))))
   (ak (eP PassesOwn.never rfl (mI (K:=K) rfl (pv 2)) (av (i:=5) de.nd rfl (by walk_at "o")) (ak (bW (pM eU (hr.mono (by decide)) (by rfl) T.gG T.gC T.dz .nil thr0 (aa (pv 5) (aa (pv 3) ad)))))))))),aK (σ':=[some _,some _,some _,some _,none,none]) rfl ?_⟩
  walk_at "l2"
  refine v0 (xs:=rs.map fun r=>V.ref r.1) (fun i σ H'=>∃ v1 v2,σ=[some (.ref s),some (.ref t),some (.ref o),some (.ref d),v1,v2]∧Same H H') ⟨none,none,rfl,Same.refl _⟩ (fun i σ H' _ ⟨_,_,_,s'⟩=>SqT.of (s'.get hs)) ?_ ?_
  ·rintro i y σ H' hy ⟨v1,v2,rfl,s'⟩
   obtain ⟨r,hr',rfl⟩:=aX hy
   have hm:=List.mem_of_getElem? hr'
   have er:=s'.get (kp.sr r hm).1
   have ew:=s'.get (kp.sr r hm).2
   have hin:r.2.2∈N.sums:=by rw [← kp.es];exact List.mem_map.mpr ⟨r,hm,rfl⟩
   walk_at "l2"
   refine v0 (xs:=r.2.2.2.map V.str) (fun j σ H2=>∃ v,σ=[some (.ref s),some (.ref t),some (.ref o),some (.ref d),some (.ref r.1),v]∧Same H' H2) ⟨_,rfl,Same.refl _⟩ (fun j σ H2 _ ⟨_,_,s2⟩=>SqT.of (s2.get ew)) ?_ ?_
   ·rintro j y σ H2 hy ⟨v,rfl,s2⟩
    obtain ⟨z,hz,rfl⟩:=aX hy
    have hzn:=g.ws r.2.2 hin z (List.mem_of_getElem? hz)
    walk_at "l2"
    refine ⟨.str z,"str",d,N.names,rfl,.sc (.str _ (by have:=(g.nm _ hzn).len;omega)),(kn.same s').same s2,g.nm,fun _ _ _ H3 s3=>?_,fun bad=>absurd rfl (bad _ hzn)⟩
    walk_at "l2"
    exact s2.trans s3
   ·rintro σ H2 ⟨v,rfl,s2⟩
    walk_at "l2"
    exact ⟨_,_,rfl,s'.trans s2⟩
  ·rintro σ H' ⟨v1,v2,rfl,s'⟩
   have ht':=s'.get ht
   walk_at "l2"
   refine v0 (xs:=qs.map fun r=>V.ref r.1) (fun i σ H2=>∃ v1,σ=[some (.ref s),some (.ref t),some (.ref o),some (.ref d),v1,v2]∧Same H' H2) ⟨_,rfl,Same.refl _⟩ (fun i σ H2 _ ⟨_,_,s2⟩=>SqT.of (s2.get ht')) ?_ ?_
   ·rintro i y σ H2 hy ⟨v1,rfl,s2⟩
    obtain ⟨r,hr',rfl⟩:=aX hy
    have hm:=List.mem_of_getElem? hr'
    have er:=s2.get (s'.get (kp.tr r hm))
    have hin:r.2∈N.sts:=by rw [← kp.et];exact List.mem_map.mpr ⟨r,hm,rfl⟩
    have hzn:=g.ts r.2 hin
    walk_at "l2"
    refine ⟨.str r.2.2,"str",d,N.names,rfl,.sc (.str _ (by have:=(g.nm _ hzn).len;omega)),(kn.same s').same s2,g.nm,fun _ _ _ H3 s3=>?_,fun bad=>absurd rfl (bad _ hzn)⟩
    walk_at "l2"
    exact s2.trans s3
   ·rintro σ H2 ⟨v1,rfl,s2⟩
    have s02:=s'.trans s2
    have ho':=s02.get ho
    walk_at "l2"
    refine v0 (xs:=N.outs.map V.str) (fun i σ H3=>∃ v2,σ=[some (.ref s),some (.ref t),some (.ref o),some (.ref d),v1,v2]∧Same H2 H3) ⟨_,rfl,Same.refl _⟩ (fun i σ H3 _ ⟨_,_,s3⟩=>SqT.of (s3.get ho')) ?_ ?_
    ·rintro i y σ H3 hy ⟨v2,rfl,s3⟩
     obtain ⟨z,hz,rfl⟩:=aX hy
     have hzn:=g.os z (List.mem_of_getElem? hz)
     walk_at "l2"
     refine ⟨.str z,"str",d,N.names,rfl,.sc (.str _ (by have:=(g.nm _ hzn).len;omega)),(kn.same s02).same s3,g.nm,fun _ _ _ H4 s4=>?_,fun bad=>absurd rfl (bad _ hzn)⟩
     walk_at "l2"
     exact s3.trans s4
    ·rintro σ H3 ⟨v2,rfl,s3⟩
     walk_at "l2"
     exact q _ (s02.trans s3)
end
section
variable {P:Program} {w:World} {K:PySem.W.Frag} {mg:Str→Option Value} {base:Heap} {a:Ad}
local macro_rules | `(tactic| walk_at "l2step") =>`(tactic| first | ((with_reducible refine' c_whole ?e ?_);(case e=>walk_at "l2kind")) | ((with_reducible refine' c_mask ?e ?_);(case e=>walk_at "l2kind")) | (with_reducible refine cM ?_) | (with_reducible refine eV ?_))
theorem G8 (T:Tx K mg a):FnOk P w K mg base CX0 1 a.iz a.An ["row","waiting"] GH:=by
 refine T.wO.ok GT (fun vs H Q E h=>?_) (fun cdv A outer s H vs Q E hr h=>?_)
 ·obtain ⟨r,d,zs,rfl,_⟩:=h;rfl
 ·obtain ⟨r,d,zs,rfl,er,ew,lw,⟨kvs,ed,ek⟩,q⟩:=h
  have hu:=Hz hr
  refine ⟨_,((ak (aZ (aB (yR (K:=K) rfl rfl) (by rfl) T.Mm PyProof.Rows.boot_any (aa (cr (osc:=af kj) (ON:=["row","waiting"]) (N:=["wire","waiting"]) (n:=1) (fx:=[1]) rfl rfl rfl (by decide +kernel) (mI (K:=K) rfl (cj (b6 (K:=K) rfl) (pv 0) am (fun _ _=>rfl))) (bo (by decide)) (fun _ _ _ _ _=>⟨(av (i:=0) (show List.Nodup (["wire","waiting"]:List Str) from by decide +kernel) rfl (by walk_at "o")),bQ,(Ma (IL hu (pv 0) (pv 1)))⟩)) ad))))),aK (σ':=[some _,some _]) rfl ?_⟩
  walk_at "l2"
  intro D hD
  refine Bp (xs:=r.2.2.2.map V.str) (fun i ys H'=>Cs (fun i ys=>ys=((r.2.2.2.take i).map fun w=>decide (w∈zs)).map V.bl) H D i ys H') (Cs.zero hD rfl) (fun i ys H' _ c=>SqT.of (c.same.get ew)) (fun i x ys H' hx c=>?_) (fun ys H' c=>?_)
  ·obtain ⟨z,hz,rfl⟩:=aX hx
   have hi:=(List.getElem?_eq_some_iff.mp hz).1
   walk_at "l2"
   refine Ix (c.same.get ed) ?_
   rw [pG ek z]
   refine Cs.put hD c.same c.at' c.len (by omega) ?_
   rw [c.pv,take_succ hz,List.map_append,List.map_append];rfl
  ·have ec:=c.at'
   rw [c.pv,List.length_map,List.take_length] at ec
   walk_at "l2"
   refine Iy (SqL.of ec) ?_
   have eany:(r.2.2.2.map fun w=>decide (w∈zs)).any id=dQ zs r.2.2.2:=by rw [List.any_map];rfl
   walk_at "l2"
   rw [eany]
   exact q H' c.same
theorem oN (T:Tx K mg a):FnOk P w K mg base CX0 4 a.bq a.gt ["ins","sums","stores"] (BL a.al a.ai a.ae):=by
 have nT:=@lE P w K mg base a T
 have mt:=@kt P w K mg base a T
 have jV:=@jj P w K mg base a T
 refine T.dM.ok iR (fun vs H Q E h=>?_) (fun cdv A outer s H vs Q E hr h=>?_)
 ·obtain ⟨i,s,t,o,rs,qs,N,rfl,_⟩:=h;rfl
 ·obtain ⟨i,s,t,o,rs,qs,N,rfl,kp,g,q⟩:=h
  have hi:=kp.i
  have hs:=kp.s
  have ht:=kp.t
  have li:=g.li
  have ls:=g.ls
  have lt:=g.lt
  have lrs:rs.length=N.sums.length:=by rw [← kp.es,List.length_map]
  have lqs:qs.length=N.sts.length:=by rw [← kp.et,List.length_map]
  refine ⟨_,((ah (ko (osc:=af a9) (ON:=["ins","sums","stores","wires"]) (N:=["number","name"]) (n:=2) (fx:=[]) (i:=3) iR.nd rfl rfl rfl rfl rfl rfl (by decide +kernel) (lc (K:=K) rfl (by rfl) T.ge (pv 0)) (Bh (gF (bo (by decide)) (gF (bo (by decide)) vU))) (fun _ _ _ _ _=>⟨(vb (K:=K) (n:=2) rfl rfl (bj (av (i:=0) (show List.Nodup (["number","name"]:List Str) from by decide +kernel) rfl (by walk_at "o")) (bj (av (i:=1) (show List.Nodup (["number","name"]:List Str) from by decide +kernel) rfl (by walk_at "o")) fZ))),bQ,(vc T.Ik nT (hr.mono (by decide)) (by rfl) T.Bj T.d5 .nil a0 (aa (pv 1) (aa (pv 0) ad)))⟩))
   (ah (bW (jh (K:=K) rfl PySem.F.plainAttrs_list PySem.F.slot_list_extend PySem.F.type_list_extend qB (pv 3) (aa (cr (osc:=af a9) (ON:=["ins","sums","stores","wires"]) (N:=["row"]) (n:=1) (fx:=[]) rfl rfl rfl (by decide +kernel) (mI (K:=K) rfl (pv 1)) (bo (by decide)) (fun _ _ _ _ _=>⟨(av (i:=0) (show List.Nodup (["row"]:List Str) from by decide +kernel) rfl (by walk_at "o")),bQ,(vc T.Gd mt (hr.mono (by decide)) (by rfl) T.yr T.dI .nil a0 (aa (cj (b6 (K:=K) rfl) (pv 0) am (fun _ _=>rfl)) (aa (cj (b6 (K:=K) rfl) (pv 0) am (fun _ _=>rfl)) ad)))⟩)) ad)))
   (ah (bW (jh (K:=K) rfl PySem.F.plainAttrs_list PySem.F.slot_list_extend PySem.F.type_list_extend qB (pv 3) (aa (cr (osc:=af a9) (ON:=["ins","sums","stores","wires"]) (N:=["number","row"]) (n:=2) (fx:=[]) rfl rfl rfl (by decide +kernel) (lc (K:=K) rfl (by rfl) T.ge (pv 2)) (Bh (gF (bo (by decide)) (gF (bo (by decide)) vU))) (fun _ _ _ _ _=>⟨(vb (K:=K) (n:=2) rfl rfl (bj (av (i:=0) (show List.Nodup (["number","row"]:List Str) from by decide +kernel) rfl (by walk_at "o")) (bj (av (i:=1) (show List.Nodup (["number","row"]:List Str) from by decide +kernel) rfl (by walk_at "o")) fZ))),bQ,(vc T.AL jV (hr.mono (by decide)) (by rfl) T.qZ T.dc .nil a0 (aa (cj (b6 (K:=K) rfl) (pv 1) am (fun _ _=>rfl)) (aa (cj (b6 (K:=K) rfl) (pv 1) am (fun _ _=>rfl)) (aa (pv 0) ad))))⟩)) ad)))
   (ak (aZ (aw (uM rfl) (by rfl) T.E7 PyProof.Rows.boot_dict (aa (cr (osc:=af a9) (ON:=["ins","sums","stores","wires"]) (N:=["wire"]) (n:=1) (fx:=[]) rfl rfl rfl (by decide +kernel) (bx (K:=K) rfl (pv 3)) (bo (by decide)) (fun _ _ _ _ _=>⟨(av (i:=0) (show List.Nodup (["wire"]:List Str) from by decide +kernel) rfl (by walk_at "o")),bQ,(dP (aa (bH (K:=K) rfl (pv 0) rfl) (aa (pv 0) ad)))⟩)) ad)))))))),aK (σ':=[some _,some _,some _,none]) rfl ?_⟩
  walk_at "l2"
  refine .inr ⟨⟨_,SqT.of hi⟩,?_⟩
  intro D hD
  refine uG (xs:=N.ins.map V.str) (fun i ys H'=>∃ ws,WL H H' a.al a.ai a.ae N D ys (N.ins.take i) ws) ⟨[],rfl,rfl,fun _ h=>absurd h (by simp),bF hD,au⟩ (fun i ys H' _ ⟨ws,c⟩=>SqT.of (c.same.get hi)) (fun i x ys H' pz H2 hx ⟨ws,c⟩ fp s2 e2=>?_) (fun ys H' ⟨ws,c⟩=>?_)
  ·obtain ⟨z,hz,rfl⟩:=aX hx
   have hlt:=(List.getElem?_eq_some_iff.mp hz).1
   have lw:ws.length=i:=by have:=congrArg List.length c.nm;rw [List.length_map,List.length_take] at this;omega
   walk_at "l2"
   intro x dx H3 f3 s3 e3
   refine ⟨x,dx,.str z,nat i,rfl,e3,fun H4 u4=>⟨rfl,?_⟩⟩
   have s24:Same H2 H4:=fun b o e=>u4.oth _ _ (aj e f3) (s3.get e)
   exact c.put hD (s2.trans s24) (.i i dx hz u4.at') (by rw [List.length_take];omega) (take_succ hz)
  ·rw [List.length_map,List.take_length] at c
   have hs1:=c.same.get hs
   have ht1:=c.same.get ht
   have hD1:=c.d
   walk_at "l2"
   intro D2 hD2
   refine Bp (xs:=rs.map fun r=>V.ref r.1) (fun i ys H2=>∃ ws,WL H' H2 a.al a.ai a.ae N D2 ys ((rs.take i).map (·.2.2.1)) ws) ⟨[],rfl,rfl,fun _ h=>absurd h (by simp),bF hD2,au⟩ (fun i ys H2 _ ⟨ws,c2⟩=>SqT.of (c2.same.get hs1)) (fun i x ys2 H2 hx ⟨ws2,c2⟩=>?_) (fun ys2 H2 ⟨ws2,c2⟩=>?_)
   ·obtain ⟨r,hr',rfl⟩:=aX hx
    have hlt:=(List.getElem?_eq_some_iff.mp hr').1
    have hm:=List.mem_of_getElem? hr'
    have s02:=c.same.trans c2.same
    have er:=s02.get (kp.sr r hm).1
    have ew:=s02.get (kp.sr r hm).2
    walk_at "l2"
    intro x dx H3 f3 s3 e3
    refine ⟨x,dx,.str r.2.2.1,r.2.1,_,rfl,s3.get ew,e3,fun H4 u4=>⟨rfl,?_⟩⟩
    have s24:Same H2 H4:=fun b o e=>u4.oth _ _ (aj e f3) (s3.get e)
    exact c2.put hD2 s24 (.s r.2.2.2 dx r.2.1 (by rw [← kp.es];exact List.mem_map.mpr ⟨r,hm,rfl⟩) u4.at' (s24.get ew)) (by rw [List.length_map,List.length_take];omega) (by rw [take_succ hr',List.map_append];rfl)
   ·rw [List.length_map,List.take_length] at c2
    have hD12:=c2.same.get hD1
    have eD2:=c2.d
    have lys:ys.length=N.ins.length:=by rw [c.ey,← c.nm,List.length_map,List.length_map]
    have lys2:ys2.length=rs.length:=by rw [c2.ey,List.length_map,← List.length_map (f:=(·.1)),c2.nm,List.length_map]
    walk_at "l2"
    refine uV hD12 eD2 (by rw [sizeLine_eq];omega) fun H3 u3=>?_
    have c3:=c.join c2 hD u3
    have hD3:=c3.d
    have ht3:=c3.same.get ht
    have lys3:(ys++ys2).length=N.ins.length + rs.length:=by rw [List.length_append,lys,lys2]
    clear c c2 hD12 eD2 hs1 ht1 hD1 lys lys2 hD2
    generalize ys++ys2=ys3 at *
    walk_at "l2"
    refine .inr ⟨⟨_,SqT.of ht3⟩,?_⟩
    intro D4 hD4
    refine uG (xs:=qs.map fun q=>V.ref q.1) (fun i ys H'=>∃ ws,WL H3 H' a.al a.ai a.ae N D4 ys ((qs.take i).map (·.2.1)) ws) ⟨[],rfl,rfl,fun _ h=>absurd h (by simp),bF hD4,au⟩ (fun i ys H' _ ⟨ws,c⟩=>SqT.of (c.same.get ht3)) (fun i x ys H4 pz H5 hx ⟨ws,c⟩ fp s5 e5=>?_) (fun ys4 H4 ⟨ws4,c4⟩=>?_)
    ·obtain ⟨r,hr',rfl⟩:=aX hx
     have hlt:=(List.getElem?_eq_some_iff.mp hr').1
     have hm:=List.mem_of_getElem? hr'
     have er:=s5.get (c.same.get (c3.same.get (kp.tr r hm)))
     walk_at "l2"
     intro x dx H6 f6 s6 e6
     refine ⟨x,dx,.str r.2.1,.str r.2.2,nat i,rfl,e6,fun H7 u7=>⟨rfl,?_⟩⟩
     have s57:Same H5 H7:=fun b o e=>u7.oth _ _ (aj e f6) (s6.get e)
     exact c.put hD4 (s5.trans s57) (.t i r.2.2 dx (by rw [← kp.et,List.getElem?_map,hr'];rfl) u7.at') (by rw [List.length_map,List.length_take];omega) (by rw [take_succ hr',List.map_append];rfl)
    ·rw [List.length_map,List.take_length] at c4
     have hD34:=c4.same.get hD3
     have eD4:=c4.d
     have lys4:ys4.length=qs.length:=by rw [c4.ey,List.length_map,← List.length_map (f:=(·.1)),c4.nm,List.length_map]
     walk_at "l2"
     refine uV hD34 eD4 (by rw [sizeLine_eq];omega) fun H5 u5=>?_
     have c5:=c3.join c4 hD u5
     have hD5:=c5.d
     have ey5:=c5.ey
     have enm:N.ins++rs.map (·.2.2.1)++qs.map (·.2.1)=N.names:=by
      unfold Nt.names
      rw [← kp.es,← kp.et,List.map_map,List.map_map];rfl
     rw [enm] at c5
     clear c3 c4 hD34 eD4 hD3 ht3 hD4
     rw [ey5] at hD5
     generalize ws++ws2++ws4=wl at *
     have lwl:wl.length≤100:=by rw [← List.length_map (f:=(·.1)),c5.nm,← enm,List.length_append,List.length_append,List.length_map,List.length_map];omega
     walk_at "l2"
     intro D6 hD6
     refine bT (xs:=wl.map fun q=>V.ref q.2) (fun i ys H'=>∃ ps:List (Addr×Key×V),ys=ps.map (fun q=>V.ref q.1)∧ps.map (·.2)=(wl.take i).map (fun q=>((Sum.inr q.1:Key),V.ref q.2))∧(∀ q∈ps,H' q.1=some (.tup [kV q.2.1,q.2.2]))∧Same H5 H'∧H' D6=some (.lst ys)) ⟨[],rfl,rfl,fun _ h=>absurd h (by simp),bF hD6,au⟩ (fun i ys H' _ ⟨_,_,_,_,s',_⟩=>SqL.of (s'.get hD5)) ?_ ?_
     ·rintro i y ys H' hy ⟨ps,rfl,hps,hq,s',eD⟩
      obtain ⟨q0,hq0,rfl⟩:=aX hy
      have hlt:=(List.getElem?_eq_some_iff.mp hq0).1
      have hlen:ps.length=i:=by have:=congrArg List.length hps;rw [List.length_map,List.length_map,List.length_take] at this;omega
      have wb:=(c5.ob q0 (List.mem_of_getElem? hq0)).same s'
      have fld:∀ {Q:VK},Q (.str q0.1) H'→KJ K (Str.ofString "name") Q (V.ref q0.2) H':=fun h=>by
       cases wb with
       | i k dx hk e=>exact bC e T.my T.iw rfl h
       | s ws dx tw hk e et=>exact bC e T.jK T.gU rfl h
       | t k y dx hk e=>exact bC e T.dr T.fg rfl h
      walk_at "l2"
      refine fld ?_
      walk_at "l2"
      intro tt H6 f6 s6 e6
      have ntt:tt≠D6:=fun z=>by rw [z,eD] at f6;cases f6
      refine ⟨s6.get eD,by rw [List.length_map];exact bz (by omega),ps++[(tt,Sum.inr q0.1,.ref q0.2)],by rw [List.map_append];rfl,by rw [List.map_append,hps,take_succ hq0,List.map_append];rfl,fun q' hq'=>?_,fun b o e=>?_,au⟩
      ·rcases List.mem_append.mp hq' with h | h
       ·have e:=hq q' h
        rw [aq (jq e eD fun z=>by cases z)]
        exact s6.get e
       ·rw [List.mem_singleton] at h;subst h
        rw [aq ntt];exact e6
      ·rw [aq (aj e hD6)]
       exact s6.get (s'.get e)
     ·rintro ys H6 ⟨ps,rfl,hps,hq,s',eD⟩
      rw [List.length_map,List.take_length] at hps
      have ek:ps.map (fun q=>q.2.1)=N.names.map Sum.inr:=by
       have:=congrArg (List.map (·.1)) hps
       rw [List.map_map,List.map_map] at this
       rw [← c5.nm,List.map_map]
       exact this
      walk_at "l2"
      refine Ev eD hq (by rw [ek];exact List.Pairwise.map _ (fun x y h z=>h (Sum.inr.inj z)) g.nd) fun d H7 f7 s7 e7=>?_
      have s57:=s'.trans s7
      rw [hps] at e7
      exact q d H7 wl ((c5.same.trans s').free f7) (c5.same.trans s57) ⟨e7,c5.nm,fun q' hq'=>(c5.ob q' hq').same s57⟩
theorem B5 (T:Tx K mg a):FnOk P w K mg base CX0 2 a.dF a.rn ["sums"] BM:=by
 have Gf:=@G8 P w K mg base a T
 refine T.mw.ok fQ (fun vs H Q E h=>?_) (fun cdv A outer s H vs Q E hr h=>?_)
 ·obtain ⟨s,rs,N,rfl,_⟩:=h;rfl
 ·obtain ⟨s,rs,N,rfl,hs,hsr,hes,g,q⟩:=h
  have lrs:rs.length=N.sums.length:=by rw [← hes,List.length_map]
  have ls:=g.ls
  refine ⟨_,((ah (bf (i:=1) fQ.nd rfl (by walk_at "o") (eS ad))
   (ah (bf (i:=2) fQ.nd rfl (by walk_at "o") (aw (bi (K:=K) rfl) (by rfl) T.df PyProof.Rows.boot_list (aa (pv 0) ad)))
   (ah (G4 PassesOwn.never (bw xE (aB (bu (K:=K) rfl) (by rfl) T.iu PySem.boot_len (aa (pv 2) ad)) am (bV _)) (ah (bf (i:=3) fQ.nd rfl (by walk_at "o") (aw (uM rfl) (by rfl) T.E7 PyProof.Rows.boot_dict (aa (pv 2) ad)))
   (ah (ko (osc:=af eO) (ON:=["sums","names","left","waiting","ready"]) (N:=["row","waiting"]) (n:=1) (fx:=[3]) (i:=4) fQ.nd rfl rfl rfl rfl rfl rfl (by decide +kernel) (bx (K:=K) rfl (pv 2)) (bo (by decide)) (fun _ _ _ _ _=>⟨(av (i:=0) (show List.Nodup (["row","waiting"]:List Str) from by decide +kernel) rfl (by walk_at "o")),(zu (gz (dw (ay Gf (hr.mono (by decide)) (by rfl) T.FE T.Fn T.wA .nil a0 (aa (pv 0) (aa (pv 1) ad)))))),(cj (b6 (K:=K) rfl) (pv 0) am (fun _ _=>rfl))⟩))
   (ah (c8 (bw xF (aB (bu (K:=K) rfl) (by rfl) T.iu PySem.boot_len (aa (pv 4) ad)) am (bV _)) (ak gR) aW)
   (ah (bW (jh (K:=K) rfl PySem.F.plainAttrs_list PySem.F.slot_list_extend PySem.F.type_list_extend qB (pv 1) (aa (pv 4) ad)))
   (ak (ko (osc:=af eO) (ON:=["sums","names","left","waiting","ready"]) (N:=["row","waiting"]) (n:=1) (fx:=[3]) (i:=2) fQ.nd rfl rfl rfl rfl rfl rfl (by decide +kernel) (bx (K:=K) rfl (pv 2)) (bo (by decide)) (fun _ _ _ _ _=>⟨(av (i:=0) (show List.Nodup (["row","waiting"]:List Str) from by decide +kernel) rfl (by walk_at "o")),(zu (dw (ay Gf (hr.mono (by decide)) (by rfl) T.FE T.Fn T.wA .nil a0 (aa (pv 0) (aa (pv 1) ad))))),(pv 0)⟩))))))))
   (ak (aZ (pv 1))))))),aK (σ':=[some _,none,none,none,none]) rfl ?_⟩
  walk_at "l2"
  intro Dn H1 f1 s1 e1
  have hs1:=s1.get hs
  walk_at "l2"
  intro Dl H2 f2 s2 e2
  walk_at "l2"
  have nd:=g.nds
  refine ⟨fun μ σ' H'=>∃ (od:List Str) (lf:List Rw) (Dl:Addr) (v3 v4:Option V),σ'=[some (.ref s),some (.ref Dn),some (.ref Dl),v3,v4]∧Same H H'∧H' Dn=some (.lst (od.map V.str))∧H' Dl=some (.lst (lf.map fun r=>V.ref r.1))∧Dl≠Dn∧(∀ r∈lf,r∈rs)∧Otp N.sums od (lf.map (·.2.2))∧μ=lf.length,⟨rs.length,[],rs,Dl,none,none,rfl,s1.trans s2,s2.get e1,e2,fun z=>(by rw [z,e1] at f2;cases f2),fun _ h=>h,by rw [hes];exact Otp.start _,rfl⟩,?_⟩
  rintro μ σ' H3 ⟨od,lf,Dl,v3,v4,rfl,s3,en,el,nln,sub,ot,rfl⟩
  walk_at "l2"
  rw [List.length_map]
  by_cases h0:lf=[]
  ·subst h0
   refine kZ (decide_eq_false (by simp)) ?_
   walk_at "l2"
   exact q Dn H3 od f1 s3 en ot.done
  ·have hpos:0 < lf.length:=List.length_pos_iff.mpr h0
   refine xl (decide_eq_true (by omega)) ?_
   have hperm:=ot.perm.nodup_iff.mpr nd
   rw [List.nodup_append] at hperm
   have ndl:(lf.map (·.2.2.1)).Nodup:=by have:=hperm.2.1;rw [List.map_map] at this;exact this
   have lod:od.length + lf.length=N.sums.length:=by have:=ot.perm.length_eq;rw [List.length_append,List.length_map,List.length_map,List.length_map] at this;exact this
   have hrd:=ot.ready g (by simpa using h0)
   have zsE:(lf.map (·.2.2)).map (·.1)=lf.map (·.2.2.1):=by rw [List.map_map];rfl
   rw [zsE] at hrd
   have lfr:∀ r∈lf,∀ {H'},Same H H'→H' r.1=some (.tup [.str r.2.2.1,.ref r.2.1])∧H' r.2.1=some (.tup (r.2.2.2.map V.str)):=fun r hr H' s'=>⟨s'.get (hsr r (sub r hr)).1,s'.get (hsr r (sub r hr)).2⟩
   have lwr:∀ r∈lf,r.2.2.2.length≤24:=fun r hr=>g.lw r.2.2 (by rw [← hes];exact List.mem_map.mpr ⟨r,sub r hr,rfl⟩)
   refine ⟨fun σ' H'=>∃ (od:List Str) (lf':List Rw) (Dl:Addr) (v3 v4:Option V),σ'=[some (.ref s),some (.ref Dn),some (.ref Dl),v3,v4]∧Same H H'∧H' Dn=some (.lst (od.map V.str))∧H' Dl=some (.lst (lf'.map fun r=>V.ref r.1))∧Dl≠Dn∧(∀ r∈lf',r∈rs)∧Otp N.sums od (lf'.map (·.2.2))∧lf'.length < lf.length,fun σ' H' ⟨od,lf',Dl,v3,v4,a1,a2,a3,a4,a5,a6,a7,a8⟩=>⟨lf'.length,a8,od,lf',Dl,v3,v4,a1,a2,a3,a4,a5,a6,a7,rfl⟩,?_⟩
   walk_at "l2"
   refine Ev (ps:=lf.map fun r=>(r.1,Sum.inr r.2.2.1,V.ref r.2.1)) (by rw [List.map_map];exact el) (fun q' hq'=>?_) ?_ fun d H4 f4 s4 e4=>?_
   ·obtain ⟨r,hr',rfl⟩:=List.mem_map.mp hq'
    exact (lfr r hr' s3).1
   ·rw [List.map_map]
    have:=List.Pairwise.map (Sum.inr:Str→Key) (S:=fun a b=>a≠b) (fun x y h z=>h (Sum.inr.inj z)) ndl
    rw [List.map_map] at this
    exact this
   have kn:Knw H4 d (lf.map (·.2.2.1)):=⟨_,e4,by rw [List.map_map,List.map_map,List.map_map];rfl⟩
   have el4:=s4.get el
   have en4:=s4.get en
   have s04:=s3.trans s4
   walk_at "l2"
   intro D5 hD5
   refine bT (xs:=lf.map fun r=>V.ref r.1) (fun i ys H'=>ys=(((lf.take i).filter fun r=> !dQ (lf.map (·.2.2.1)) r.2.2.2).map (·.2.2.1)).map V.str∧Same H4 H'∧H' D5=some (.lst ys)) ⟨rfl,bF hD5,au⟩ (fun i ys H' _ ⟨_,s',_⟩=>SqL.of (s'.get el4)) (fun i x ys H' hx ⟨ey,s',e'⟩=>?_) (fun ys H5 ⟨ey,s5,e5⟩=>?_)
   ·obtain ⟨r,hr',rfl⟩:=aX hx
    have hm:=List.mem_of_getElem? hr'
    have hlt:=(List.getElem?_eq_some_iff.mp hr').1
    have rr:=lfr r hm (s04.trans s')
    have r1:=rr.1
    have fs:(lf.take (i + 1)).filter (fun r=> !dQ (lf.map (·.2.2.1)) r.2.2.2)=(lf.take i).filter (fun r=> !dQ (lf.map (·.2.2.1)) r.2.2.2)++(if (!dQ (lf.map (·.2.2.1)) r.2.2.2)=true then [r] else []):=by rw [take_succ hr',List.filter_append,List.filter_cons];rfl
    walk_at "l2"
    refine ⟨r,d,lf.map (·.2.2.1),rfl,rr.1,rr.2,lwr r hm,kn.same s',fun H6 s6=>?_⟩
    have r16:=s6.get r1
    cases hw:dQ (lf.map (·.2.2.1)) r.2.2.2 with
    | true=>
      walk_at "l2"
      refine ⟨?_,s'.trans s6,s6.get e'⟩
      rw [fs,hw,ey];simp
    | false=>
      walk_at "l2"
      refine ⟨s6.get e',?_,?_,fun b o e=>?_,au⟩
      ·rw [ey,List.length_map,List.length_map]
       have:=List.length_filter_le (fun r:Rw=> !dQ (lf.map (·.2.2.1)) r.2.2.2) (lf.take i)
       rw [List.length_take] at this
       exact bz (by omega)
      ·rw [fs,hw,ey];simp
      ·rw [aq (aj e hD5)]
       exact s6.get (s'.get e)
   ·rw [List.length_map,List.take_length] at ey
    have fm:((lf.map (·.2.2)).filter fun r=> !dQ (lf.map (·.2.2.1)) r.2)=(lf.filter fun r=> !dQ (lf.map (·.2.2.1)) r.2.2.2).map (·.2.2):=by rw [List.filter_map];rfl
    have fm2:((lf.map (·.2.2)).filter fun r=>dQ (lf.map (·.2.2.1)) r.2)=(lf.filter fun r=>dQ (lf.map (·.2.2.1)) r.2.2.2).map (·.2.2):=by rw [List.filter_map];rfl
    rw [fm,List.length_map] at hrd
    have lys:ys.length=(lf.filter fun r=> !dQ (lf.map (·.2.2.1)) r.2.2.2).length:=by rw [ey,List.length_map,List.length_map]
    have lle:=List.length_filter_le (fun r:Rw=> !dQ (lf.map (·.2.2.1)) r.2.2.2) lf
    have hless:=Ag (fun r:Rw=>dQ (lf.map (·.2.2.1)) r.2.2.2) lf hrd
    have ot':=ot.step nd
    rw [zsE,fm,fm2,List.map_map] at ot'
    have el5:=s5.get el4
    have en5:=s5.get en4
    walk_at "l2"
    refine kZ (decide_eq_false fun z=>by have:=V.int.inj z;omega) ?_
    walk_at "l2"
    refine uV en5 e5 (by rw [List.length_map,lys,sizeLine_eq];omega) fun H6 u6=>?_
    have s46:∀ b o,b≠Dn→H4 b=some o→H6 b=some o:=fun b o n e=>u6.oth _ _ n (s5.get e)
    have s06:Same H H6:=fun b o e=>s46 b o (aj e f1) (s04.get e)
    have el6:=u6.oth _ _ nln el5
    have en6:=u6.at'
    rw [ey,← List.map_append] at en6
    have kn6:Knw H6 d (lf.map (·.2.2.1)):=by
     obtain ⟨kvs,ed,ek⟩:=kn
     exact ⟨kvs,s46 _ _ (jq ed en4 fun z=>by cases z) ed,ek⟩
    walk_at "l2"
    intro D7 hD7
    refine bT (xs:=lf.map fun r=>V.ref r.1) (fun i ys H'=>ys=((lf.take i).filter fun r=>dQ (lf.map (·.2.2.1)) r.2.2.2).map (fun r=>V.ref r.1)∧Same H6 H'∧H' D7=some (.lst ys)) ⟨rfl,bF hD7,au⟩ (fun i ys H' _ ⟨_,s',_⟩=>SqL.of (s'.get el6)) (fun i x ys H' hx ⟨ey,s',e'⟩=>?_) (fun ys H7 ⟨ey7,s7,e7⟩=>?_)
    ·obtain ⟨r,hr',rfl⟩:=aX hx
     have hm:=List.mem_of_getElem? hr'
     have hlt:=(List.getElem?_eq_some_iff.mp hr').1
     have rr:=lfr r hm (s06.trans s')
     have fs:(lf.take (i + 1)).filter (fun r=>dQ (lf.map (·.2.2.1)) r.2.2.2)=(lf.take i).filter (fun r=>dQ (lf.map (·.2.2.1)) r.2.2.2)++(if dQ (lf.map (·.2.2.1)) r.2.2.2=true then [r] else []):=by rw [take_succ hr',List.filter_append,List.filter_cons];rfl
     walk_at "l2"
     refine ⟨r,d,lf.map (·.2.2.1),rfl,rr.1,rr.2,lwr r hm,kn6.same s',fun H8 s8=>?_⟩
     cases hw:dQ (lf.map (·.2.2.1)) r.2.2.2 with
     | false=>
       walk_at "l2"
       refine ⟨?_,s'.trans s8,s8.get e'⟩
       rw [fs,hw,ey];simp
     | true=>
       walk_at "l2"
       refine ⟨s8.get e',?_,?_,fun b o e=>?_,au⟩
       ·rw [ey,List.length_map]
        have:=List.length_filter_le (fun r:Rw=>dQ (lf.map (·.2.2.1)) r.2.2.2) (lf.take i)
        rw [List.length_take] at this
        exact bz (by omega)
       ·rw [fs,hw,ey];simp
       ·rw [aq (aj e hD7)]
        exact s8.get (s'.get e)
    ·rw [List.length_map,List.take_length] at ey7
     rw [ey7] at e7
     walk_at "l2"
     have hsub:∀ r∈lf.filter (fun r=>dQ (lf.map (·.2.2.1)) r.2.2.2),r∈rs:=fun r hr=>sub r (List.mem_filter.mp hr).1
     have nd7:D7≠Dn:=fun z=>(by rw [z,en6] at hD7;cases hD7)
     exact ⟨_,_,D7,_,_,rfl,s06.trans s7,s7.get en6,e7,nd7,hsub,ot',hless⟩
end
section
variable {P:Program} {w:World} {K:PySem.W.Frag} {mg:Str→Option Value} {base:Heap} {a:Ad}
local macro_rules | `(tactic| walk_at "l2step") =>`(tactic| first | ((with_reducible refine' c_whole ?e ?_);(case e=>walk_at "l2kind")) | ((with_reducible refine' c_mask ?e ?_);(case e=>walk_at "l2kind")) | (with_reducible refine cM ?_) | (with_reducible refine eV ?_))
theorem qh (T:Tx K mg a):FnOk P w K mg base CX0 8 a.be a.gZ ["self","ins","sums","stores","outs"] (Jn a.aQ a.al a.ai a.ae):=by
 have wL:=@sy P w K mg base a T
 have wM:=@sL P w K mg base a T
 have wK:=@su P w K mg base a T
 have rR:=@oN P w K mg base a T
 have Gg:=@B5 P w K mg base a T
 refine T.eG.ok pX (fun vs H Q E h=>?_) (fun cdv A outer s H vs Q E hr h=>?_)
 ·obtain ⟨x,dx,i,s,t,o,rs,qs,N,rfl,_⟩:=h;rfl
 ·obtain ⟨x,dx,i,s,t,o,rs,qs,N,rfl,hx,hn,g,q⟩:=h
  have li:=g.li
  have ls:=g.ls
  have lt:=g.lt
  have lo:=g.lo
  have lrs:rs.length=N.sums.length:=by rw [← hn.es,List.length_map]
  have lqs:qs.length=N.sts.length:=by rw [← hn.et,List.length_map]
  refine ⟨_,((ah (bW (ay wL (hr.mono (by decide)) (by rfl) T.vW T.vO T.iJ .nil a0 (aa (pv 1) (aa (pv 2) (aa (pv 3) (aa (pv 4) ad))))))
   (ah (bW (ay wM (hr.mono (by decide)) (by rfl) T.vX T.vP T.iK .nil a0 (aa (aC jY (aC jY (aw (bi (K:=K) rfl) (by rfl) T.df PyProof.Rows.boot_list (aa (pv 1) ad)) (cr (osc:=af bp) (ON:=["self","ins","sums","stores","outs"]) (N:=["row"]) (n:=1) (fx:=[]) rfl rfl rfl (by decide +kernel) (bx (K:=K) rfl (pv 2)) (bo (by decide)) (fun _ _ _ _ _=>⟨(av (i:=0) (show List.Nodup (["row"]:List Str) from by decide +kernel) rfl (by walk_at "o")),bQ,(cj (b6 (K:=K) rfl) (pv 0) am (fun _ _=>rfl))⟩))) (cr (osc:=af bp) (ON:=["self","ins","sums","stores","outs"]) (N:=["row"]) (n:=1) (fx:=[]) rfl rfl rfl (by decide +kernel) (bx (K:=K) rfl (pv 3)) (bo (by decide)) (fun _ _ _ _ _=>⟨(av (i:=0) (show List.Nodup (["row"]:List Str) from by decide +kernel) rfl (by walk_at "o")),bQ,(cj (b6 (K:=K) rfl) (pv 0) am (fun _ _=>rfl))⟩))) ad)))
   (ah (fY (K:=K) rfl (pv 0) (aw (b8 (K:=K) rfl) (by rfl) T.ff PyProof.Rows.boot_tuple (aa (pv 1) ad)) rfl)
   (ah (fY (K:=K) rfl (pv 0) (aw (b8 (K:=K) rfl) (by rfl) T.ff PyProof.Rows.boot_tuple (aa (cr (osc:=af bp) (ON:=["self","ins","sums","stores","outs"]) (N:=["row"]) (n:=1) (fx:=[]) rfl rfl rfl (by decide +kernel) (bx (K:=K) rfl (pv 2)) (bo (by decide)) (fun _ _ _ _ _=>⟨(av (i:=0) (show List.Nodup (["row"]:List Str) from by decide +kernel) rfl (by walk_at "o")),bQ,(dP (aa (cj (b6 (K:=K) rfl) (pv 0) am (fun _ _=>rfl)) (aa (aw (b8 (K:=K) rfl) (by rfl) T.ff PyProof.Rows.boot_tuple (aa (cj (b6 (K:=K) rfl) (pv 0) am (fun _ _=>rfl)) ad)) ad)))⟩)) ad)) rfl)
   (ah (fY (K:=K) rfl (pv 0) (aw (b8 (K:=K) rfl) (by rfl) T.ff PyProof.Rows.boot_tuple (aa (cr (osc:=af bp) (ON:=["self","ins","sums","stores","outs"]) (N:=["row"]) (n:=1) (fx:=[]) rfl rfl rfl (by decide +kernel) (bx (K:=K) rfl (pv 3)) (bo (by decide)) (fun _ _ _ _ _=>⟨(av (i:=0) (show List.Nodup (["row"]:List Str) from by decide +kernel) rfl (by walk_at "o")),bQ,(dP (aa (cj (b6 (K:=K) rfl) (pv 0) am (fun _ _=>rfl)) (aa (cj (b6 (K:=K) rfl) (pv 0) am (fun _ _=>rfl)) ad)))⟩)) ad)) rfl)
   (ah (fY (K:=K) rfl (pv 0) (aw (b8 (K:=K) rfl) (by rfl) T.ff PyProof.Rows.boot_tuple (aa (pv 4) ad)) rfl)
   (ah (fY (K:=K) rfl (pv 0) (ay rR (hr.mono (by decide)) (by rfl) T.qX T.qT T.gw .nil a0 (aa (bH (K:=K) rfl (pv 0) rfl) (aa (bH (K:=K) rfl (pv 0) rfl) (aa (bH (K:=K) rfl (pv 0) rfl) ad)))) rfl)
   (ah (bW (ay wK (hr.mono (by decide)) (by rfl) T.vV T.vN T.iI .nil a0 (aa (bH (K:=K) rfl (pv 0) rfl) (aa (bH (K:=K) rfl (pv 0) rfl) (aa (bH (K:=K) rfl (pv 0) rfl) (aa (bH (K:=K) rfl (pv 0) rfl) ad))))))
   (ak (fY (K:=K) rfl (pv 0) (aw (b8 (K:=K) rfl) (by rfl) T.ff PyProof.Rows.boot_tuple (aa (ay Gg (hr.mono (by decide)) (by rfl) T.FF T.Fo T.rK .nil a0 (aa (bH (K:=K) rfl (pv 0) rfl) ad)) ad)) rfl))))))))))),aK (σ':=[some _,some _,some _,some _,some _]) rfl ?_⟩
  walk_at "l2"
  refine ⟨i,s,t,o,rs,qs,N,rfl,hn,g,fun H1 s1=>?_⟩
  have hn1:=hn.same s1
  have hi1:=hn1.i
  have hs1:=hn1.s
  have ht1:=hn1.t
  walk_at "l2"
  intro D2 H2 f2 s2 e2
  have hs2:=s2.get hs1
  walk_at "l2"
  intro D3 hD3
  refine bT (xs:=rs.map fun r=>V.ref r.1) (fun i ys H'=>Cs (fun i ys=>ys=((rs.take i).map (·.2.2.1)).map V.str) H2 D3 i ys H') (Cs.zero hD3 rfl) (fun i ys H' _ c=>SqL.of (c.same.get hs2)) (fun i x ys H' hx c=>?_) (fun ys H3 c=>?_)
  ·obtain ⟨r,hr',rfl⟩:=aX hx
   have hlt:=(List.getElem?_eq_some_iff.mp hr').1
   have er:=c.same.get (s2.get (hn1.sr r (List.mem_of_getElem? hr')).1)
   walk_at "l2"
   refine Cs.put hD3 c.same c.at' c.len (by omega) ?_
   rw [c.pv,take_succ hr',List.map_append,List.map_append];rfl
  ·have e3:=c.at'
   rw [c.pv,List.length_map,List.take_length] at e3
   have s23:=c.same
   clear c
   refine sf (s23.get e2) e3 (by rw [List.length_map,List.length_map,List.length_map,sizeLine_eq];omega) fun D4 H4 f4 s4 e4=>?_
   have s14:=s2.trans (s23.trans s4)
   have ht4:=s14.get ht1
   walk_at "l2"
   intro D5 hD5
   refine bT (xs:=qs.map fun r=>V.ref r.1) (fun i ys H'=>Cs (fun i ys=>ys=((qs.take i).map (·.2.1)).map V.str) H4 D5 i ys H') (Cs.zero hD5 rfl) (fun i ys H' _ c=>SqL.of (c.same.get ht4)) (fun i x ys H' hx c=>?_) (fun ys H5 c=>?_)
   ·obtain ⟨r,hr',rfl⟩:=aX hx
    have hlt:=(List.getElem?_eq_some_iff.mp hr').1
    have er:=c.same.get (s14.get (hn1.tr r (List.mem_of_getElem? hr')))
    walk_at "l2"
    refine Cs.put hD5 c.same c.at' c.len (by omega) ?_
    rw [c.pv,take_succ hr',List.map_append,List.map_append];rfl
   ·have e5:=c.at'
    rw [c.pv,List.length_map,List.take_length] at e5
    have s45:=c.same
    clear c
    have enm:N.ins++rs.map (·.2.2.1)++qs.map (·.2.1)=N.names:=by
     unfold Nt.names
     rw [← hn.es,← hn.et,List.map_map,List.map_map];rfl
    have lnm:N.names.length≤100:=by rw [← enm,List.length_append,List.length_append,List.length_map,List.length_map];omega
    refine sf (s45.get e4) e5 (by rw [List.length_append,List.length_map,List.length_map,List.length_map,List.length_map,List.length_map,sizeLine_eq];omega) fun D6 H6 f6 s6 e6=>?_
    rw [← List.map_append,← List.map_append,enm] at e6
    have s16:=s14.trans (s45.trans s6)
    walk_at "l2"
    refine ⟨D6,N.names,rfl,e6,by omega,g.nd,g.nm,fun H7 s7=>?_⟩
    have s07:=s1.trans (s16.trans s7)
    have hn7:=hn.same s07
    have hx7:=s07.get hx
    clear e6 e5 e4 e3 e2 s16 s14 hs2 ht4 hi1 hs1 ht1 hn1 hD3 hD5 f2 f4 f6 s1 s2 s23 s4 s45 s6 s7
    have hi7:=hn7.i
    walk_at "l2"
    intro ti H8 f8 s8 e8
    walk_at "l2"
    refine fU (s8.get hx7) T.cB T.qA (by show 0 < 1000;decide) rfl fun H9 u9=>?_
    have hx8:=s8.get hx7
    have hn9:=(Kx.upd u9).hnd2 hx8 (hn7.same s8)
    have e9:=(Kx.upd u9).tup hx8 e8
    have hx9:=u9.at'
    have k9:Kx x H H9:=(Kx.same (s07.trans s8)).trans (Kx.upd u9)
    have hs9:=hn9.s
    clear u9 hx8 s8 e8 f8 hi7 hx7 hn7 s07
    walk_at "l2"
    intro D10 hD10
    refine bT (xs:=rs.map fun r=>V.ref r.1) (fun i ys H'=>∃ rs':List Rw,ys=rs'.map (fun r=>V.ref r.1)∧rs'.map (·.2.2)=(rs.take i).map (·.2.2)∧RwK H' rs'∧Same H9 H'∧H' D10=some (.lst ys)) ⟨[],rfl,rfl,fun _ h=>absurd h (by simp),bF hD10,au⟩ (fun i ys H' _ ⟨_,_,_,_,s',_⟩=>SqL.of (s'.get hs9)) ?_ ?_
    ·rintro i y ys H' hy ⟨rs',rfl,hrs,hk,s',eD⟩
     obtain ⟨r,hr',rfl⟩:=aX hy
     have hlt:=(List.getElem?_eq_some_iff.mp hr').1
     have hm:=List.mem_of_getElem? hr'
     have er:=s'.get (hn9.sr r hm).1
     have hlen:rs'.length=i:=by have:=congrArg List.length hrs;rw [List.length_map,List.length_map,List.length_take] at this;omega
     rcases (hn9.sr r hm).2 with ew | ew
     ·have ew:=s'.get ew
      walk_at "l2"
      intro tw H11 f11 s11 e11
      walk_at "l2"
      intro tr H12 f12 s12 e12
      have ntr:tr≠D10:=fun z=>(by rw [z,s11.get eD] at f12;cases f12)
      have ntw:tw≠D10:=fun z=>(by rw [z,eD] at f11;cases f11)
      have eD12:=s12.get (s11.get eD)
      refine ⟨eD12,by rw [List.length_map];exact bz (by omega),rs'++[(tr,tw,r.2.2)],by rw [List.map_append];rfl,by rw [List.map_append,hrs,take_succ hr',List.map_append];rfl,fun r2 h2=>?_,fun b ob e=>?_,au⟩
      ·rcases List.mem_append.mp h2 with h2 | h2
       ·exact ((hk.same s11).same s12).updL eD12 (fun b ob n e=>by rw [aq n];exact e) r2 h2
       ·rw [List.mem_singleton] at h2;subst h2
        exact ⟨by rw [aq ntr];exact e12,by rw [aq ntw];exact s12.get e11⟩
      ·rw [aq (aj e hD10)]
       exact s12.get (s11.get (s'.get e))
     ·have ew:=s'.get ew
      walk_at "l2"
      intro tr H12 f12 s12 e12
      have s11:Same H' H':=Same.refl _
      have ntr:tr≠D10:=fun z=>(by rw [z,s11.get eD] at f12;cases f12)
      have ntw:r.2.1≠D10:=fun z=>(by rw [z,eD] at ew;cases ew)
      have eD12:=s12.get (s11.get eD)
      refine ⟨eD12,by rw [List.length_map];exact bz (by omega),rs'++[(tr,r.2.1,r.2.2)],by rw [List.map_append];rfl,by rw [List.map_append,hrs,take_succ hr',List.map_append];rfl,fun r2 h2=>?_,fun b ob e=>?_,au⟩
      ·rcases List.mem_append.mp h2 with h2 | h2
       ·exact ((hk.same s11).same s12).updL eD12 (fun b ob n e=>by rw [aq n];exact e) r2 h2
       ·rw [List.mem_singleton] at h2;subst h2
        exact ⟨by rw [aq ntr];exact e12,by rw [aq ntw];exact s12.get ew⟩
      ·rw [aq (aj e hD10)]
       exact s12.get (s11.get (s'.get e))
    ·rintro ys H10 ⟨rs',rfl,hrs,hk,s10,eD10⟩
     rw [List.length_map,List.take_length,hn.es] at hrs
     walk_at "l2"
     intro ts H11 f11 s11 e11
     have s911:=s10.trans s11
     have hx11:=s911.get hx9
     walk_at "l2"
     refine fU hx11 T.cB T.ia (by show 1 < 1000;decide) rfl fun H12 u12=>?_
     have hn12:=(Kx.upd u12).hnd2 hx11 (hn9.same s911)
     have e912:=(Kx.upd u12).tup hx11 (s911.get e9)
     have e12:=(Kx.upd u12).tup hx11 e11
     have rk12:=(Kx.upd u12).rw hx11 (hk.same s11)
     have hx12:=u12.at'
     have k12:Kx x H H12:=k9.trans ((Kx.same s911).trans (Kx.upd u12))
     have ht12:=hn12.t
     clear u12 hx11 s911 s10 s11 e11 f11 hk eD10 hD10 hn9 hs9 hx9 e9 k9
     walk_at "l2"
     intro D13 hD13
     refine bT (xs:=qs.map fun r=>V.ref r.1) (fun i ys H'=>∃ qs':List Qs,ys=qs'.map (fun r=>V.ref r.1)∧qs'.map (·.2)=(qs.take i).map (·.2)∧QsK H' qs'∧Same H12 H'∧H' D13=some (.lst ys)) ⟨[],rfl,rfl,fun _ h=>absurd h (by simp),bF hD13,au⟩ (fun i ys H' _ ⟨_,_,_,_,s',_⟩=>SqL.of (s'.get ht12)) ?_ ?_
     ·rintro i y ys H' hy ⟨qs',rfl,hqs,hk,s',eD⟩
      obtain ⟨r,hr',rfl⟩:=aX hy
      have hlt:=(List.getElem?_eq_some_iff.mp hr').1
      have er:=s'.get (hn12.tr r (List.mem_of_getElem? hr'))
      have hlen:qs'.length=i:=by have:=congrArg List.length hqs;rw [List.length_map,List.length_map,List.length_take] at this;omega
      walk_at "l2"
      intro tr H14 f14 s14 e14
      have ntr:tr≠D13:=fun z=>(by rw [z,eD] at f14;cases f14)
      have eD14:=s14.get eD
      refine ⟨eD14,by rw [List.length_map];exact bz (by omega),qs'++[(tr,r.2)],by rw [List.map_append];rfl,by rw [List.map_append,hqs,take_succ hr',List.map_append];rfl,fun r2 h2=>?_,fun b ob e=>?_,au⟩
      ·rcases List.mem_append.mp h2 with h2 | h2
       ·exact (hk.same s14).updL eD14 (fun b ob n e=>by rw [aq n];exact e) r2 h2
       ·rw [List.mem_singleton] at h2;subst h2
        rw [aq ntr];exact e14
      ·rw [aq (aj e hD13)]
       exact s14.get (s'.get e)
     ·rintro ys H13 ⟨qs',rfl,hqs,hqk,s13,eD13⟩
      rw [List.length_map,List.take_length,hn.et] at hqs
      walk_at "l2"
      intro tk H14 f14 s14 e14
      have s1214:=s13.trans s14
      have hx14:=s1214.get hx12
      walk_at "l2"
      refine fU hx14 T.cB T.cR (by show 2 < 1000;decide) rfl fun H15 u15=>?_
      have hn15:=(Kx.upd u15).hnd2 hx14 (hn12.same s1214)
      have ei15:=(Kx.upd u15).tup hx14 (s1214.get e912)
      have es15:=(Kx.upd u15).tup hx14 (s1214.get e12)
      have rk15:=(Kx.upd u15).rw hx14 (rk12.same s1214)
      have et15:=(Kx.upd u15).tup hx14 e14
      have qk15:=(Kx.upd u15).qs hx14 (hqk.same s14)
      have hx15:=u15.at'
      have k15:Kx x H H15:=k12.trans ((Kx.same s1214).trans (Kx.upd u15))
      have ho15:=hn15.o
      clear u15 hx14 s1214 s13 s14 e14 f14 hqk eD13 hD13 hn12 ht12 hx12 e12 e912 k12 rk12
      walk_at "l2"
      intro to H16 f16 s16 e16
      have hx16:=s16.get hx15
      walk_at "l2"
      refine fU hx16 T.cB T.mV (by show 3 < 1000;decide) rfl fun H17 u17=>?_
      have kp17:Kpt H17 ti ts tk to rs' qs' N:=(Kx.upd u17).kpt hx16 ⟨s16.get ei15,s16.get es15,rk15.same s16,hrs,s16.get et15,qk15.same s16,hqs,e16⟩
      have hx17:=u17.at'
      have k17:Kx x H H17:=k15.trans ((Kx.same s16).trans (Kx.upd u17))
      clear u17 hx16 s16 e16 f16 hx15 k15 ei15 es15 rk15 et15 qk15 ho15 hn15
      walk_at "l2"
      refine bC hx17 T.cB T.qA rfl ?_
      walk_at "l2"
      refine bC hx17 T.cB T.ia rfl ?_
      walk_at "l2"
      refine bC hx17 T.cB T.cR rfl ?_
      walk_at "l2"
      refine ⟨ti,ts,tk,to,rs',qs',N,rfl,kp17,g,fun db H18 ws f18 s18 wi=>?_⟩
      have hx18:=s18.get hx17
      walk_at "l2"
      refine fU hx18 T.cB T.dD (by show 4 < 1000;decide) rfl fun H19 u19=>?_
      have hdb:db≠x:=jq wi.d hx18 fun z=>by cases z
      have hws:∀ q∈ws,q.2≠x:=fun q hq z=>by
       obtain ⟨C,dx',fs,e,_⟩:=(wi.ob q hq).name
       rw [z,hx18] at e
       injection e with e
       injection e with _ _ e
       injection e with e _
       injection e with e _
       exact absurd e (by decide)
      have wi19:=(Kx.upd u19).wia wi hdb hws hx18
      have kp19:=(Kx.upd u19).kpt hx18 (kp17.same s18)
      have hx19:=u19.at'
      have k19:Kx x H H19:=k17.trans ((Kx.same s18).trans (Kx.upd u19))
      clear u19 wi kp17 hx17 hx18 s18 k17 f18
      walk_at "l2"
      refine bC hx19 T.cB T.ia rfl ?_
      walk_at "l2"
      refine bC hx19 T.cB T.cR rfl ?_
      walk_at "l2"
      refine bC hx19 T.cB T.mV rfl ?_
      walk_at "l2"
      refine bC hx19 T.cB T.dD rfl ?_
      walk_at "l2"
      refine ⟨ti,ts,tk,to,db,rs',qs',N,rfl,kp19,g,wi19.knw,fun H20 s20=>?_⟩
      have hx20:=s20.get hx19
      have kp20:=kp19.same s20
      walk_at "l2"
      refine bC hx20 T.cB T.ia rfl ?_
      walk_at "l2"
      refine ⟨ts,rs',N,rfl,kp20.s,kp20.sr,hrs,g,fun Do H21 od f21 s21 e21 tp=>?_⟩
      walk_at "l2"
      intro tq H22 f22 s22 e22
      have s1922:=s20.trans (s21.trans s22)
      have hx22:=s1922.get hx19
      walk_at "l2"
      refine fU hx22 T.cB T.jt (by show 5 < 1000;decide) rfl fun H23 u23=>?_
      walk_at "l2"
      exact q H23 od (k19.trans ((Kx.same s1922).trans (Kx.upd u23))) ⟨⟨dx,ti,ts,tk,to,db,tq,rs',qs',ws,u23.at',(Kx.upd u23).kpt hx22 (kp19.same s1922),(Kx.upd u23).wia (wi19.same s1922) hdb hws hx22,(Kx.upd u23).tup hx22 e22⟩,g,tp⟩
end
section
variable {P:Program} {w:World} {K:PySem.W.Frag} {mg:Str→Option Value} {base:Heap} {a:Ad}
local macro_rules | `(tactic| walk_at "l2step") =>`(tactic| first | ((with_reducible refine' c_whole ?e ?_);(case e=>walk_at "l2kind")) | ((with_reducible refine' c_mask ?e ?_);(case e=>walk_at "l2kind")) | (with_reducible refine cM ?_) | (with_reducible refine eV ?_))
noncomputable abbrev NAof (a:Ad):NP:=fun H p N od=>NetA H a.aQ a.al a.ai a.ae p N od
theorem jl (T:Tx K mg a):FnOk P w K mg base CX0 1 a.bc a.gY ["self"] (BP (NAof a)):=by
 refine T.eu.ok pW (fun vs H Q E h=>?_) (fun cdv A outer s H vs Q E hr h=>?_)
 ·obtain ⟨p,N,od,rfl,_⟩:=h;rfl
 ·obtain ⟨p,N,od,rfl,na,q⟩:=h
  obtain ⟨dx,i,s,t,o,d,tq,rs,qs,ws,hp,kp,wi,eq⟩:=na.ho
  have hi:=kp.i
  refine ⟨_,((ak (aZ (aw (bi (K:=K) rfl) (by rfl) T.df PyProof.Rows.boot_list (aa (bH (K:=K) rfl (pv 0) rfl) ad))))),aK (σ':=[some _]) rfl ?_⟩
  walk_at "l2"
  refine bC hp T.cB T.qA rfl ?_
  walk_at "l2"
  exact q
theorem iT (T:Tx K mg a):FnOk P w K mg base CX0 1 a.aP a.gu ["self"] (Jm (NAof a)):=by
 refine T.dO.ok oI (fun vs H Q E h=>?_) (fun cdv A outer s H vs Q E hr h=>?_)
 ·obtain ⟨p,N,od,rfl,_⟩:=h;rfl
 ·obtain ⟨p,N,od,rfl,na,q⟩:=h
  obtain ⟨dx,i,s,t,o,d,tq,rs,qs,ws,hp,kp,wi,eq⟩:=na.ho
  have ho:=kp.o
  refine ⟨_,((ak (aZ (aw (bi (K:=K) rfl) (by rfl) T.df PyProof.Rows.boot_list (aa (bH (K:=K) rfl (pv 0) rfl) ad))))),aK (σ':=[some _]) rfl ?_⟩
  walk_at "l2"
  refine bC hp T.cB T.mV rfl ?_
  walk_at "l2"
  exact q
theorem h9 (T:Tx K mg a):FnOk P w K mg base CX0 1 a.aI a.fi ["self"] (D0 (NAof a)):=by
 refine T.dk.ok mF (fun vs H Q E h=>?_) (fun cdv A outer s H vs Q E hr h=>?_)
 ·obtain ⟨p,N,od,rfl,_⟩:=h;rfl
 ·obtain ⟨p,N,od,rfl,na,q⟩:=h
  obtain ⟨dx,i,s,t,o,d,tq,rs,qs,ws,hp,kp,wi,eq⟩:=na.ho
  have ht:=kp.t
  refine ⟨_,((ak (aZ (aw (bi (K:=K) rfl) (by rfl) T.df PyProof.Rows.boot_list (aa (bH (K:=K) rfl (pv 0) rfl) ad))))),aK (σ':=[some _]) rfl ?_⟩
  walk_at "l2"
  refine bC hp T.cB T.cR rfl ?_
  walk_at "l2"
  intro D H2 f2 s2 e2
  exact q D H2 qs f2 s2 e2 (fun q' m=>s2.get (kp.tr q' m)) kp.et
theorem jZ (T:Tx K mg a):FnOk P w K mg base (CX1 P w) 6 a.bt a.iH ["self","name"] (BK (NAof a) a.al a.ai a.ae a.ao):=by
 have eU:=@lA P w K mg base a T
 refine T.fP.okX r9 (fun vs H Q E h=>?_) (fun cdv A outer s H vs Q E hr h=>?_)
 ·obtain ⟨p,N,od,v,k,rfl,_⟩:=h;rfl
 ·obtain ⟨p,N,od,v,k,rfl,na,sv,qQ,qE⟩:=h
  have hu:=Hz hr
  obtain ⟨dx,i,s,t,o,d,tq,rs,qs,ws,hp,kp,wi,eq⟩:=na.ho
  have g:=na.g
  refine ⟨_,((ah (bW (pM eU (hr.mono (by decide)) (by rfl) T.gG T.gC T.dz .nil uO (aa (pv 1) (aa (bH (K:=K) rfl (pv 0) rfl) ad))))
   (ak (aZ (JQ hu (bH (K:=K) rfl (pv 0) rfl) (pv 1) (fun _ _=>rfl)))))),aK (σ':=[some _,some _]) rfl ?_⟩
  walk_at "l2"
  refine bC hp T.cB T.dD rfl ?_
  walk_at "l2"
  refine ⟨v,k,d,N.names,rfl,sv,wi.knw,g.nm,fun z hz ev H2 s2=>?_,fun hb H2 dx' tl=>qE hb H2 dx' tl⟩
  subst ev
  have wi2:=wi.same s2
  walk_at "l2"
  refine bC (s2.get hp) T.cB T.dD rfl ?_
  walk_at "l2"
  obtain ⟨t',m,v'⟩:=GC (hs:=ws) (z:=z) (by rw [wi.nm];exact hz)
  refine JD wi2.d v' ?_
  have wb:=wi2.ob _ m
  walk_at "l2"
  exact qQ z hz rfl t' H2 s2 wb
theorem xJ (T:Tx K mg a):FnOk P w K mg base CX0 1 a.bR a.kH ["self"] (Ea (NAof a)):=by
 refine T.iQ.ok xk (fun vs H Q E h=>?_) (fun cdv A outer s H vs Q E hr h=>?_)
 ·obtain ⟨p,N,od,rfl,_⟩:=h;rfl
 ·obtain ⟨p,N,od,rfl,na,q⟩:=h
  obtain ⟨dx,i,s,t,o,d,tq,rs,qs,ws,hp,kp,wi,eq⟩:=na.ho
  refine ⟨_,((ak (aZ (aw (bi (K:=K) rfl) (by rfl) T.df PyProof.Rows.boot_list (aa (bH (K:=K) rfl (pv 0) rfl) ad))))),aK (σ':=[some _]) rfl ?_⟩
  walk_at "l2"
  refine bC hp T.cB T.jt rfl ?_
  walk_at "l2"
  exact q
theorem mL (T:Tx K mg a):FnOk P w K mg base CX0 1 a.aH a.fh ["self"] (DZ (NAof a)):=by
 refine T.dj.ok mE (fun vs H Q E h=>?_) (fun cdv A outer s H vs Q E hr h=>?_)
 ·obtain ⟨p,N,od,rfl,_⟩:=h;rfl
 ·obtain ⟨p,N,od,rfl,na,q⟩:=h
  obtain ⟨dx,i,s,t,o,d,tq,rs,qs,ws,hp,kp,wi,eq⟩:=na.ho
  have hd:=wi.d
  refine ⟨_,((ak (aZ (aw (CY rfl) (by rfl) T.df PyProof.Rows.boot_list (aa (bH (K:=K) rfl (pv 0) rfl) ad))))),aK (σ':=[some _]) rfl ?_⟩
  walk_at "l2"
  refine bC hp T.cB T.dD rfl ?_
  walk_at "l2"
  intro D H2 f2 s2 e2
  refine q D H2 f2 s2 ?_
  rw [e2,← wi.nm]
  unfold yi
  rw [List.map_map,List.map_map];rfl
theorem jk (T:Tx K mg a):FnOk P w K mg base CX0 1 a.bb a.gX ["self"] (Jl (NAof a)):=by
 refine T.eh.ok pV (fun vs H Q E h=>?_) (fun cdv A outer s H vs Q E hr h=>?_)
 ·obtain ⟨p,N,od,rfl,_⟩:=h;rfl
 ·obtain ⟨p,N,od,rfl,na,q⟩:=h
  obtain ⟨dx,i,s,t,o,d,tq,rs,qs,ws,hp,kp,wi,eq⟩:=na.ho
  have hs:=kp.s
  refine ⟨_,((ak (aZ (aw (bi (K:=K) rfl) (by rfl) T.df PyProof.Rows.boot_list (aa (bH (K:=K) rfl (pv 0) rfl) ad))))),aK (σ':=[some _]) rfl ?_⟩
  walk_at "l2"
  refine bC hp T.cB T.ia rfl ?_
  walk_at "l2"
  intro D H2 f2 s2 e2
  exact q D H2 rs f2 s2 e2 (RwK.same kp.sr s2) kp.es
theorem zB (T:Tx K mg a):FnOk P w K mg base CX0 2 a.ci a.nv ["self"] (GI (NAof a)):=by
 have g9:=@jl P w K mg base a T
 have g8:=@jk P w K mg base a T
 have fk:=@h9 P w K mg base a T
 have gx:=@iT P w K mg base a T
 refine T.jO.ok zo (fun vs H Q E h=>?_) (fun cdv A outer s H vs Q E hr h=>?_)
 ·obtain ⟨p,N,od,rfl,_⟩:=h;rfl
 ·obtain ⟨p,N,od,rfl,na,q⟩:=h
  obtain ⟨dx,i,s,t,o,d,tq,rs,qs,ws,hp,kp,wi,eq⟩:=na.ho
  refine ⟨_,((ak (aZ (dP (aa (dC (pv 0) T.cB T.j4 g9 (hr.mono (by decide)) T.ee .nil a0) (aa (dC (pv 0) T.cB T.j3 g8 (hr.mono (by decide)) T.d9 .nil a0) (aa (dC (pv 0) T.cB T.iV fk (hr.mono (by decide)) T.di .nil a0) (aa (dC (pv 0) T.cB T.jw gx (hr.mono (by decide)) T.dJ .nil a0) ad)))))))),aK (σ':=[some _]) rfl ?_⟩
  walk_at "l2"
  refine dB hp rfl ?_
  walk_at "l2"
  refine ⟨p,N,od,rfl,na,fun D1 H1 f1 s1 e1=>?_⟩
  walk_at "l2"
  refine dB (s1.get hp) rfl ?_
  walk_at "l2"
  refine ⟨p,N,od,rfl,na.same s1,fun D2 H2 rs2 f2 s2 e2 rk es=>?_⟩
  have s02:=s1.trans s2
  walk_at "l2"
  refine dB (s02.get hp) rfl ?_
  walk_at "l2"
  refine ⟨p,N,od,rfl,na.same s02,fun D3 H3 qs3 f3 s3 e3 qk et=>?_⟩
  have s03:=s02.trans s3
  walk_at "l2"
  refine dB (s03.get hp) rfl ?_
  walk_at "l2"
  refine ⟨p,N,od,rfl,na.same s03,fun D4 H4 f4 s4 e4=>?_⟩
  walk_at "l2"
  intro t5 H5 f5 s5 e5
  have s45:=s4.trans s5
  have s35:=s3.trans s45
  exact q t5 D1 D2 D3 D4 H5 rs2 qs3 f1 (s1.free f2) (s02.free f3) (s03.free f4) (s03.free (s4.free f5)) (s03.trans s45) ⟨e5,s35.get (s2.get e1),s35.get e2,rk.same s35,es,s45.get e3,fun q' m=>s45.get (qk q' m),et,s5.get e4⟩
end
section
variable {P:Program} {w:World} {K:PySem.W.Frag} {mg:Str→Option Value} {base:Heap} {a:Ad}
local macro_rules | `(tactic| walk_at "l2step") =>`(tactic| first | ((with_reducible refine' c_whole ?e ?_);(case e=>walk_at "l2kind")) | ((with_reducible refine' c_mask ?e ?_);(case e=>walk_at "l2kind")) | (with_reducible refine cM ?_) | (with_reducible refine eV ?_))
theorem lB (T:Tx K mg a):FnOk P w K mg base CX0 7 a.aR a.dX ["_law_net_here","_law_ins","_law_sums","_law_stores"] (Ee (NAof a)):=by
 have dL:=@jZ P w K mg base a T
 refine T.cW.ok az (fun vs H Q E h=>?_) (fun cdv A outer s H vs Q E hr h=>?_)
 ·obtain ⟨p,i,s,u,o,N,od,rs,qs,rfl,_⟩:=h;rfl
 ·obtain ⟨p,i,s,u,o,N,od,rs,qs,rfl,na,hn,g,q⟩:=h
  have hu1:=kl hr
  obtain ⟨_,_,_,_,_,_,_,_,_,_,hp,_⟩:=na.ho
  refine ⟨_,((ah (eP PassesOwn.never rfl (lc (K:=K) rfl (by rfl) T.ge (pv 1)) (n0 rfl (bj (av (i:=4) az.nd rfl (by walk_at "o")) (bj (av (i:=5) az.nd rfl (by walk_at "o")) fZ))) (ah (bf (i:=6) az.nd rfl (by walk_at "o") (pL (pv 0) T.cB T.fz dL (hr.mono (by decide)) T.cV .nil thr0 (aa (pv 5) ad)))
   (ak (c8 (PW.pt (sg (gz (dw (aB (nE (K:=K) rfl) (by rfl) T.b0 PyProof.Rows.boot_isinstance (aa (pv 6) (aa (eW (v:= .ref a.al) (by rfl) T.Bj rfl) ad))))) (nZ (bw (io (K:=K) rfl hu1) (dP (aa (bH (K:=K) rfl (pv 6) rfl) (aa (bH (K:=K) rfl (pv 6) rfl) ad))) (dP (aa (pv 5) (aa (pv 4) ad))) (bV _))))) (ak (aZ i5)) aW))))
   (ah (eP PassesOwn.never rfl (bx (K:=K) rfl (pv 2)) (n0 rfl (bj (av (i:=5) az.nd rfl (by walk_at "o")) (bj (av (i:=7) az.nd rfl (by walk_at "o")) fZ))) (ah (bf (i:=6) az.nd rfl (by walk_at "o") (pL (pv 0) T.cB T.fz dL (hr.mono (by decide)) T.cV .nil thr0 (aa (pv 5) ad)))
   (ak (c8 (PW.pt (sg (gz (dw (aB (nE (K:=K) rfl) (by rfl) T.b0 PyProof.Rows.boot_isinstance (aa (pv 6) (aa (eW (v:= .ref a.ai) (by rfl) T.yr rfl) ad))))) (nZ (bw (io (K:=K) rfl hu1) (dP (aa (bH (K:=K) rfl (pv 6) rfl) (aa (bH (K:=K) rfl (pv 6) rfl) ad))) (dP (aa (pv 5) (aa (aw (b8 (K:=K) rfl) (by rfl) T.ff PyProof.Rows.boot_tuple (aa (pv 7) ad)) ad))) (bV _))))) (ak (aZ i5)) aW))))
   (ah (eP PassesOwn.never rfl (lc (K:=K) rfl (by rfl) T.ge (pv 3)) (n0 rfl (bj (av (i:=4) az.nd rfl (by walk_at "o")) (bj (n0 rfl (bj (av (i:=5) az.nd rfl (by walk_at "o")) (bj (av (i:=8) az.nd rfl (by walk_at "o")) fZ))) fZ))) (ah (bf (i:=6) az.nd rfl (by walk_at "o") (pL (pv 0) T.cB T.fz dL (hr.mono (by decide)) T.cV .nil thr0 (aa (pv 5) ad)))
   (ak (c8 (PW.pt (sg (gz (dw (aB (nE (K:=K) rfl) (by rfl) T.b0 PyProof.Rows.boot_isinstance (aa (pv 6) (aa (eW (v:= .ref a.ae) (by rfl) T.qZ rfl) ad))))) (nZ (bw (io (K:=K) rfl hu1) (dP (aa (bH (K:=K) rfl (pv 6) rfl) (aa (bH (K:=K) rfl (pv 6) rfl) (aa (bH (K:=K) rfl (pv 6) rfl) ad)))) (dP (aa (pv 5) (aa (pv 8) (aa (pv 4) ad)))) (bV _))))) (ak (aZ i5)) aW))))
   (ak (aZ i5)))))),aK (σ':=[some _,some _,some _,some _,none,none,none,none,none]) rfl ?_⟩
  walk_at "l2"
  refine .inl ⟨⟨_,SqL.of hn.i⟩,?_⟩
  refine wa (xs:=N.ins.map V.str) (fun j σ H'=>∃ v4 v5 v6,σ=[some (.ref p),some (.ref i),some (.ref s),some (.ref u),v4,v5,v6,none,none]∧Same H H') ⟨none,none,none,rfl,Same.refl _⟩ (fun j σ H' _ ⟨_,_,_,_,s'⟩=>SqL.of (s'.get hn.i)) ?_ ?_
  ·rintro j y σ H' tq H3 hy ⟨v4,v5,v6,rfl,s'⟩ fq sq eq
   obtain ⟨z,hz',rfl⟩:=aX hy
   have hz:z∈N.names:=by unfold Nt.names;exact List.mem_append_left _ (List.mem_append_left _ (List.mem_of_getElem? hz'))
   have s3:=s'.trans sq
   walk_at "l2"
   refine kX (s3.get hp) rfl ?_
   walk_at "l2"
   refine ⟨p,N,od,.str z,"str",rfl,na.same s3,.sc (.str z (by have:=(g.nm z hz).len;omega)),fun z' _ ev w Hw sw wb=>?_,fun bad=>absurd rfl (bad z hz)⟩
   cases ev
   obtain ⟨dx,ew⟩:=KW g hz' wb
   walk_at "l2"
   refine Eu ew T.Im T.gm ?_
   walk_at "l2"
   refine bC ew T.my T.iw rfl ?_
   walk_at "l2"
   refine bC ew T.my T.ju rfl ?_
   walk_at "l2"
   intro t1 H5 f5 s5 e5
   walk_at "l2"
   intro t2 H6 f6 s6 e6
   refine se (pK (s6.get e5) (.str z) (.int _)) (pK e6 (.str z) (.int _)) (by simp [depD,cU]) ?_
   refine ⟨false,by rw [iA];rfl,?_⟩
   rw [if_neg (by decide)]
   walk_at "l2"
   exact ⟨_,_,_,rfl,s3.trans (sw.trans (s5.trans s6))⟩
  ·rintro σ H1 ⟨v4,v5,v6,rfl,s1⟩
   have hs1:=s1.get hn.s
   walk_at "l2"
   refine iy (xs:=rs.map fun r=>V.ref r.1) (fun j σ H'=>∃ v5 v6 v7,σ=[some (.ref p),some (.ref i),some (.ref s),some (.ref u),v4,v5,v6,v7,none]∧Same H H') ⟨v5,v6,none,rfl,s1⟩ (fun j σ H' _ ⟨_,_,_,_,s'⟩=>SqL.of (s'.get hn.s)) ?_ ?_
   ·rintro j y σ H' hy ⟨v5,v6,v7,rfl,s'⟩
    obtain ⟨r,hr',rfl⟩:=aX hy
    have hm:=List.mem_of_getElem? hr'
    have er:=s'.get (hn.sr r hm).1
    have ew:=s'.get (hn.sr r hm).2
    have hsum:r.2.2∈N.sums:=by rw [← hn.es];exact List.mem_map.mpr ⟨r,hm,rfl⟩
    have hz:r.2.2.1∈N.names:=by unfold Nt.names;exact List.mem_append_left _ (List.mem_append_right _ (List.mem_map.mpr ⟨_,hsum,rfl⟩))
    walk_at "l2"
    refine kX (s'.get hp) rfl ?_
    walk_at "l2"
    refine ⟨p,N,od,.str r.2.2.1,"str",rfl,na.same s',.sc (.str _ (by have:=(g.nm _ hz).len;omega)),fun z' _ ev w Hw sw wb=>?_,fun bad=>absurd rfl (bad _ hz)⟩
    cases ev
    obtain ⟨dx,tw,ew',etw⟩:=Ji g hsum wb
    have eww:=sw.get ew
    walk_at "l2"
    refine Eu ew' T.Ge T.dW ?_
    walk_at "l2"
    refine bC ew' T.jK T.gU rfl ?_
    walk_at "l2"
    refine bC ew' T.jK T.jr rfl ?_
    walk_at "l2"
    intro t1 H5 f5 s5 e5
    have eww5:=s5.get eww
    walk_at "l2"
    intro t2 H6 f6 s6 e6
    walk_at "l2"
    intro t3 H7 f7 s7 e7
    refine se (pK (s7.get (s6.get e5)) (.str _) (uY (s7.get (s6.get (s5.get etw))))) (pK e7 (.str _) (uY (s7.get e6))) (by simp [depD,cU,fG]) ?_
    refine ⟨false,by rw [Bm rfl];rfl,?_⟩
    rw [if_neg (by decide)]
    walk_at "l2"
    exact ⟨_,_,_,rfl,s'.trans (sw.trans (s5.trans (s6.trans s7)))⟩
   ·rintro σ H2 ⟨v5,v6,v7,rfl,s2⟩
    have hu2:=s2.get hn.t
    walk_at "l2"
    refine .inl ⟨⟨_,SqL.of hu2⟩,?_⟩
    refine wa (xs:=qs.map fun r=>V.ref r.1) (fun j σ H'=>∃ v4 v5 v6 v8,σ=[some (.ref p),some (.ref i),some (.ref s),some (.ref u),v4,v5,v6,v7,v8]∧Same H H') ⟨v4,v5,v6,none,rfl,s2⟩ (fun j σ H' _ ⟨_,_,_,_,_,s'⟩=>SqL.of (s'.get hn.t)) ?_ ?_
    ·rintro j y σ H' tq H3 hy ⟨v4,v5,v6,v8,rfl,s'⟩ fq sq eq
     obtain ⟨r,hr',rfl⟩:=aX hy
     have hm:=List.mem_of_getElem? hr'
     have s3:=s'.trans sq
     have er:=s3.get (hn.tr r hm)
     have hst:N.sts[j]? =some (r.2.1,r.2.2):=by rw [← hn.et,List.getElem?_map,hr'];rfl
     have hz:r.2.1∈N.names:=by unfold Nt.names;exact List.mem_append_right _ (List.mem_map.mpr ⟨_,List.mem_of_getElem? hst,rfl⟩)
     walk_at "l2"
     refine kX (s3.get hp) rfl ?_
     walk_at "l2"
     refine ⟨p,N,od,.str r.2.1,"str",rfl,na.same s3,.sc (.str _ (by have:=(g.nm _ hz).len;omega)),fun z' _ ev w Hw sw wb=>?_,fun bad=>absurd rfl (bad _ hz)⟩
     cases ev
     obtain ⟨dx,ew⟩:=KU g hst wb
     walk_at "l2"
     refine Eu ew T.AN T.cI ?_
     walk_at "l2"
     refine bC ew T.dr T.fg rfl ?_
     walk_at "l2"
     refine bC ew T.dr T.iU rfl ?_
     walk_at "l2"
     refine bC ew T.dr T.gB rfl ?_
     walk_at "l2"
     intro t1 H5 f5 s5 e5
     walk_at "l2"
     intro t2 H6 f6 s6 e6
     refine se (xn (s6.get e5) (.str _) (.str _) (.int _)) (xn e6 (.str _) (.str _) (.int _)) (by simp [depD,cU]) ?_
     refine ⟨false,by rw [Bm rfl];rfl,?_⟩
     rw [if_neg (by decide)]
     walk_at "l2"
     exact ⟨_,_,_,_,rfl,s3.trans (sw.trans (s5.trans s6))⟩
    ·rintro σ H3 ⟨v4,v5,v6,v8,rfl,s3⟩
     walk_at "l2"
     exact q H3 s3
end
section
variable {P:Program} {w:World} {K:PySem.W.Frag} {mg:Str→Option Value} {base:Heap} {a:Ad}
theorem og (T:Tx K mg a):FnOk P w K mg base CX0 1 a.cw a.kG ["_law_script","_law_k"] (AU K):=by
 refine T.iP.ok xj (fun vs H Q E h=>?_) (fun cdv A outer s H vs Q E hr h=>?_)
 ·obtain ⟨a,ns,k,rfl,_⟩:=h;rfl
 ·obtain ⟨p,ns,k,rfl,hS,h0,q⟩:=h
  refine ⟨_,((ah (c8 (bw JR (pv 1) (aB (bu (K:=K) rfl) (by rfl) T.iu PySem.boot_len (aa (pv 0) ad)) (bV _)) (ak (aZ (cj (b9 (K:=K) rfl) (pv 0) (pv 1) (fun _ _=>rfl)))) aW)
   (ak (aZ (aC cx (aC oa am (pv 1)) am))))),aK (σ':=[some _,some _]) rfl ?_⟩
  walk_at "l2"
  rw [List.length_map]
  unfold cell at q
  refine ite2 (fun hc=>?_) (fun hc=>?_)
  ·have hc:=of_decide_eq_true hc
   have ha:atI (ns.map V.int) k=some (.int (ns.getD k.toNat 0)):=by
    obtain ⟨j,rfl⟩:=Int.eq_ofNat_of_zero_le h0
    have hj:j < ns.length:=by omega
    exact g7 (by rw [List.getElem?_map,List.getElem?_eq_getElem hj,List.getD_eq_getElem?_getD,Int.toNat_natCast,List.getElem?_eq_getElem hj];rfl)
   rw [if_pos hc] at q
   walk_at "l2"
   exact q
  ·have hc:¬ k < ns.length:=fun z=>hc (decide_eq_true z)
   rw [if_neg hc] at q
   walk_at "l2"
   exact q
theorem F0 {H:Hp} {Q:VK} {E:XK} {c k:Int} (h0:0≤k) (h1:k < 100000) (q:Q (.int (mixV c k)) H):Ec [.int c,.int k] H Q E:=⟨c,k,rfl,h0,h1,q⟩
local macro_rules | `(tactic| walk_at "l2step") =>`(tactic| first | ((with_reducible refine' F0 ?a ?b ?_);(case a=>walk_at "l2side");(case b=>walk_at "l2side")) | ((with_reducible refine' wx ?e ?a ?_);(case e=>walk_at "l2hp");(case a=>walk_at "l2side")))
theorem ip (T:Tx K mg a):FnOk P w K mg base CX0 1 a.cT a.nu ["_law_cell_here","_law_k"] Ec:=by
 refine T.jN.ok kh (fun vs H Q E h=>?_) (fun cdv A outer s H vs Q E hr h=>?_)
 ·obtain ⟨c,k,rfl,_⟩:=h;rfl
 ·obtain ⟨c,k,rfl,h0,h1,q⟩:=h
  refine ⟨_,((ah (bf (i:=2) kh.nd rfl (by walk_at "o") (aC cf (aC cx (aC cx (aC oa (aC cf (pv 0) am) am) (aC oa am (pv 1))) am) am))
   (ah (bf (i:=2) kh.nd rfl (by walk_at "o") (aC cf (aC oa (pv 2) (pv 2)) am))
   (ak (aZ (aC cf (aC oa (pv 2) (aC cx (aC cx (pv 2) (aC oa am (pv 1))) am)) am)))))),aK (σ':=[some _,some _,none]) rfl ?_⟩
  walk_at "l2"
  exact q
theorem xH (T:Tx K mg a):FnOk P w K mg base CX0 2 a.b7 a.iF ["_law_cell_here","_law_k"] uq:=by
 have aL:=@ip P w K mg base a T
 refine T.gy.ok ck (fun vs H Q E h=>?_) (fun cdv A outer s H vs Q E hr h=>?_)
 ·obtain ⟨c,k,rfl,_⟩:=h;rfl
 ·obtain ⟨c,k,rfl,h0,h1,q⟩:=h
  have hk:decide (k < 40)=true:=decide_eq_true h1
  refine ⟨_,((ah (bf (i:=2) ck.nd rfl (by walk_at "o") fo)
   (ah (bf (i:=3) ck.nd rfl (by walk_at "o") fo)
   (ah (bf (i:=3) ck.nd rfl (by walk_at "o") (aC dy (pv 3) fo))
   (ah (c8 (PW.pt (EL (bw JR (pv 1) am (bV _)) (zr (bw xF (aC cf (ay aL (hr.mono (by decide)) (by rfl) T.bh T.bg T.aU .nil a0 (aa (pv 0) (aa am ad))) am) am (bV _))))) (ak (aZ (cj (b9 (K:=K) rfl) (jh (K:=K) rfl PySem.F.plainAttrs_str PySem.F.slot_str_split PySem.F.type_str_split Bc (pv 3) (aa fo ad)) (aC cf (aC cx (pv 1) (ay aL (hr.mono (by decide)) (by rfl) T.bh T.bg T.aU .nil a0 (aa (pv 0) (aa am ad)))) am) (fun _ _=>rfl)))) aW)
   (ak (aZ (aC dy (cj Fw (pv 2) (aC cf (ay aL (hr.mono (by decide)) (by rfl) T.bh T.bg T.aU .nil a0 (aa (pv 0) (aa am ad))) am) (fun _ _=>rfl)) (aw gL (by rfl) T.E6 PyProof.Rows.boot_str (aa (aC cx (aC cf (ay aL (hr.mono (by decide)) (by rfl) T.bh T.bg T.aU .nil a0 (aa (pv 0) (aa am ad))) am) (aC oa am (pv 1))) ad)))))))))),aK (σ':=[some _,some _,none,none]) rfl ?_⟩
  walk_at "l2"
  refine ⟨by decide +kernel,?_⟩
  walk_at "l2"
  generalize hw:((_:Str)++_)=words
  have hw:words=zi:=hw.symm
  by_cases h2:mixV c 402 % 2=0
  ·refine xl (decide_eq_true (by rw [h2])) ?_
   walk_at "l2"
   refine Js (by decide +kernel) (by rw [hw];decide +kernel) fun D H2 f2 s2 e2=>?_
   have hm:=Int.emod_lt_of_pos (k + mixV c 403) (show (0:Int) < 40 by decide)
   have hm':=Int.emod_nonneg (k + mixV c 403) (show (40:Int)≠0 by decide)
   rw [hw] at e2
   have hat:atI (W40.map V.str) ((k + mixV c 403) % 40)=some (.str (nmf c k)):=by
    obtain ⟨j,hj⟩:=Int.eq_ofNat_of_zero_le hm'
    have lj:j < W40.length:=by rw [rQ];omega
    unfold nmf
    rw [if_pos h2,hj]
    refine g7 ?_
    rw [List.getElem?_map,List.getD_eq_getElem?_getD,Int.toNat_natCast,List.getElem?_eq_getElem lj];rfl
   have e2:H2 D=some (.lst (W40.map V.str)):=e2
   walk_at "l2"
   exact q H2 s2
  ·refine kZ (decide_eq_false fun z=>h2 (V.int.inj z)) ?_
   have hm:=Int.emod_lt_of_pos (mixV c 400) (show (0:Int) < 26 by decide)
   have hm':=Int.emod_nonneg (mixV c 400) (show (26:Int)≠0 by decide)
   have hr1:=Int.emod_lt_of_pos (mixV c 401) (show (0:Int) < 1000 by decide)
   have hr0:=Int.emod_nonneg (mixV c 401) (show (1000:Int)≠0 by decide)
   walk_at "l2"
   refine Jw (by decide +kernel) (uC _ hm' hm) ?_
   walk_at "l2"
   have hn:(mixV c 401 % 1000 + 37 * k).natAbs < 10 ^ 4:=by omega
   have hlog:(mixV c 401 % 1000 + 37 * k).natAbs.log2 < 1920:=by
    rcases Nat.eq_zero_or_pos (mixV c 401 % 1000 + 37 * k).natAbs with z | z
    ·rw [z];decide
    ·exact (Nat.log2_lt (by omega)).mpr (Nat.lt_of_lt_of_le hn (Nat.le_trans (by decide:10 ^ 4≤2 ^ 14) (Nat.pow_le_pow_right (by decide) (by decide))))
   have hlen:=PyProof.Rows.int_text_len_1921 hlog
   refine ⟨hlog,?_⟩
   walk_at "l2"
   refine ⟨by rw [sizeLine_eq];have:(⟨#[97 + (mixV c 400 % 26).toNat]⟩:Str).length=1:=rfl
              omega,?_⟩
   have e:(mixV c 401 % 1000 + 37 * k)=(((mixV c 401 % 1000).toNat + 37 * k.toNat:Nat):Int):=by omega
   have q':=q H (Same.refl _)
   unfold nmf at q'
   rw [if_neg h2] at q'
   rw [e]
   exact q'
end
section
variable {P:Program} {w:World} {K:PySem.W.Frag} {mg:Str→Option Value} {base:Heap} {a:Ad}
local macro_rules | `(tactic| walk_at "l2step") =>`(tactic| first | ((with_reducible refine' c_whole ?e ?_);(case e=>walk_at "l2kind")) | ((with_reducible refine' c_mask ?e ?_);(case e=>walk_at "l2kind")) | (with_reducible refine cM ?_) | (with_reducible refine eV ?_))
theorem lC (T:Tx K mg a):FnOk P w K mg base CX0 1 a.aS a.dY ["_law_order","_law_sums"] Ef:=by
 refine T.cX.ok bZ (fun vs H Q E h=>?_) (fun cdv A outer s H vs Q E hr h=>?_)
 ·obtain ⟨D,i,s,u,o,N,od,rs,qs,rfl,_⟩:=h;rfl
 ·obtain ⟨D,i,s,u,o,N,od,rs,qs,rfl,hD,hn,g,tp,q⟩:=h
  have hu1:=kl hr
  have hs:=hn.s
  refine ⟨_,((ah (ko (osc:=af bA) (ON:=["_law_order","_law_sums","_law_names","_law_name_here","_law_wires_here","_law_wire"]) (N:=["_law_name_here","_law_wires_here"]) (n:=2) (fx:=[]) (i:=2) bZ.nd rfl rfl rfl rfl rfl rfl (by decide +kernel) (bx (K:=K) rfl (pv 1)) (Bh (gF (bo (by decide)) (gF (bo (by decide)) vU))) (fun _ _ _ _ _=>⟨(vb (K:=K) (n:=2) rfl rfl (bj (av (i:=0) (show List.Nodup (["_law_name_here","_law_wires_here"]:List Str) from by decide +kernel) rfl (by walk_at "o")) (bj (av (i:=1) (show List.Nodup (["_law_name_here","_law_wires_here"]:List Str) from by decide +kernel) rfl (by walk_at "o")) fZ))),bQ,(pv 0)⟩))
   (ah (c8 (PW.pt (sg (gz (dw (aB (ii (K:=K) rfl) (by rfl) T.b0 PyProof.Rows.boot_isinstance (aa (pv 0) (aa (mJ (v:= .ty "list") (by rfl) T.df PyProof.Rows.boot_list rfl) ad))))) (nZ (bw (io (K:=K) rfl hu1) (aB uL (by rfl) T.A8 PyProof.Rows.boot_sorted (aa (pv 0) ad)) (aB uL (by rfl) T.A8 PyProof.Rows.boot_sorted (aa (pv 2) ad)) (bV _))))) (ak (aZ i5)) aW)
   (ah (eP PassesOwn.never rfl (bx (K:=K) rfl (pv 1)) (n0 rfl (bj (av (i:=3) bZ.nd rfl (by walk_at "o")) (bj (av (i:=4) bZ.nd rfl (by walk_at "o")) fZ))) (ak (eP PassesOwn.never rfl (bx (K:=K) rfl (pv 4)) (av (i:=5) bZ.nd rfl (by walk_at "o")) (ak (c8 (PW.pt (EL (bw (Mf (K:=K) rfl) (pv 5) (pv 2) (by rfl)) (zr (bw NF (jh (K:=K) rfl PySem.F.plainAttrs_list PySem.F.slot_list_index PySem.F.type_list_index x4 (pv 0) (aa (pv 5) ad)) (jh (K:=K) rfl PySem.F.plainAttrs_list PySem.F.slot_list_index PySem.F.type_list_index x4 (pv 0) (aa (pv 3) ad)) (bV _))))) (ak (aZ i5)) aW)))))
   (ak (aZ i5)))))),aK (σ':=[some _,some _,none,none,none,none]) rfl ?_⟩
  walk_at "l2"
  intro Dn hDn
  have ls:=g.ls
  have lrs:rs.length=N.sums.length:=by rw [← hn.es,List.length_map]
  refine bT (xs:=rs.map fun r=>V.ref r.1) (fun i ys H'=>Cs (fun i ys=>ys=((rs.take i).map (·.2.2.1)).map V.str) H Dn i ys H') (Cs.zero hDn rfl) (fun i ys H' _ c=>SqL.of (c.same.get hs)) (fun i x ys H' hx c=>?_) (fun ys H1 c=>?_)
  ·obtain ⟨r,hr',rfl⟩:=aX hx
   have hlt:=(List.getElem?_eq_some_iff.mp hr').1
   have er:=c.same.get (hn.sr r (List.mem_of_getElem? hr')).1
   walk_at "l2"
   refine Cs.put hDn c.same c.at' c.len (by omega) ?_
   rw [c.pv,take_succ hr',List.map_append,List.map_append];rfl
  ·have e1:=c.at'
   have en:rs.map (·.2.2.1)=N.sums.map (·.1):=by rw [← hn.es,List.map_map];rfl
   rw [c.pv,List.length_map,List.take_length,en] at e1
   have s1:=c.same
   clear c
   have hD1:=s1.get hD
   have hs1:=s1.get hs
   have lnm:(N.sums.map (·.1)).length≤40:=by rw [List.length_map];exact ls
   have lod:od.length≤40:=by rw [tp.perm.length_eq];exact lnm
   walk_at "l2"
   refine Et hD1 (by omega) fun D2 ss H2 f2 s2 e2 p2 w2=>?_
   have e12:=s2.get e1
   walk_at "l2"
   refine Et e12 (by omega) fun D3 ss' H3 f3 s3 e3 p3 w3=>?_
   have hse:ss=ss':=ur ((p2.trans tp.perm).trans p3.symm) (w6 w2) (w6 w3)
   subst hse
   refine se (d8 (s3.get e2)) (d8 e3) (by unfold depD;rw [fG];decide) ?_
   rw [iA]
   have s03:=s1.trans (s2.trans s3)
   have e13:=s3.get e12
   have hs3:=s03.get hs
   have hD3:=s03.get hD
   walk_at "l2"
   refine iy (xs:=rs.map fun r=>V.ref r.1) (fun j σ H'=>∃ v3 v4 v5,σ=[some (.ref D),some (.ref s),some (.ref Dn),v3,v4,v5]∧Same H3 H') ⟨none,none,none,rfl,Same.refl _⟩ (fun j σ H' _ ⟨_,_,_,_,s'⟩=>SqL.of (s'.get hs3)) ?_ ?_
   ·rintro j y σ H' hy ⟨v3,v4,v5,rfl,s'⟩
    obtain ⟨r,hr',rfl⟩:=aX hy
    have hm:=List.mem_of_getElem? hr'
    have s0:=s03.trans s'
    have er:=s0.get (hn.sr r hm).1
    have ew:=s0.get (hn.sr r hm).2
    have hsum:r.2.2∈N.sums:=by rw [← hn.es];exact List.mem_map.mpr ⟨r,hm,rfl⟩
    have hzo:r.2.2.1∈od:=tp.perm.mem_iff.mpr (List.mem_map.mpr ⟨_,hsum,rfl⟩)
    obtain ⟨j2,hj2,hf2⟩:=re hzo
    walk_at "l2"
    refine iy (xs:=r.2.2.2.map V.str) (fun j σ H''=>∃ v5,σ=[some (.ref D),some (.ref s),some (.ref Dn),some (.str r.2.2.1),some (.ref r.2.1),v5]∧Same H' H'') ⟨v5,rfl,Same.refl _⟩ (fun j σ H'' _ ⟨_,_,s''⟩=>SqL.of (s''.get ew)) ?_ ?_
    ·rintro j' y' σ H'' hy' ⟨v5,rfl,s''⟩
     obtain ⟨z,hz',rfl⟩:=aX hy'
     have hzw:=List.mem_of_getElem? hz'
     have en:=(s'.trans s'').get e13
     have eo:=(s'.trans s'').get hD3
     walk_at "l2"
     refine ⟨Dn,_,rfl,.inl (SqL.of en),rfl,by rw [List.all_eq_true];intro x hx;obtain ⟨y,_,rfl⟩:=List.mem_map.mp hx;rfl,?_⟩
     refine ⟨_,rfl,?_⟩
     by_cases hin:z∈N.sums.map (·.1)
     ·have hib:(if false=true then !inV (V.str z) ((N.sums.map (·.1)).map V.str) else inV (V.str z) ((N.sums.map (·.1)).map V.str))=true:=FA.mpr hin
      rw [if_pos hib]
      have hzo':z∈od:=tp.perm.mem_iff.mpr hin
      obtain ⟨j1,hj1,hf1⟩:=re hzo'
      have hlt:=zj tp (show (r.2.2.1,r.2.2.2)∈N.sums from hsum) hzw hin hj2 hf1
      walk_at "l2"
      refine AX eo hj1 hf1 ?_
      walk_at "l2"
      refine AX eo hj2 hf2 ?_
      walk_at "l2"
      rw [if_neg (by rw [decide_eq_true_iff];omega)]
      walk_at "l2"
      exact s''
     ·have hib:(if false=true then !inV (V.str z) ((N.sums.map (·.1)).map V.str) else inV (V.str z) ((N.sums.map (·.1)).map V.str))=false:=by
       rw [← Bool.not_eq_true];exact fun h=>hin (FA.mp h)
      rw [if_neg (by rw [hib];decide)]
      walk_at "l2"
      exact s''
    ·rintro σ H'' ⟨v5,rfl,s''⟩
     walk_at "l2"
     exact ⟨_,_,_,rfl,s'.trans s''⟩
   ·rintro σ H' ⟨v3,v4,v5,rfl,s'⟩
    walk_at "l2"
    exact q H' (s03.trans s')
end
section
variable {P:Program} {w:World} {K:PySem.W.Frag} {mg:Str→Option Value} {base:Heap} {a:Ad}
local macro_rules | `(tactic| walk_at "l2step") =>`(tactic| first | ((with_reducible refine' c_whole ?e ?_);(case e=>walk_at "l2kind")) | ((with_reducible refine' c_mask ?e ?_);(case e=>walk_at "l2kind")) | (with_reducible refine cM ?_) | (with_reducible refine eV ?_))
noncomputable def GJ:Sp:=fun vs H Q _=>∃ (i s u o:Addr) (rs:List Rw) (qs:List Qs) (N:Nt),vs=[.ref i,.ref s,.ref u,.ref o]∧Hnd H i s u o rs qs N∧Gn N∧∀ (t D1 D2 D3 D4:Addr) (H2:Hp) (rs:List Rw) (qs:List Qs),Same H H2→TldA H2 t D1 D2 D3 D4 rs qs N→Q (.ref t) H2
theorem xG (T:Tx K mg a):FnOk P w K mg base CX0 1 a.cu a.kE ["_law_ins","_law_sums","_law_stores","_law_outs"] GJ:=by
 refine T.iN.ok xi (fun vs H Q E h=>?_) (fun cdv A outer s H vs Q E hr h=>?_)
 ·obtain ⟨i,s,u,o,rs,qs,N,rfl,_⟩:=h;rfl
 ·obtain ⟨i,s,u,o,rs,qs,N,rfl,hn,g,q⟩:=h
  have li:=g.li
  have ls:=g.ls
  have lt:=g.lt
  have lo:=g.lo
  have hi:=hn.i
  have hs:=hn.s
  have hu:=hn.t
  have ho:=hn.o
  refine ⟨_,((ak (aZ (dP (aa (aw (bi (K:=K) rfl) (by rfl) T.df PyProof.Rows.boot_list (aa (pv 0) ad)) (aa (cr (osc:=af dm) (ON:=["_law_ins","_law_sums","_law_stores","_law_outs"]) (N:=["_law_name_here","_law_wires_here"]) (n:=2) (fx:=[]) rfl rfl rfl (by decide +kernel) (bx (K:=K) rfl (pv 1)) (Bh (gF (bo (by decide)) (gF (bo (by decide)) vU))) (fun _ _ _ _ _=>⟨(vb (K:=K) (n:=2) rfl rfl (bj (av (i:=0) (show List.Nodup (["_law_name_here","_law_wires_here"]:List Str) from by decide +kernel) rfl (by walk_at "o")) (bj (av (i:=1) (show List.Nodup (["_law_name_here","_law_wires_here"]:List Str) from by decide +kernel) rfl (by walk_at "o")) fZ))),bQ,(dP (aa (pv 0) (aa (aw (b8 (K:=K) rfl) (by rfl) T.ff PyProof.Rows.boot_tuple (aa (pv 1) ad)) ad)))⟩)) (aa (aw (bi (K:=K) rfl) (by rfl) T.df PyProof.Rows.boot_list (aa (pv 2) ad)) (aa (aw (bi (K:=K) rfl) (by rfl) T.df PyProof.Rows.boot_list (aa (pv 3) ad)) ad)))))))),aK (σ':=[some _,some _,some _,some _]) rfl ?_⟩
  walk_at "l2"
  intro D1 H1 f1 s1 e1
  have hn1:=hn.same s1
  have hs1:=hn1.s
  walk_at "l2"
  intro D2 hD2
  refine bT (xs:=rs.map fun r=>V.ref r.1) (fun i ys H'=>∃ rs':List Rw,ys=rs'.map (fun r=>V.ref r.1)∧rs'.map (·.2.2)=(rs.take i).map (·.2.2)∧RwK H' rs'∧Same H1 H'∧H' D2=some (.lst ys)) ⟨[],rfl,rfl,fun _ h=>absurd h (by simp),bF hD2,au⟩ (fun i ys H' _ ⟨_,_,_,_,s',_⟩=>SqL.of (s'.get hs1)) ?_ ?_
  ·rintro j y ys H' hy ⟨rs',rfl,hrs,hk,s',eD⟩
   obtain ⟨r,hr',rfl⟩:=aX hy
   have hlt:=(List.getElem?_eq_some_iff.mp hr').1
   have hm:=List.mem_of_getElem? hr'
   have er:=s'.get (hn1.sr r hm).1
   have ew:=s'.get (hn1.sr r hm).2
   have hlen:rs'.length=j:=by have:=congrArg List.length hrs;rw [List.length_map,List.length_map,List.length_take] at this;omega
   walk_at "l2"
   intro tw H11 f11 s11 e11
   walk_at "l2"
   intro tr H12 f12 s12 e12
   have ntr:tr≠D2:=fun z=>(by rw [z,s11.get eD] at f12;cases f12)
   have ntw:tw≠D2:=fun z=>(by rw [z,eD] at f11;cases f11)
   have eD12:=s12.get (s11.get eD)
   refine ⟨eD12,by rw [List.length_map];exact bz (by have:=congrArg List.length hn.es;rw [List.length_map] at this;omega),rs'++[(tr,tw,r.2.2)],by rw [List.map_append];rfl,by rw [List.map_append,hrs,take_succ hr',List.map_append];rfl,fun r2 h2=>?_,fun b ob e=>?_,au⟩
   ·rcases List.mem_append.mp h2 with h2 | h2
    ·exact ((hk.same s11).same s12).updL eD12 (fun b ob n e=>by rw [aq n];exact e) r2 h2
    ·rw [List.mem_singleton] at h2;subst h2
     exact ⟨by rw [aq ntr];exact e12,by rw [aq ntw];exact s12.get e11⟩
   ·rw [aq (aj e hD2)]
    exact s12.get (s11.get (s'.get e))
  ·rintro ys H2 ⟨rs',rfl,hrs,hk,s2,eD2⟩
   rw [List.length_map,List.take_length,hn.es] at hrs
   have hu2:=s2.get hn1.t
   have ho2:=s2.get hn1.o
   walk_at "l2"
   intro D3 H3 f3 s3 e3
   have ho3:=s3.get ho2
   walk_at "l2"
   intro D4 H4 f4 s4 e4
   walk_at "l2"
   intro t5 H5 f5 s5 e5
   have s45:=s4.trans s5
   have s35:=s3.trans s45
   exact q t5 D1 D2 D3 D4 H5 rs' qs (s1.trans (s2.trans s35)) ⟨e5,s35.get (s2.get e1),s35.get eD2,hk.same s35,hrs,s45.get e3,fun q' m=>s35.get (s2.get (hn1.tr q' m)),hn.et,s5.get e4⟩
end
section
variable {P:Program} {w:World} {K:PySem.W.Frag} {mg:Str→Option Value} {base:Heap} {a:Ad}
local macro_rules | `(tactic| walk_at "l2step") =>`(tactic| first | ((with_reducible refine' c_whole ?e ?_);(case e=>walk_at "l2kind")) | ((with_reducible refine' c_mask ?e ?_);(case e=>walk_at "l2kind")) | (with_reducible refine cM ?_) | (with_reducible refine eV ?_))
local macro_rules | `(tactic| walk_at "l2step") =>`(tactic| first | (with_reducible refine AW ?_) | (with_reducible refine s_tryH ?_) | (with_reducible refine Iw ?_) | (with_reducible refine Iv ?_) | (with_reducible refine Es ?_) | (with_reducible refine Le ?_))
theorem qg (T:Tx K mg a):FnOk P w K mg base CX0 8 a.bB a.gW ["_law_net_here","_law_thing"] (GL (NAof a)):=by
 have dL:=@jZ P w K mg base a T
 refine T.eg.ok dA (fun vs H Q E h=>?_) (fun cdv A outer s H vs Q E hr h=>?_)
 ·obtain ⟨p,N,od,v,k,rfl,_⟩:=h;rfl
 ·obtain ⟨p,N,od,v,k,rfl,na,th,hno,q⟩:=h
  have hu1:=kl hr
  obtain ⟨_,_,_,_,_,_,_,_,_,_,hp,_⟩:=na.ho
  refine ⟨_,((ah (bf (i:=2) dA.nd rfl (by walk_at "o") (eS ad))
   (ah (LW (i:=3) ⟨rfl,rfl⟩ thr0 T.HN (by rfl) T.Bi dA.nd rfl rfl (fun _ _=>(ak (bW (pL (pv 0) T.cB T.fz dL (hr.mono (by decide)) T.cV .nil uO (aa (pv 1) ad))))) (fun _ _=>(ak (bf (i:=2) dA.nd rfl (by walk_at "o") (eS (aa (JP (K:=K) rfl (pv 3) rfl) ad))))))
   (ak (aZ (p9 (JS (K:=K) rfl hu1) (pv 2) (eS (aa (pv 1) ad)) (bV _))))))),aK (σ':=[some _,some _,none,none]) rfl ?_⟩
  walk_at "l2"
  intro D1 H1 f1 s1 e1
  have na1:=na.same s1
  walk_at "l2"
  refine kX (s1.get hp) rfl ?_
  walk_at "l2"
  refine ⟨p,N,od,v,k,rfl,na1,th.same s1,fun z hz e=>absurd e (hno z hz),fun _ H2 dx tl=>?_⟩
  obtain ⟨v2,tl,cp⟩:=tl
  refine G0 T.fX fun x H3 f3 u3=>?_
  have ec:=Kq f3 tl.2 u3
  have s13:Same H1 H3:=fun b ob e=>u3.oth _ _ (aj (tl.1.get e) f3) (tl.1.get e)
  have sx:Same H1 H2:=tl.1
  have cp3:Cpy H1 H3 v v2:=by
   cases cp with
   | sc h=>exact .sc h
   | nil a1 a2=>exact .nil a1 (u3.oth _ _ (aj a2 f3) a2)
  walk_at "l2"
  refine GY ec T.Il T.qW T.lS rfl ?_
  walk_at "l2"
  intro D4 H4 f4 s4 e4
  walk_at "l2"
  refine Lr ?_
  walk_at "l2"
  intro D5 H5 f5 s5 e5
  obtain ⟨d,r1,r2,hd⟩:=cp3.rep (K:=K) s13
  have s35:=s4.trans s5
  refine se (AY (s5.get e4) (r2.same s35)) (AY e5 (r1.same s35)) (by rw [depD,cU,cU];omega) ?_
  rw [iA]
  exact q H5 (s1.trans (s13.trans s35))
end
section
variable {P:Program} {w:World} {K:PySem.W.Frag} {mg:Str→Option Value} {base:Heap} {a:Ad}
local macro_rules | `(tactic| walk_at "l2step") =>`(tactic| first | ((with_reducible refine' c_whole ?e ?_);(case e=>walk_at "l2kind")) | ((with_reducible refine' c_mask ?e ?_);(case e=>walk_at "l2kind")) | (with_reducible refine cM ?_) | (with_reducible refine eV ?_))
theorem xI (T:Tx K mg a):FnOk P w K mg base CX0 8 a.cv a.kF ["_law_net_here","_law_ins","_law_sums","_law_stores","_law_outs"] (GM (NAof a)):=by
 have AO:=@xG P w K mg base a T
 have nQ:=@lB P w K mg base a T
 have nR:=@lC P w K mg base a T
 have Dp:=@zB P w K mg base a T
 have g9:=@jl P w K mg base a T
 have g8:=@jk P w K mg base a T
 have fk:=@h9 P w K mg base a T
 have gx:=@iT P w K mg base a T
 have pF:=@mL P w K mg base a T
 have AQ:=@xJ P w K mg base a T
 refine T.iO.ok cD (fun vs H Q E h=>?_) (fun cdv A outer s H vs Q E hr h=>?_)
 ·obtain ⟨p,i,s,u,o,N,od,rs,qs,rfl,_⟩:=h;rfl
 ·obtain ⟨p,i,s,u,o,N,od,rs,qs,rfl,na,hn,g,q⟩:=h
  have hu1:=kl hr
  obtain ⟨_,_,_,_,_,_,_,_,_,_,hp,_⟩:=na.ho
  have li:=g.li
  have ls:=g.ls
  have lt:=g.lt
  have lo:=g.lo
  refine ⟨_,((ah (bf (i:=5) cD.nd rfl (by walk_at "o") (ay AO (hr.mono (by decide)) (by rfl) T.Ab T.z9 T.kK .nil a0 (aa (pv 1) (aa (pv 2) (aa (pv 3) (aa (pv 4) ad))))))
   (ah (bf (i:=6) cD.nd rfl (by walk_at "o") (dC (pv 0) T.cB T.Cp Dp (hr.mono (by decide)) T.nK .nil a0))
   (ah (c8 (PW.pt (sg (gz (dw (aB (ii (K:=K) rfl) (by rfl) T.b0 PyProof.Rows.boot_isinstance (aa (pv 6) (aa (mJ (v:= .ty "tuple") (by rfl) T.ff PyProof.Rows.boot_tuple rfl) ad))))) (sg (bw (io (K:=K) rfl hu1) (pv 6) (pv 5) (bV _)) (nZ (gz (dw (ay nQ (hr.mono (by decide)) (by rfl) T.ng T.nb T.d2 .nil a0 (aa (pv 0) (aa (pv 1) (aa (pv 2) (aa (pv 3) ad))))))))))) (ak (aZ i5)) aW)
   (ah (bf (i:=7) cD.nd rfl (by walk_at "o") (eS (aa (dC (pv 0) T.cB T.j4 g9 (hr.mono (by decide)) T.ee .nil a0) (aa (dC (pv 0) T.cB T.j3 g8 (hr.mono (by decide)) T.d9 .nil a0) (aa (dC (pv 0) T.cB T.iV fk (hr.mono (by decide)) T.di .nil a0) (aa (dC (pv 0) T.cB T.jw gx (hr.mono (by decide)) T.dJ .nil a0) ad))))))
   (ah (bf (i:=8) cD.nd rfl (by walk_at "o") (dC (pv 0) T.cB T.o6 pF (hr.mono (by decide)) T.fj .nil a0))
   (ah (bf (i:=9) cD.nd rfl (by walk_at "o") (dC (pv 0) T.cB T.zT AQ (hr.mono (by decide)) T.kL .nil a0))
   (ah (c8 (bw (io (K:=K) rfl hu1) (pv 7) (aw (bi (K:=K) rfl) (by rfl) T.df PyProof.Rows.boot_list (aa (pv 5) ad)) (bV _)) (ak (aZ i5)) aW)
   (ah (c8 (bw (io (K:=K) rfl hu1) (pv 8) (aC jY (aC jY (pv 1) (cr (osc:=af cF) (ON:=["_law_net_here","_law_ins","_law_sums","_law_stores","_law_outs","_law_due","_law_told_here","_law_found","_law_names","_law_order","_law_some"]) (N:=["_law_row"]) (n:=1) (fx:=[]) rfl rfl rfl (by decide +kernel) (bx (K:=K) rfl (pv 2)) (bo (by decide)) (fun _ _ _ _ _=>⟨(av (i:=0) (show List.Nodup (["_law_row"]:List Str) from by decide +kernel) rfl (by walk_at "o")),bQ,(cj (b6 (K:=K) rfl) (pv 0) am (fun _ _=>rfl))⟩))) (cr (osc:=af cF) (ON:=["_law_net_here","_law_ins","_law_sums","_law_stores","_law_outs","_law_due","_law_told_here","_law_found","_law_names","_law_order","_law_some"]) (N:=["_law_row"]) (n:=1) (fx:=[]) rfl rfl rfl (by decide +kernel) (bx (K:=K) rfl (pv 3)) (bo (by decide)) (fun _ _ _ _ _=>⟨(av (i:=0) (show List.Nodup (["_law_row"]:List Str) from by decide +kernel) rfl (by walk_at "o")),bQ,(cj (b6 (K:=K) rfl) (pv 0) am (fun _ _=>rfl))⟩))) (bV _)) (ak (aZ i5)) aW)
   (ah (c8 (gz (dw (ay nR (hr.mono (by decide)) (by rfl) T.nh T.nc T.d3 .nil a0 (aa (pv 9) (aa (pv 2) ad))))) (ak (aZ i5)) aW)
   (ah (eP PassesOwn.never rfl (bx (K:=K) rfl (aC jY (aC jY (pv 7) (eS (aa (pv 8) (aa (pv 9) ad)))) (aw (bi (K:=K) rfl) (by rfl) T.df PyProof.Rows.boot_list (aa (pv 6) ad)))) (av (i:=10) cD.nd rfl (by walk_at "o")) (ak (bW (zz (K:=K) rfl PySem.F.plainAttrs_list PySem.F.slot_list_clear PySem.F.type_list_clear Bd (pv 10)))))
   (ak (aZ i5))))))))))))),aK (σ':=[some _,some _,some _,some _,some _,none,none,none,none,none,none]) rfl ?_⟩
  walk_at "l2"
  refine ⟨i,s,u,o,rs,qs,N,rfl,hn,g,fun td D1 D2 D3 D4 H1 rs1 qs1 s1 td1=>?_⟩
  walk_at "l2"
  refine dB (s1.get hp) rfl ?_
  walk_at "l2"
  refine ⟨p,N,od,rfl,na.same s1,fun th A1 A2 A3 A4 H2 rs2 qs2 fA1 fA2 fA3 fA4 fth s2 th2=>?_⟩
  have s02:=s1.trans s2
  have td2:=td1.same s2
  have eth:=th2.t
  walk_at "l2"
  refine se th2.rep td2.rep (Ks N) ?_
  refine ⟨false,by rw [iA];rfl,?_⟩
  rw [if_neg (by decide)]
  walk_at "l2"
  refine ⟨p,i,s,u,o,N,od,rs,qs,rfl,na.same s02,hn.same s02,g,fun H3 s3=>?_⟩
  refine ⟨true,rfl,?_⟩
  rw [if_neg (by decide)]
  have s03:=s02.trans s3
  walk_at "l2"
  refine dB (s03.get hp) rfl ?_
  walk_at "l2"
  refine ⟨p,N,od,rfl,na.same s03,fun B1 H4 f4 s4 e4=>?_⟩
  have s04:=s03.trans s4
  walk_at "l2"
  refine dB (s04.get hp) rfl ?_
  walk_at "l2"
  refine ⟨p,N,od,rfl,na.same s04,fun B2 H5 rs5 f5 s5 e5 rk5 er5=>?_⟩
  have s05:=s04.trans s5
  walk_at "l2"
  refine dB (s05.get hp) rfl ?_
  walk_at "l2"
  refine ⟨p,N,od,rfl,na.same s05,fun B3 H6 qs6 f6 s6 e6 qk6 eq6=>?_⟩
  have s06:=s05.trans s6
  walk_at "l2"
  refine dB (s06.get hp) rfl ?_
  walk_at "l2"
  refine ⟨p,N,od,rfl,na.same s06,fun B4 H7 f7 s7 e7=>?_⟩
  have s07:=s06.trans s7
  walk_at "l2"
  intro Df H8 f8 s8 e8
  have s08:=s07.trans s8
  walk_at "l2"
  refine dB (s08.get hp) rfl ?_
  walk_at "l2"
  refine ⟨p,N,od,rfl,na.same s08,fun Dn H9 f9 s9 e9=>?_⟩
  have s09:=s08.trans s9
  walk_at "l2"
  refine dB (s09.get hp) rfl ?_
  walk_at "l2"
  refine ⟨p,N,od,rfl,na.same s09,fun Do HA fA sA eA=>?_⟩
  have s0A:=s09.trans sA
  have s2A:Same H2 HA:=s3.trans (s4.trans (s5.trans (s6.trans (s7.trans (s8.trans (s9.trans sA))))))
  have tdA:=td2.same s2A
  have etd:=tdA.t
  walk_at "l2"
  intro Dq HB fB sB eB
  have s3B:Same H3 HB:=s4.trans (s5.trans (s6.trans (s7.trans (s8.trans (s9.trans (sA.trans sB))))))
  have s4B:Same H4 HB:=s5.trans (s6.trans (s7.trans (s8.trans (s9.trans (sA.trans sB)))))
  have s5B:Same H5 HB:=s6.trans (s7.trans (s8.trans (s9.trans (sA.trans sB))))
  have s6B:Same H6 HB:=s7.trans (s8.trans (s9.trans (sA.trans sB)))
  have s7B:Same H7 HB:=s8.trans (s9.trans (sA.trans sB))
  have s8B:Same H8 HB:=s9.trans (sA.trans sB)
  have s2B:=s2A.trans sB
  have s0B:=s0A.trans sB
  have tdB:=td2.same s2B
  have r2:Rep K HB (.ref B2) (.lst (N.sums.map rowD)):=by rw [← er5];exact u0 (s5B.get e5) (rk5.same s5B)
  have r3:Rep K HB (.ref B3) (.lst (N.sts.map stoD)):=by rw [← eq6];exact uZ (s6B.get e6) (qk6.same s6B)
  have t2:Rep K HB (.ref D2) (.lst (N.sums.map rowD)):=by rw [← tdB.es];exact u0 tdB.s tdB.sr
  have t3:Rep K HB (.ref D3) (.lst (N.sts.map stoD)):=by rw [← tdB.et];exact uZ tdB.st tdB.tr
  refine se (Ez (s8B.get e8) (d8 (s4B.get e4)) r2 r3 (d8 (s7B.get e7))) (Ez eB (d8 tdB.i) t2 t3 (d8 tdB.o)) (Kr N) ?_
  refine ⟨false,by rw [iA];rfl,?_⟩
  rw [if_neg (by decide)]
  have hnB:=hn.same s0B
  have hiB:=hnB.i
  have hsB:=hnB.s
  have lrs:rs.length=N.sums.length:=by rw [← hn.es,List.length_map]
  have lqs:qs.length=N.sts.length:=by rw [← hn.et,List.length_map]
  clear r2 r3 t2 t3 etd tdA
  walk_at "l2"
  intro C1 hC1
  refine bT (xs:=rs.map fun r=>V.ref r.1) (fun i ys H'=>Cs (fun i ys=>ys=((rs.take i).map (·.2.2.1)).map V.str) HB C1 i ys H') (Cs.zero hC1 rfl) (fun i ys H' _ c=>SqL.of (c.same.get hsB)) (fun i x ys H' hx c=>?_) (fun ys HC c=>?_)
  ·obtain ⟨r,hr',rfl⟩:=aX hx
   have hlt:=(List.getElem?_eq_some_iff.mp hr').1
   have er:=c.same.get (hnB.sr r (List.mem_of_getElem? hr')).1
   walk_at "l2"
   refine Cs.put hC1 c.same c.at' c.len (by omega) ?_
   rw [c.pv,take_succ hr',List.map_append,List.map_append];rfl
  have eC:=c.at'
  rw [c.pv,List.length_map,List.take_length] at eC
  have sC:=c.same
  clear c
  refine sf (sC.get hiB) eC (by rw [List.length_map,List.length_map,List.length_map,sizeLine_eq];omega) fun C2 HD fD sD eD=>?_
  have sBD:=sC.trans sD
  have htD:=sBD.get hnB.t
  walk_at "l2"
  intro C3 hC3
  refine bT (xs:=qs.map fun r=>V.ref r.1) (fun i ys H'=>Cs (fun i ys=>ys=((qs.take i).map (·.2.1)).map V.str) HD C3 i ys H') (Cs.zero hC3 rfl) (fun i ys H' _ c=>SqL.of (c.same.get htD)) (fun i x ys H' hx c=>?_) (fun ys HE c=>?_)
  ·obtain ⟨r,hr',rfl⟩:=aX hx
   have hlt:=(List.getElem?_eq_some_iff.mp hr').1
   have er:=c.same.get (sBD.get (hnB.tr r (List.mem_of_getElem? hr')))
   walk_at "l2"
   refine Cs.put hC3 c.same c.at' c.len (by omega) ?_
   rw [c.pv,take_succ hr',List.map_append,List.map_append];rfl
  have eE:=c.at'
  rw [c.pv,List.length_map,List.take_length] at eE
  have sE:=c.same
  clear c
  have enm:N.ins++rs.map (·.2.2.1)++qs.map (·.2.1)=N.names:=by
   unfold Nt.names
   rw [← hn.es,← hn.et,List.map_map,List.map_map];rfl
  refine sf (sE.get eD) eE (by rw [List.length_append,List.length_map,List.length_map,List.length_map,List.length_map,List.length_map,sizeLine_eq];omega) fun C4 HF fF sF eF=>?_
  rw [← List.map_append,← List.map_append,enm] at eF
  have sBF:=sBD.trans (sE.trans sF)
  have s0F:=s0B.trans sBF
  have s9F:Same H9 HF:=sA.trans (sB.trans sBF)
  refine se (d8 (s9F.get e9)) (d8 eF) (by unfold depD;rw [fG];decide) ?_
  refine ⟨false,by rw [iA];rfl,?_⟩
  rw [if_neg (by decide)]
  have sAF:Same HA HF:=sB.trans sBF
  walk_at "l2"
  refine ⟨Do,i,s,u,o,N,od,rs,qs,rfl,sAF.get eA,hn.same s0F,g,na.tp,fun HG sG=>?_⟩
  refine ⟨true,rfl,?_⟩
  rw [if_neg (by decide)]
  have s8G:=s8B.trans (sBF.trans sG)
  have e8G:=s8G.get e8
  have s2G:=s2B.trans (sBF.trans sG)
  have ethG:=s2G.get eth
  walk_at "l2"
  intro C5 HH fH sH eH
  refine sf (sH.get e8G) eH (by rw [sizeLine_eq];show 4 + 2≤16777216;decide) fun C6 HI fI sI eI=>?_
  have ethI:=sI.get (sH.get ethG)
  walk_at "l2"
  intro C7 HJ fJ sJ eJ
  refine sf (sJ.get eI) eJ (by rw [sizeLine_eq];show 6 + 4≤16777216;decide) fun C8 HK fK sK eK=>?_
  have sGK:Same HG HK:=sH.trans (sI.trans (sJ.trans sK))
  have s0K:=s0F.trans (sG.trans sGK)
  have fC8:H C8=none:=s0F.free (sG.free (sH.free (sI.free (sJ.free fK))))
  have s2K:=s2G.trans sGK
  have thK:=th2.same s2K
  have sFK:=sG.trans sGK
  have all:∀ b∈[B1,B2,B3,B4,Dn,Do,A1,A2,A3,A4],H b=none∧(∃ ys,HK b=some (.lst ys))∧b≠C8:=fun b hb=>by
   have key:(H b=none∧(∃ ys,HK b=some (.lst ys)))∧∃ ys,HJ b=some (.lst ys):=by
    have sKJ:Same HG HJ:=sH.trans (sI.trans sJ)
    simp only [List.mem_cons,List.not_mem_nil,or_false] at hb
    rcases hb with rfl | rfl | rfl | rfl | rfl | rfl | rfl | rfl | rfl | rfl
    ·exact ⟨⟨s03.free f4,_,(s4B.trans (sBF.trans sFK)).get e4⟩,_,(s4B.trans (sBF.trans (sG.trans sKJ))).get e4⟩
    ·exact ⟨⟨s04.free f5,_,(s5B.trans (sBF.trans sFK)).get e5⟩,_,(s5B.trans (sBF.trans (sG.trans sKJ))).get e5⟩
    ·exact ⟨⟨s05.free f6,_,(s6B.trans (sBF.trans sFK)).get e6⟩,_,(s6B.trans (sBF.trans (sG.trans sKJ))).get e6⟩
    ·exact ⟨⟨s06.free f7,_,(s7B.trans (sBF.trans sFK)).get e7⟩,_,(s7B.trans (sBF.trans (sG.trans sKJ))).get e7⟩
    ·exact ⟨⟨s08.free f9,_,(s9F.trans sFK).get e9⟩,_,(s9F.trans (sG.trans sKJ)).get e9⟩
    ·exact ⟨⟨s09.free fA,_,(sAF.trans sFK).get eA⟩,_,(sAF.trans (sG.trans sKJ)).get eA⟩
    ·exact ⟨⟨s1.free fA1,_,thK.i⟩,_,(s2G.trans sKJ).get th2.i⟩
    ·exact ⟨⟨s1.free fA2,_,thK.s⟩,_,(s2G.trans sKJ).get th2.s⟩
    ·exact ⟨⟨s1.free fA3,_,thK.st⟩,_,(s2G.trans sKJ).get th2.st⟩
    ·exact ⟨⟨s1.free fA4,_,thK.o⟩,_,(s2G.trans sKJ).get th2.o⟩
   exact ⟨key.1.1,key.1.2,fun z=>by obtain ⟨ys,h⟩:=key.2;rw [z,fK] at h;cases h⟩
  have eK:HK C8=some (.lst ([B1,B2,B3,B4,Dn,Do,A1,A2,A3,A4].map V.ref)):=eK
  generalize [B1,B2,B3,B4,Dn,Do,A1,A2,A3,A4]=bs at all eK
  walk_at "l2"
  refine iy (xs:=bs.map V.ref) (fun j σ H'=>∃ v10,σ=[some (.ref p),some (.ref i),some (.ref s),some (.ref u),some (.ref o),some (.ref td),some (.ref th),some (.ref Df),some (.ref Dn),some (.ref Do),v10]∧Same H H'∧H' C8=some (.lst (bs.map V.ref))∧∀ b∈bs,∃ ys,H' b=some (.lst ys)) ⟨none,rfl,s0K,eK,fun b hb=>(all b hb).2.1⟩ (fun j σ H' _ ⟨_,_,_,e,_⟩=>SqL.of e) ?_ ?_
  ·rintro j y σ H' hy ⟨v10,rfl,s',e',hl'⟩
   obtain ⟨b,hb,rfl⟩:=aX hy
   have hbm:=List.mem_of_getElem? hb
   obtain ⟨ys,eb⟩:=hl' b hbm
   walk_at "l2"
   refine Ew eb fun H2' u2=>?_
   walk_at "l2"
   refine ⟨u2.same (all b hbm).1 s',u2.oth _ _ (all b hbm).2.2.symm e',fun b2 hb2=>?_⟩
   by_cases hz:b2=b
   ·rw [hz];exact ⟨_,u2.at'⟩
   ·obtain ⟨ys2,e2'⟩:=hl' b2 hb2
    exact ⟨ys2,u2.oth _ _ hz e2'⟩
  ·rintro σ H' ⟨v10,rfl,s',e',hl'⟩
   walk_at "l2"
   exact q H' s'
end
section
variable {P:Program} {w:World} {K:PySem.W.Frag} {mg:Str→Option Value} {base:Heap} {a:Ad}
local macro_rules | `(tactic| walk_at "l2step") =>`(tactic| first | ((with_reducible refine' c_whole ?e ?_);(case e=>walk_at "l2kind")) | ((with_reducible refine' c_mask ?e ?_);(case e=>walk_at "l2kind")) | (with_reducible refine cM ?_) | (with_reducible refine eV ?_))
theorem sN (T:Tx K mg a):FnOk P w K mg base CX0 1 a.bL a.iG ["_law_sums"] BO:=by
 refine T.fO.ok gQ (fun vs H Q E h=>?_) (fun cdv A outer s H vs Q E hr h=>?_)
 ·obtain ⟨s,rs,N,rfl,_⟩:=h;rfl
 ·obtain ⟨s,rs,N,rfl,hs,hr',es,l12,q⟩:=h
  refine ⟨_,((ah (bf (i:=1) gQ.nd rfl (by walk_at "o") (aw (bi (K:=K) rfl) (by rfl) T.df PyProof.Rows.boot_list (aa (pv 0) ad)))
   (ah (eP PassesOwn.never rfl (eQ (by rfl) T.ir (aa (aC A7 am (aB (bu (K:=K) rfl) (by rfl) T.iu PySem.boot_len (aa (pv 0) ad))) ad)) (av (i:=2) gQ.nd rfl (by walk_at "o")) (ak (bW (jh (K:=K) rfl PySem.F.plainAttrs_list PySem.F.slot_list_append PySem.F.type_list_append jv (pv 1) (aa (dP (aa (aC dy (aC dy fo (aw gL (by rfl) T.E6 PyProof.Rows.boot_str (aa (pv 2) ad))) fo) (aa (cr (osc:=af cq) (ON:=["_law_sums","_law_found","_law_k"]) (N:=["_law_j"]) (n:=1) (fx:=[]) rfl rfl rfl (by decide +kernel) (ER (by rfl) T.ir (aa (aB (FW rfl) (by rfl) T.NG PyProof.Rows.boot_max (aa am (aa (aC A7 (pv 2) am) ad))) (aa (pv 2) ad))) (bo (by decide)) (fun _ _ _ _ _=>⟨(av (i:=0) (show List.Nodup (["_law_j"]:List Str) from by decide +kernel) rfl (by walk_at "o")),bQ,(aC dy (aC dy fo (aw gL (by rfl) T.E6 PyProof.Rows.boot_str (aa (pv 0) ad))) fo)⟩)) ad))) ad)))))
   (ah (bW (zz (K:=K) rfl PySem.F.plainAttrs_list PySem.F.slot_list_reverse PySem.F.type_list_reverse Ck (pv 1)))
   (ak (aZ (pv 1))))))),aK (σ':=[some _,none,none]) rfl ?_⟩
  walk_at "l2"
  intro D H1 f1 s1 e1
  walk_at "l2"
  have lrs:rs.length=N.sums.length:=by rw [← es,List.length_map]
  have ec:(40:Int) - ((rs.map fun r=>V.ref r.1).length:Int)=((40 - N.sums.length:Nat):Int):=by rw [List.length_map,lrs];omega
  rw [ec]
  refine ⟨by omega,by omega,?_⟩
  rw [Int.toNat_natCast]
  refine rc (fun i σ H'=>∃ (v:Option V) (rs2:List Rw),σ=[some (.ref s),some (.ref D),v]∧Same H H'∧H' D=some (.lst (rs2.map fun r=>V.ref r.1))∧RwLs H' rs2∧rs2.map (·.2.2)=N.sums++ldrs i∧∀ r∈rs2,r.2.1≠D) ⟨none,rs,rfl,s1,e1,hr'.same s1,by rw [es];unfold ldrs;simp,fun r hr2 z=>by have:=(hr' r hr2).2;rw [z,f1] at this;cases this⟩ ?_ ?_
  ·rintro i σ H' hi ⟨v,rs2,rfl,s',eD,hk,hes,nD⟩
   have lr2:rs2.length=N.sums.length + i:=by have:=congrArg List.length hes;unfold ldrs at this;rw [List.length_map,List.length_append,List.length_map,List.length_range] at this;exact this
   have ei:(0:Int) + (i:Int)=(i:Int):=Int.zero_add _
   rw [ei]
   have lg:∀ k:Nat,k < 40→(k:Int).natAbs.log2 < 1920:=fun k hk=>by
    rw [Int.natAbs_natCast]
    rcases Nat.eq_zero_or_pos k with z | z
    ·rw [z];decide
    ·exact (Nat.log2_lt (by omega)).mpr (Nat.lt_of_lt_of_le hk (Nat.le_trans (by decide:40≤2 ^ 6) (Nat.pow_le_pow_right (by decide) (by decide))))
   have lt4:∀ k:Nat,k < 40→(tx k).length≤4:=fun k hk=>by
    have:=(kP ⟨k,by omega⟩).2
    show (tx k).cps.size≤4
    rw [← Array.length_toList];exact this
   have hi40:i < 40:=by omega
   have l4:=lt4 i hi40
   have l1:("l":Str).length=1:=rfl
   have lal:(("l":Str)++tx i).length≤5:=by
    show (("l":Str).cps++(tx i).cps).size≤5
    rw [Array.size_append]
    have:(tx i).cps.size≤4:=l4
    have:("l":Str).cps.size=1:=rfl
    omega
   walk_at "l2"
   refine ⟨lg i hi40,?_⟩
   refine ⟨_,_,rfl,rfl,by show ("l":Str).length + (tx i).length≤_;rw [sizeLine_eq];omega,?_⟩
   walk_at "l2"
   refine ⟨by show (("l":Str)++tx i).length + ("l":Str).length≤_;rw [sizeLine_eq];omega,?_⟩
   walk_at "l2"
   refine ⟨0,_,rfl,?_⟩
   obtain ⟨lo,elo⟩:∃ lo:Nat,lo=i - 2:=⟨_,rfl⟩
   have emx:(if (i:Int) - 2 > 0 then (i:Int) - 2 else 0)=(lo:Int):=by split<;>omega
   rw [emx]
   walk_at "l2"
   refine ⟨_,_,rfl,⟨by omega,by omega,by omega,by omega⟩,?_⟩
   intro Dw hDw
   rw [show ((i:Int) - (lo:Int)).toNat=i - lo by omega]
   refine fT (fun t ys H2=>Cs (fun t ys=>ys=((List.range t).map fun x=>ldn (lo + x)).map V.str) H' Dw t ys H2) (Cs.zero hDw rfl) (fun t ys H2 ht c=>?_) (fun ys H2 c=>?_)
   ·have ek:(lo:Int) + (t:Int)=((lo + t:Nat):Int):=by push_cast;rfl
    have hk40:lo + t < 40:=by omega
    have l4':=lt4 (lo + t) hk40
    have lal':(("l":Str)++tx (lo + t)).length≤5:=by
     show (("l":Str).cps++(tx (lo + t)).cps).size≤5
     rw [Array.size_append]
     have:(tx (lo + t)).cps.size≤4:=l4'
     have:("l":Str).cps.size=1:=rfl
     omega
    rw [ek]
    walk_at "l2"
    refine ⟨lg _ hk40,?_⟩
    refine ⟨_,_,rfl,rfl,by show ("l":Str).length + (tx (lo + t)).length≤_;rw [sizeLine_eq];omega,?_⟩
    walk_at "l2"
    refine ⟨by show (("l":Str)++tx (lo + t)).length + ("l":Str).length≤_;rw [sizeLine_eq];omega,?_⟩
    refine Cs.put hDw c.same c.at' c.len (by omega) ?_
    rw [c.pv,List.range_succ,List.map_append,List.map_append];rfl
   ·have e2:=c.at'
    rw [c.pv] at e2
    have s2:=c.same
    clear c
    have hDwD:Dw≠D:=fun z=>by rw [z,eD] at hDw;cases hDw
    walk_at "l2"
    intro tr H3 f3 s3 e3
    have htr:tr≠D:=fun z=>by rw [z,s2.get eD] at f3;cases f3
    have eD3:=s3.get (s2.get eD)
    walk_at "l2"
    refine pJ eD3 (by rw [List.length_map];exact bz (by omega)) fun H4 u4=>?_
    walk_at "l2"
    refine ⟨_,rs2++[(tr,Dw,ldr i)],rfl,u4.same f1 (s'.trans (s2.trans s3)),?_,fun r hr2=>?_,?_,fun r hr2=>?_⟩
    ·rw [u4.at',List.map_append];rfl
    ·rcases List.mem_append.mp hr2 with h | h
     ·have h':=hk r h
      exact ⟨u4.oth _ _ (fun z=>by have:=h'.1;rw [z,eD] at this;cases this) (s3.get (s2.get h'.1)),u4.oth _ _ (nD r h) (s3.get (s2.get h'.2))⟩
     ·rw [List.mem_singleton.mp h]
      refine ⟨u4.oth _ _ htr e3,u4.oth _ _ hDwD (s3.get ?_)⟩
      rw [e2,elo];rfl
    ·unfold ldrs at hes ⊢
     rw [List.map_append,hes,List.range_succ,List.map_append,List.append_assoc];rfl
    ·rcases List.mem_append.mp hr2 with h | h
     ·exact nD r h
     ·rw [List.mem_singleton.mp h];exact hDwD
  ·rintro σ H' ⟨v,rs2,rfl,s',eD,hk,hes,nD⟩
   walk_at "l2"
   refine Nj eD fun H2 u2=>?_
   walk_at "l2"
   rw [← List.map_reverse] at u2
   refine q D H2 rs2.reverse f1 (u2.same f1 s') u2.at' (fun r hr2=>?_) ?_
   ·have h:=hk r (List.mem_reverse.mp hr2)
    refine ⟨u2.oth _ _ (fun z=>by have:=h.1;rw [z,eD] at this;cases this) h.1,u2.oth _ _ (nD r (List.mem_reverse.mp hr2)) h.2⟩
   ·rw [List.map_reverse,hes];rfl
end
section
variable {P:Program} {w:World} {K:PySem.W.Frag} {mg:Str→Option Value} {base:Heap} {a:Ad}
theorem sM (T:Tx K mg a):FnOk P w K mg base CX0 2 a.b7 a.iF ["_law_cell_here","_law_k"] BN:=by
 have aL:=@ip P w K mg base a T
 refine T.gy.ok ck (fun vs H Q E h=>?_) (fun cdv A outer s H vs Q E hr h=>?_)
 ·obtain ⟨c,rfl,_⟩:=h;rfl
 ·obtain ⟨c,rfl,q⟩:=h
  obtain ⟨k,hk60⟩:∃ k:Int,k=60:=⟨_,rfl⟩
  refine ⟨_,((ah (bf (i:=2) ck.nd rfl (by walk_at "o") fo)
   (ah (bf (i:=3) ck.nd rfl (by walk_at "o") fo)
   (ah (bf (i:=3) ck.nd rfl (by walk_at "o") (aC dy (pv 3) fo))
   (ah (c8 (PW.pt (EL (bw JR (pv 1) am (bV _)) (zr (bw xF (aC cf (ay aL (hr.mono (by decide)) (by rfl) T.bh T.bg T.aU .nil a0 (aa (pv 0) (aa am ad))) am) am (bV _))))) (ak (aZ (cj (b9 (K:=K) rfl) (jh (K:=K) rfl PySem.F.plainAttrs_str PySem.F.slot_str_split PySem.F.type_str_split Bc (pv 3) (aa fo ad)) (aC cf (aC cx (pv 1) (ay aL (hr.mono (by decide)) (by rfl) T.bh T.bg T.aU .nil a0 (aa (pv 0) (aa am ad)))) am) (fun _ _=>rfl)))) aW)
   (ak (aZ (aC dy (cj Fw (pv 2) (aC cf (ay aL (hr.mono (by decide)) (by rfl) T.bh T.bg T.aU .nil a0 (aa (pv 0) (aa am ad))) am) (fun _ _=>rfl)) (aw gL (by rfl) T.E6 PyProof.Rows.boot_str (aa (aC cx (aC cf (ay aL (hr.mono (by decide)) (by rfl) T.bh T.bg T.aU .nil a0 (aa (pv 0) (aa am ad))) am) (aC oa am (pv 1))) ad)))))))))),aK (σ':=[some _,some _,none,none]) rfl ?_⟩
  walk_at "l2"
  refine ⟨by decide +kernel,?_⟩
  walk_at "l2"
  generalize hw:((_:Str)++_)=words
  have hw:words=zi:=hw.symm
  have hm:=Int.emod_lt_of_pos (mixV c 400) (show (0:Int) < 26 by decide)
  have hm':=Int.emod_nonneg (mixV c 400) (show (26:Int)≠0 by decide)
  have hr1:=Int.emod_lt_of_pos (mixV c 401) (show (0:Int) < 1000 by decide)
  have hr0:=Int.emod_nonneg (mixV c 401) (show (1000:Int)≠0 by decide)
  refine ⟨c,400,rfl,by decide,by decide,?_⟩
  walk_at "l2"
  refine Jw (by decide +kernel) (uC _ hm' hm) ?_
  walk_at "l2"
  refine ⟨c,401,rfl,by decide,by decide,?_⟩
  walk_at "l2"
  have hn:(mixV c 401 % 1000 + 37 * 60).natAbs < 10 ^ 4:=by omega
  have hlog:(mixV c 401 % 1000 + 37 * 60).natAbs.log2 < 1920:=by
   exact (Nat.log2_lt (by omega)).mpr (Nat.lt_of_lt_of_le hn (Nat.le_trans (by decide:10 ^ 4≤2 ^ 14) (Nat.pow_le_pow_right (by decide) (by decide))))
  have hlen:=PyProof.Rows.int_text_len_1921 hlog
  refine ⟨hlog,?_⟩
  refine ⟨_,_,rfl,rfl,by rw [sizeLine_eq];have:(⟨#[97 + (mixV c 400 % 26).toNat]⟩:Str).length=1:=rfl
                         omega,?_⟩
  have e:(mixV c 401 % 1000 + 37 * 60)=(((mixV c 401 % 1000).toNat + 2220:Nat):Int):=by omega
  have q':=q H (Same.refl _)
  unfold nm60 at q'
  rw [e]
  exact q'
end
section
variable {P:Program} {w:World} {K:PySem.W.Frag} {mg:Str→Option Value} {base:Heap} {a:Ad}
local macro_rules | `(tactic| walk_at "l2step") =>`(tactic| first | ((with_reducible refine' F0 ?a ?b ?_);(case a=>walk_at "l2side");(case b=>walk_at "l2side")) | ((with_reducible refine' wx ?e ?a ?_);(case e=>walk_at "l2hp");(case a=>walk_at "l2side")))
theorem uW {K:PySem.W.Frag} {H:Hp} {D:Addr} {ws:List Str} (h:H D=some (.lst (ws.map V.str))):Rep K H (.ref D) (.lst (ws.map Dt.str)):= .lst (SqL.of h) (by rw [List.length_map,List.length_map]) (p4 V.str Dt.str (fun z=> .str z) ws)
theorem Aj:∀ ws:List Str,cU (ws.map Dt.str)=0
 | []=>rfl
 | w::ws=>by rw [List.map_cons,cU,Aj ws];rfl
theorem Bl (ws:List Str):eqD (.lst (ws.map Dt.str)) (.lst [])=decide (ws=[]):=by
 cases ws with
 | nil=>rfl
 | cons w l=>rw [decide_eq_false (by simp)];rfl
theorem vd (T:Tx K mg a):FnOk P w K mg base CX0 2 a.b4 a.jC ["_law_cell_here","_law_start","_law_names","_law_digits"] Ed:=by
 have aL:=@ip P w K mg base a T
 refine T.gN.ok cL (fun vs H Q E h=>?_) (fun cdv A outer s H vs Q E hr h=>?_)
 ·obtain ⟨c,st,l,zs,dg,rfl,_⟩:=h;rfl
 ·obtain ⟨c,st,l,zs,dg,rfl,st0,st1,hl,ll,q⟩:=h
  have hu1:=kl hr
  have elen:(((zs.map V.str).length:Nat):Int)=(zs.length:Int):=by rw [List.length_map]
  refine ⟨_,((ah (c8 (dw (pv 3)) (ah (bf (i:=4) cL.nd rfl (by walk_at "o") (aC cf (pv 0) (aC Me (aC cx (aB (bu (K:=K) rfl) (by rfl) T.iu PySem.boot_len (aa (pv 2) ad)) am) am)))
   (ah (bf (i:=5) cL.nd rfl (by walk_at "o") (eS ad))
   (ah (eP PassesOwn.never rfl (eQ (by rfl) T.ir (aa am ad)) (av (i:=6) cL.nd rfl (by walk_at "o")) (u1 (c8 (bw xE (aC cf (pv 4) (aC cx (aB (bu (K:=K) rfl) (by rfl) T.iu PySem.boot_len (aa (pv 2) ad)) am)) am (bV _)) (ak (bW (jh (K:=K) rfl PySem.F.plainAttrs_list PySem.F.slot_list_append PySem.F.type_list_append jv (pv 5) (aa (cj (b9 (K:=K) rfl) (pv 2) (aC A7 (aC cf (pv 4) (aC cx (aB (bu (K:=K) rfl) (by rfl) T.iu PySem.boot_len (aa (pv 2) ad)) am)) am) (fun _ _=>rfl)) ad)))) aW)
   (ak (bf (i:=4) cL.nd rfl (by walk_at "o") (aC EW (pv 4) (aC cx (aB (bu (K:=K) rfl) (by rfl) T.iu PySem.boot_len (aa (pv 2) ad)) am))))))
   (ak (aZ (pv 5)))))) aW)
   (ah (bf (i:=7) cL.nd rfl (by walk_at "o") (aC cf (ay aL (hr.mono (by decide)) (by rfl) T.bh T.bg T.aU .nil a0 (aa (pv 0) (aa (pv 1) ad))) am))
   (ak (aZ (cr (osc:=af cE) (ON:=["_law_cell_here","_law_start","_law_names","_law_digits","_law_left","_law_found","_law_k","_law_many"]) (N:=["_law_k","_law_names","_law_cell_here","_law_start"]) (n:=1) (fx:=[2,0,1]) rfl rfl rfl (by decide +kernel) (eQ (by rfl) T.ir (aa (pv 7) ad)) (bo (by decide)) (fun _ _ _ _ _=>⟨(av (i:=0) (show List.Nodup (["_law_k","_law_names","_law_cell_here","_law_start"]:List Str) from by decide +kernel) rfl (by walk_at "o")),(zu (bw (io (K:=K) rfl hu1) (pv 1) (eS ad) (bV _))),(cj (b9 (K:=K) rfl) (pv 1) (aC cf (ay aL (hr.mono (by decide)) (by rfl) T.bh T.bg T.aU .nil a0 (aa (pv 2) (aa (aC cx (aC cx (pv 3) am) (pv 0)) ad))) (aB (bu (K:=K) rfl) (by rfl) T.iu PySem.boot_len (aa (pv 1) ad))) (fun _ _=>rfl))⟩))))))),aK (σ':=[some _,some _,some _,some _,none,none,none,none]) rfl ?_⟩
  have hpow:(0:Int) < ((((zs.map V.str).length:Nat):Int) + 1) ^ (4:Int).toNat:=Int.pow_pos (by omega)
  have hn1:(0:Int) < (((zs.map V.str).length:Nat):Int) + 1:=by omega
  walk_at "l2"
  cases dg with
  | true=>
    walk_at "l2"
    generalize c % ((((zs.map V.str).length:Nat):Int) + 1) ^ (4:Int).toNat=left
    clear hpow
    intro D H1 f1 s1 e1
    have hl1:=s1.get hl
    walk_at "l2"
    refine rc (fun i σ H'=>∃ (v:Option V) (left:Int) (ws:List Str),σ=[some (V.int c),some (V.int st),some (V.ref l),some (V.bl true),some (V.int left),some (V.ref D),v,none]∧Same H H'∧H' D=some (.lst (ws.map V.str))∧ws.length≤i∧∀ w∈ws,w∈zs) ⟨none,left,[],rfl,s1,e1,Nat.le_refl _,fun _ h=>absurd h (by simp)⟩ ?_ ?_
    ·rintro i σ H' hi ⟨v,left,ws,rfl,s',eD,lw,hw⟩
     have hl':=s'.get hl
     have hi4:i < 4:=hi
     walk_at "l2"
     refine GZ (fun σ H2=>∃ ws':List Str,σ=[some (V.int c),some (V.int st),some (V.ref l),some (V.bl true),some (V.int left),some (V.ref D),some (V.int (0 + (i:Int))),none]∧Same H H2∧H2 D=some (.lst (ws'.map V.str))∧ws'.length≤i + 1∧∀ w∈ws',w∈zs) ?_ ?_
     ·have r0:=Int.emod_nonneg left (Int.ne_of_gt hn1)
      have r1:=Int.emod_lt_of_pos left hn1
      walk_at "l2"
      by_cases hr0:0 < left % ((((zs.map V.str).length:Nat):Int) + 1)
      ·refine xl (decide_eq_true hr0) ?_
       obtain ⟨j,hj⟩:=Int.eq_ofNat_of_zero_le (show 0≤left % ((((zs.map V.str).length:Nat):Int) + 1) - 1 by omega)
       have hjl:j < zs.length:=by omega
       have hat:atI (zs.map V.str) (left % ((((zs.map V.str).length:Nat):Int) + 1) - 1)=some (.str zs[j]):=by
        rw [hj]
        exact g7 (by rw [List.getElem?_map,List.getElem?_eq_getElem hjl];rfl)
       walk_at "l2"
       refine pJ eD (by rw [List.length_map,sizeLine_eq];omega) fun H3 u3=>?_
       walk_at "l2"
       refine ⟨ws++[zs[j]],rfl,fun b o e=>u3.oth _ _ (aj e f1) (s'.get e),by rw [u3.at',List.map_append];rfl,by rw [List.length_append];show _ + 1≤_;omega,fun w hw'=>?_⟩
       rcases List.mem_append.mp hw' with h | h
       ·exact hw w h
       ·rw [List.mem_singleton.mp h];exact List.getElem_mem hjl
      ·refine kZ (decide_eq_false hr0) ?_
       walk_at "l2"
       exact ⟨ws,rfl,s',eD,by omega,hw⟩
     ·rintro σ H2 ⟨ws',rfl,s2,eD2,lw',hw'⟩
      have hl2:=s2.get hl
      walk_at "l2"
      exact ⟨_,_,ws',rfl,s2,eD2,lw',hw'⟩
    ·rintro σ H' ⟨v,left,ws,rfl,s',eD,lw,hw⟩
     walk_at "l2"
     exact q D H' ws f1 s' eD lw hw
  | false=>
    have m0:=Int.emod_nonneg (mixV c st) (show (5:Int)≠0 by decide)
    have m1:=Int.emod_lt_of_pos (mixV c st) (show (0:Int) < 5 by decide)
    walk_at "l2"
    intro D hD
    refine fT (fun i ys H'=>∃ ws:List Str,ys=ws.map V.str∧Same H H'∧H' D=some (.lst ys)∧ws.length≤i∧∀ w∈ws,w∈zs) ⟨[],rfl,bF hD,au,Nat.le_refl _,fun _ h=>absurd h (by simp)⟩ ?_ ?_
    ·rintro i ys H' hi ⟨ws,rfl,s',eD,lw,hw⟩
     have hl':=s'.get hl
     walk_at "l2"
     intro L2 H2 f2 s2 e2
     have hl2:=s2.get hl'
     have eD2:=s2.get eD
     refine se (uW hl2) (uW (ws:=[]) e2) (by rw [depD,Aj];decide) ?_
     rw [show (List.map Dt.str [])=[] from rfl,Bl]
     by_cases hz:zs=[]
     ·rw [decide_eq_true hz]
      walk_at "l2"
      exact ⟨s'.trans s2,eD2,by omega,hw⟩
     ·rw [decide_eq_false hz]
      have hzl:0 < zs.length:=List.length_pos_iff.mpr hz
      have hzp:(0:Int) < (((zs.map V.str).length:Nat):Int):=by omega
      walk_at "l2"
      obtain ⟨j,hj,hjl⟩:=iB (c:=mixV c (st + 1 + (0 + (i:Int)))) hzp
      have hjl:j < zs.length:=by omega
      have hat:atI (zs.map V.str) (mixV c (st + 1 + (0 + (i:Int))) % (((zs.map V.str).length:Nat):Int))=some (.str zs[j]):=by
       rw [hj]
       exact g7 (by rw [List.getElem?_map,List.getElem?_eq_getElem hjl];rfl)
      walk_at "l2"
      refine ⟨eD2,by rw [List.length_map];exact bz (by omega),ws++[zs[j]],by rw [List.map_append];rfl,fun b o e=>?_,au,by rw [List.length_append];show _ + 1≤_;omega,fun w hw'=>?_⟩
      ·rw [aq (aj e hD)];exact s2.get (s'.get e)
      ·rcases List.mem_append.mp hw' with h | h
       ·exact hw w h
       ·rw [List.mem_singleton.mp h];exact List.getElem_mem hjl
    ·rintro ys H' ⟨ws,rfl,s',eD,lw,hw⟩
     exact q D H' ws hD s' eD (by omega) hw
end
section
variable {P:Program} {w:World} {K:PySem.W.Frag} {mg:Str→Option Value} {base:Heap} {a:Ad}
theorem wt {H:Hp} {Q:VK} {E:XK} {c k:Int} (h0:0≤k) (h1:k < 40) (q:∀ H2,Same H H2→Q (.str (nmf c k)) H2):uq [.int c,.int k] H Q E:=⟨c,k,rfl,h0,h1,q⟩
local macro_rules | `(tactic| walk_at "l2step") =>`(tactic| first | (with_reducible refine cM ?_) | ((with_reducible refine' F0 ?a ?b ?_);(case a=>omega);(case b=>omega)) | ((with_reducible refine' wx ?e ?a ?_);(case e=>walk_at "l2hp");(case a=>walk_at "l2side")))
theorem zA (T:Tx K mg a):FnOk P w K mg base CX0 3 a.cS a.nq ["_law_script","_law_start","_law_most"] (GK K):=by
 have d7:=@og P w K mg base a T
 have aL:=@ip P w K mg base a T
 have d6:=@xH P w K mg base a T
 have za:=@vd P w K mg base a T
 refine T.jM.ok aM (fun vs H Q E h=>?_) (fun cdv A outer s H vs Q E hr h=>?_)
 ·obtain ⟨p,ns,st,mo,rfl,_⟩:=h;rfl
 ·obtain ⟨p,ns,st,mo,rfl,hS,hst,hmo,q⟩:=h
  have hu1:=kl hr
  refine ⟨_,((ah (bf (i:=3) aM.nd rfl (by walk_at "o") (ay d7 (hr.mono (by decide)) (by rfl) T.gq T.gi T.dq .nil a0 (aa (pv 0) (aa (pv 1) ad))))
   (ah (bf (i:=4) aM.nd rfl (by walk_at "o") (eS (aa (aC cf (ay aL (hr.mono (by decide)) (by rfl) T.bh T.bg T.aU .nil a0 (aa (pv 3) (aa am ad))) am) (aa (aC cf (ay aL (hr.mono (by decide)) (by rfl) T.bh T.bg T.aU .nil a0 (aa (pv 3) (aa am ad))) (aC cx (pv 2) am)) (aa (aC cf (ay aL (hr.mono (by decide)) (by rfl) T.bh T.bg T.aU .nil a0 (aa (pv 3) (aa am ad))) (aC cx (pv 2) am)) ad)))))
   (ah (ko (osc:=af cP) (ON:=["_law_script","_law_start","_law_most","_law_cell_here","_law_sizes","_law_ins","_law_stores","_law_known","_law_sums","_law_k","_law_wires_here","_law_at","_law_ends","_law_name_here","_law_outs"]) (N:=["_law_k","_law_cell_here"]) (n:=1) (fx:=[3]) (i:=5) aM.nd rfl rfl rfl rfl rfl rfl (by decide +kernel) (eQ (by rfl) T.ir (aa (cj (b9 (K:=K) rfl) (pv 4) am (fun _ _=>rfl)) ad)) (bo (by decide)) (fun _ _ _ _ _=>⟨(av (i:=0) (show List.Nodup (["_law_k","_law_cell_here"]:List Str) from by decide +kernel) rfl (by walk_at "o")),bQ,(ay d6 (hr.mono (by decide)) (by rfl) T.gn T.gh T.dn .nil a0 (aa (pv 1) (aa (pv 0) ad)))⟩))
   (ah (ko (osc:=af cP) (ON:=["_law_script","_law_start","_law_most","_law_cell_here","_law_sizes","_law_ins","_law_stores","_law_known","_law_sums","_law_k","_law_wires_here","_law_at","_law_ends","_law_name_here","_law_outs"]) (N:=["_law_k","_law_cell_here"]) (n:=1) (fx:=[3]) (i:=6) aM.nd rfl rfl rfl rfl rfl rfl (by decide +kernel) (eQ (by rfl) T.ir (aa (cj (b9 (K:=K) rfl) (pv 4) am (fun _ _=>rfl)) ad)) (bo (by decide)) (fun _ _ _ _ _=>⟨(av (i:=0) (show List.Nodup (["_law_k","_law_cell_here"]:List Str) from by decide +kernel) rfl (by walk_at "o")),bQ,(ay d6 (hr.mono (by decide)) (by rfl) T.gn T.gh T.dn .nil a0 (aa (pv 1) (aa (aC cx am (pv 0)) ad)))⟩))
   (ah (bf (i:=7) aM.nd rfl (by walk_at "o") (aC jY (pv 5) (pv 6)))
   (ah (bf (i:=8) aM.nd rfl (by walk_at "o") (eS ad))
   (ah (eP PassesOwn.never rfl (eQ (by rfl) T.ir (aa (cj (b9 (K:=K) rfl) (pv 4) am (fun _ _=>rfl)) ad)) (av (i:=9) aM.nd rfl (by walk_at "o")) (ah (bf (i:=10) aM.nd rfl (by walk_at "o") (ay za (hr.mono (by decide)) (by rfl) T.yq T.yl T.jI .nil a0 (aa (ay d7 (hr.mono (by decide)) (by rfl) T.gq T.gi T.dq .nil a0 (aa (pv 0) (aa (aC cx (aC cx (pv 1) am) (pv 9)) ad))) (aa am (aa (pv 7) (aa (p9 xF (aC cf (pv 3) am) am (bV _)) ad))))))
   (ah (bW (jh (K:=K) rfl PySem.F.plainAttrs_list PySem.F.slot_list_append PySem.F.type_list_append jv (pv 8) (aa (dP (aa (ay d6 (hr.mono (by decide)) (by rfl) T.gn T.gh T.dn .nil a0 (aa (pv 3) (aa (aC cx am (pv 9)) ad))) (aa (pv 10) ad))) ad)))
   (ak (bf (i:=7) aM.nd rfl (by walk_at "o") (aC jY (pv 7) (eS (aa (ay d6 (hr.mono (by decide)) (by rfl) T.gn T.gh T.dn .nil a0 (aa (pv 3) (aa (aC cx am (pv 9)) ad))) ad))))))))
   (ah (bf (i:=11) aM.nd rfl (by walk_at "o") (aC cf (ay aL (hr.mono (by decide)) (by rfl) T.bh T.bg T.aU .nil a0 (aa (pv 3) (aa am ad))) (aC cx (aB (bu (K:=K) rfl) (by rfl) T.iu PySem.boot_len (aa (pv 8) ad)) am)))
   (ah (bf (i:=8) aM.nd rfl (by walk_at "o") (aC jY (A6 (AV (K:=K) rfl) (pv 8) (EO (pv 11)) EQ) (B0 (by rfl) (by rfl) T.df T.Ch rfl (A6 (AV (K:=K) rfl) (pv 8) EQ (EO (pv 11))))))
   (ah (bf (i:=12) aM.nd rfl (by walk_at "o") (eS ad))
   (ah (eP PassesOwn.never rfl (lc (K:=K) rfl (by rfl) T.ge (pv 6)) (n0 rfl (bj (av (i:=9) aM.nd rfl (by walk_at "o")) (bj (av (i:=13) aM.nd rfl (by walk_at "o")) fZ))) (ak (bW (jh (K:=K) rfl PySem.F.plainAttrs_list PySem.F.slot_list_append PySem.F.type_list_append jv (pv 12) (aa (dP (aa (pv 13) (aa (cj (b9 (K:=K) rfl) (pv 7) (aC cf (ay aL (hr.mono (by decide)) (by rfl) T.bh T.bg T.aU .nil a0 (aa (pv 3) (aa (aC cx am (pv 9)) ad))) (aB (bu (K:=K) rfl) (by rfl) T.iu PySem.boot_len (aa (pv 7) ad))) (fun _ _=>rfl)) ad))) ad)))))
   (ah (bf (i:=14) aM.nd rfl (by walk_at "o") (eS ad))
   (u1 (c8 (bw (io (K:=K) rfl hu1) (pv 7) (eS ad) (bV _)) (ak (ko (osc:=af cP) (ON:=["_law_script","_law_start","_law_most","_law_cell_here","_law_sizes","_law_ins","_law_stores","_law_known","_law_sums","_law_k","_law_wires_here","_law_at","_law_ends","_law_name_here","_law_outs"]) (N:=["_law_k","_law_known","_law_cell_here"]) (n:=1) (fx:=[7,3]) (i:=14) aM.nd rfl rfl rfl rfl rfl rfl (by decide +kernel) (eQ (by rfl) T.ir (aa (aC cf (ay aL (hr.mono (by decide)) (by rfl) T.bh T.bg T.aU .nil a0 (aa (pv 3) (aa am ad))) am) ad)) (bo (by decide)) (fun _ _ _ _ _=>⟨(av (i:=0) (show List.Nodup (["_law_k","_law_known","_law_cell_here"]:List Str) from by decide +kernel) rfl (by walk_at "o")),bQ,(cj (b9 (K:=K) rfl) (pv 1) (aC cf (ay aL (hr.mono (by decide)) (by rfl) T.bh T.bg T.aU .nil a0 (aa (pv 2) (aa (aC cx am (pv 0)) ad))) (aB (bu (K:=K) rfl) (by rfl) T.iu PySem.boot_len (aa (pv 1) ad))) (fun _ _=>rfl))⟩))) aW)
   (ak (aZ (dP (aa (pv 5) (aa (pv 8) (aa (pv 12) (aa (pv 14) ad))))))))))))))))))))),aK (σ':=[some _,some _,some _,none,none,none,none,none,none,none,none,none,none,none,none]) rfl ?_⟩
  walk_at "l2"
  generalize hcc:cell ns ((st:Nat):Int)=c at *
  intro Z H1 f1 s1 e1
  obtain ⟨ni,hni,lni⟩:=iB (c:=mixV c 1) (m:=4) (by decide)
  obtain ⟨nt,hnt,lnt⟩:=iB (c:=mixV c 2) (m:=(mo:Int) + 1) (by omega)
  obtain ⟨nz,hnz,lnz⟩:=iB (c:=mixV c 3) (m:=(mo:Int) + 1) (by omega)
  rw [hni,hnt,hnz] at e1
  have hni3:ni≤3:=by omega
  have hnt6:nt≤12:=by omega
  have hnz6:nz≤12:=by omega
  have hnzo:nz≤mo:=by omega
  have hS1:=Same.seq s1 hS
  clear hni hnt hnz lni lnt lnz
  walk_at "l2"
  intro D2 hD2
  refine fT (fun i ys H'=>Cs (fun i ys=>ys=(nms c 0 i).map V.str) H1 D2 i ys H') (Cs.zero hD2 rfl) (fun i ys H' hi cs=>?_) (fun ys H2 cs=>?_)
  ·have hi3:i < 3:=by omega
   walk_at "l2"
   refine wt (by omega) (by omega) fun H3 s3=>?_
   refine Cs.put hD2 (cs.same.trans s3) (s3.get cs.at') cs.len (by omega) ?_
   rw [cs.pv,lR,List.map_append,show (0:Int) + (i:Int)=((0 + i:Nat):Int) by push_cast;rfl];rfl
  ·have e2:=cs.at'
   rw [cs.pv,Int.toNat_natCast] at e2
   have s12:=cs.same
   clear cs
   have e12:=s12.get e1
   walk_at "l2"
   intro D3 hD3
   refine fT (fun i ys H'=>Cs (fun i ys=>ys=(nms c 6 i).map V.str) H2 D3 i ys H') (Cs.zero hD3 rfl) (fun i ys H' hi cs=>?_) (fun ys H3 cs=>?_)
   ·have hi6:i < 12:=by omega
    walk_at "l2"
    refine wt (by omega) (by omega) fun H4 s4=>?_
    refine Cs.put hD3 (cs.same.trans s4) (s4.get cs.at') cs.len (by omega) ?_
    rw [cs.pv,lR,List.map_append,show (6:Int) + (0 + (i:Int))=((6 + i:Nat):Int) by push_cast;omega];rfl
   ·have e3:=cs.at'
    rw [cs.pv,Int.toNat_natCast] at e3
    have s23:=cs.same
    clear cs
    walk_at "l2"
    refine sf (s23.get e2) e3 (by rw [List.length_map,List.length_map,cG,cG,sizeLine_eq];omega) fun D4 H4 f4 s4 e4=>?_
    rw [← List.map_append] at e4
    have s14:=s12.trans (s23.trans s4)
    have e14:=s14.get e1
    have e24:=s4.get (s23.get e2)
    have e34:=s4.get e3
    have hS4:=Same.seq s14 hS1
    have s04:=s1.trans s14
    clear e12 hD2 hD3 f1 f4 s12 s23 s4 s14 e1 e2 e3 hS1 s1
    walk_at "l2"
    intro D5 H5 f5 s5 e5
    have e15:=s5.get e14
    have s05:=s04.trans s5
    have f50:H D5=none:=s04.free f5
    walk_at "l2"
    refine rc (fun i σ H'=>∃ (v9 v10:Option V) (Dk:Addr) (rs:List Rw),σ=[some (V.ref p),some (nat st),some (nat mo),some (V.int c),some (V.ref Z),some (V.ref D2),some (V.ref D3),some (V.ref Dk),some (V.ref D5),v9,v10,none,none,none,none]∧Same H4 H'∧H' Dk=some (.lst ((nms c 0 ni++nms c 6 nt++nms c 22 i).map V.str))∧Dk≠D5∧H' D5=some (.lst (rs.map fun r=>V.ref r.1))∧RwL H' rs∧(∀ r∈rs,r.2.1≠D5)∧Mk c ni nt (rs.map (·.2.2))∧rs.length=i) ⟨none,none,D4,[],rfl,s5,by rw [show nms c 22 0=[] from rfl,List.append_nil];exact s5.get e4,aj e4 f5,e5,fun _ h=>absurd h (by simp),fun _ h=>absurd h (by simp),Mk.nil ..,rfl⟩ ?_ ?_
    ·rintro i σ H' hi ⟨v9,v10,Dk,rs,rfl,s',ek,nk,eD,rl,nr,mk,lr⟩
     have hi6:i < 12:=by omega
     have hS':=Same.seq s' hS4
     walk_at "l2"
     refine ⟨_,10,Dk,_,_,rfl,by decide,by decide,ek,by rw [List.length_append,List.length_append,cG,cG,cG];omega,fun Dw H6 ws f6 s6 e6 l4 hw=>?_⟩
     have eD6:=s6.get eD
     walk_at "l2"
     refine wt (by omega) (by omega) fun H7 s7=>?_
     walk_at "l2"
     intro tr H8 f8 s8 e8
     have s78:=s7.trans s8
     have eD8:=s78.get eD6
     have ek8:=s78.get (s6.get ek)
     have ew8:=s78.get e6
     walk_at "l2"
     refine pJ eD8 (by rw [List.length_map,sizeLine_eq];omega) fun H9 u9=>?_
     have nw:Dw≠D5:=(aj eD f6).symm
     have s'9:Same H4 H9:=fun b o e=>u9.oth _ _ (aj e f5) (s78.get (s6.get (s'.get e)))
     have ek9:=u9.oth _ _ nk ek8
     have et9:=u9.oth _ _ (jq e8 eD8 fun z=>by cases z) e8
     have ew9:=u9.oth _ _ nw ew8
     have rl9:RwL H9 rs:=fun r hr=>⟨u9.oth _ _ (jq ((rl.same s6).same s78 r hr).1 eD8 fun z=>by cases z) ((rl.same s6).same s78 r hr).1,u9.oth _ _ (nr r hr) ((rl.same s6).same s78 r hr).2⟩
     have eD9:=u9.at'
     clear u9 e8 ew8 ek8 eD8 s78 s7 s8 f8 eD6 e6 hS'
     walk_at "l2"
     refine wt (by omega) (by omega) fun H10 s10=>?_
     walk_at "l2"
     intro D11 H11 f11 s11 e11
     have s911:=s10.trans s11
     refine sf (s911.get ek9) e11 (by rw [List.length_map,List.length_append,List.length_append,cG,cG,cG,sizeLine_eq];show _ + 1≤_;omega) fun D12 H12 f12 s12 e12=>?_
     have s912:=s911.trans s12
     have ei:(22:Int) + (0 + (i:Int))=((22 + i:Nat):Int):=by push_cast;omega
     rw [ei] at e12 et9
     have ekn:(nms c 0 ni++nms c 6 nt++nms c 22 i).map V.str++[V.str (nmf c ((22 + i:Nat):Int))]=(nms c 0 ni++nms c 6 nt++nms c 22 (i + 1)).map V.str:=by
      rw [lR,← List.append_assoc,List.map_append (l₂:=[_])];rfl
     rw [ekn] at e12
     walk_at "l2"
     refine ⟨_,_,D12,rs++[(tr,Dw,nmf c ((22 + i:Nat):Int),ws)],rfl,s'9.trans s912,e12,(aj (s911.get eD9) f12).symm,by rw [s912.get eD9,List.map_append];rfl,fun r hr=>?_,fun r hr=>?_,?_,by rw [List.length_append,lr];rfl⟩
     ·rcases List.mem_append.mp hr with h | h
      ·exact rl9.same s912 r h
      ·rw [List.mem_singleton] at h;subst h
       exact ⟨s912.get et9,s912.get ew9⟩
     ·rcases List.mem_append.mp hr with h | h
      ·exact nr r h
      ·rw [List.mem_singleton] at h;subst h;exact nw
     ·have lm:(rs.map (·.2.2)).length=i:=by rw [List.length_map,lr]
      have:=mk.put (ws:=ws) l4 (by rw [lm];exact hw)
      rw [lm] at this
      rw [List.map_append]
      exact this
    ·rintro σ H' ⟨v9,v10,Dk,rs,rfl,s',ek,nk,eD,rl,nr,mk,lr⟩
     rw [Int.toNat_natCast] at lr
     rw [Int.toNat_natCast] at ek
     have e2':=s'.get e24
     have e3':=s'.get e34
     have hS':=Same.seq s' hS4
     have s0':=s04.trans s'
     obtain ⟨j,hj,hjl⟩:=iB (c:=mixV c 4) (m:=(((rs.map fun r=>V.ref r.1).length:Nat):Int) + 1) (by omega)
     have lrm:(rs.map fun r=>V.ref r.1).length=rs.length:=List.length_map ..
     have hjr:j≤rs.length:=by omega
     clear e14 e24 e34 e4 e5 hS4 s04 s05 s5 f5 f50 e15
     walk_at "l2"
     rw [hj]
     intro D6 H6 f6 s6 e6
     rw [HY _ j (by rw [lrm];exact hjr),← List.map_drop] at e6
     have eD6:=s6.get eD
     walk_at "l2"
     refine Lk ?_
     walk_at "l2"
     intro D7 H7 f7 s7 e7
     rw [HW _ j (by rw [lrm];exact hjr),← List.map_take] at e7
     refine ⟨D7,_,rfl,SqL.of e7,fun D8 f8=>?_⟩
     rw [← List.map_reverse]
     have s8:=bF (o:=HO.lst ((rs.take j).reverse.map fun r=>V.ref r.1)) f8
     have e8:upd H7 D8 (HO.lst ((rs.take j).reverse.map fun r=>V.ref r.1)) D8=some (HO.lst ((rs.take j).reverse.map fun r=>V.ref r.1)):=au
     generalize upd H7 D8 (HO.lst ((rs.take j).reverse.map fun r=>V.ref r.1))=H8 at s8 e8 ⊢
     refine sf (s8.get (s7.get e6)) e8 (by rw [List.length_map,List.length_map,List.length_reverse,List.length_drop,List.length_take,sizeLine_eq];omega) fun D9 H9 f9 s9 e9=>?_
     rw [← List.map_append] at e9
     have s'9:=s6.trans (s7.trans (s8.trans s9))
     have e29:=s'9.get e2'
     have e39:=s'9.get e3'
     have ek9:=s'9.get ek
     have rl9:=rl.same s'9
     have s09:=s0'.trans s'9
     have perm:(rs.drop j++(rs.take j).reverse).Perm rs:=by
      refine List.Perm.trans (List.Perm.append_left _ (List.reverse_perm _)) ?_
      refine List.Perm.trans List.perm_append_comm ?_
      rw [List.take_append_drop]
     generalize hrs':rs.drop j++(rs.take j).reverse=rs' at e9 perm
     have rl':RwL H9 rs':=fun r hr=>rl9 r (perm.mem_iff.mp hr)
     clear rl9 rl s8 e8 e7 f7 f8 s7 e6 f6 s6 s9 f9 s'9 e2' e3' eD eD6 nr nk s' s0' hS' ek hrs'
     walk_at "l2"
     intro D10 H10 f10 s10 e10
     have e310:=s10.get e39
     walk_at "l2"
     refine .inl ⟨⟨_,SqL.of e310⟩,?_⟩
     have lk:(nms c 0 ni++nms c 6 nt++nms c 22 nz).length=ni + nt + nz:=by rw [List.length_append,List.length_append,cG,cG,cG]
     generalize hkn:nms c 0 ni++nms c 6 nt++nms c 22 nz=kn at ek9 lk
     refine wa (xs:=(nms c 6 nt).map V.str) (fun i σ H'=>∃ (v9 v13:Option V) (qs:List Qs),σ=[some (V.ref p),some (nat st),some (nat mo),some (V.int c),some (V.ref Z),some (V.ref D2),some (V.ref D3),some (V.ref Dk),some (V.ref D9),v9,v10,some (V.int j),some (V.ref D10),v13,none]∧Same H9 H'∧H' D10=some (.lst (qs.map fun q=>V.ref q.1))∧QsK H' qs∧qs.map (·.2.1)=nms c 6 i∧∀ q∈qs,q.2.2∈kn) ⟨_,none,[],rfl,s10,e10,fun _ h=>absurd h (by simp),rfl,fun _ h=>absurd h (by simp)⟩ (fun i σ H' _ ⟨_,_,_,_,s',_⟩=>SqL.of (s'.get e39)) ?_ ?_
     ·rintro i y σ H' pz H7 hy ⟨v9,v13,qs,rfl,s',eq,qk,qn,qw⟩ fp s7 e7
      obtain ⟨z,hz,rfl⟩:=aX hy
      have hlt:=(List.getElem?_eq_some_iff.mp hz).1
      rw [cG] at hlt
      have ez:z=nmf c ((6 + i:Nat):Int):=by
       unfold nms at hz
       rw [List.getElem?_map,List.getElem?_range hlt] at hz
       exact (Option.some.inj hz).symm
      have lq:qs.length=i:=by have:=congrArg List.length qn;rw [List.length_map,cG] at this;exact this
      have ek7:=s7.get (s'.get ek9)
      have elen:(kn.map V.str).length=ni + nt + nz:=by rw [List.length_map,lk]
      have eq7:=s7.get eq
      walk_at "l2"
      obtain ⟨m,hm,hml⟩:=iB (c:=mixV c (50 + (i:Int))) (m:=(((kn.map V.str).length:Nat):Int)) (by omega)
      have hml:m < kn.length:=by rw [List.length_map] at hml;omega
      have hat:atI (kn.map V.str) (mixV c (50 + (i:Int)) % (((kn.map V.str).length:Nat):Int))=some (.str kn[m]):=by
       rw [hm]
       exact g7 (by rw [List.getElem?_map,List.getElem?_eq_getElem hml];rfl)
      walk_at "l2"
      intro tq H8 f8 s8 e8
      walk_at "l2"
      refine pJ (s8.get eq7) (by rw [List.length_map,sizeLine_eq];omega) fun H9' u9=>?_
      walk_at "l2"
      refine ⟨_,_,qs++[(tq,z,kn[m])],rfl,fun b o e=>u9.oth _ _ (aj e f10) (s8.get (s7.get (s'.get e))),by rw [u9.at',List.map_append];rfl,?_,?_,fun q' hq'=>?_⟩
      ·intro q' hq'
       rcases List.mem_append.mp hq' with h | h
       ·exact ((qk.same s7).same s8).updL (s8.get eq7) u9.oth q' h
       ·rw [List.mem_singleton] at h;subst h
        exact u9.oth _ _ (jq e8 (s8.get eq7) fun z=>by cases z) e8
      ·rw [List.map_append,qn,lR,ez];rfl
      ·rcases List.mem_append.mp hq' with h | h
       ·exact qw q' h
       ·rw [List.mem_singleton] at h;subst h;exact List.getElem_mem hml
     ·rintro σ H' ⟨v9,v13,qs,rfl,s',eq,qk,qn,qw⟩
      rw [List.length_map,cG] at qn
      have ek':=s'.get ek9
      have e2':=s'.get e29
      have e9':=s'.get e9
      have rl2:=rl'.same s'
      walk_at "l2"
      intro D11 H11 f11 s11 e11
      walk_at "l2"
      refine GZ (fun σ H2=>∃ (Do:Addr) (outs:List Str),σ=[some (V.ref p),some (nat st),some (nat mo),some (V.int c),some (V.ref Z),some (V.ref D2),some (V.ref D3),some (V.ref Dk),some (V.ref D9),v9,v10,some (V.int j),some (V.ref D10),v13,some (V.ref Do)]∧Same H' H2∧H2 Do=some (.lst (outs.map V.str))∧outs.length≤3∧∀ z∈outs,z∈kn) ?_ ?_
      ·have ek11:=s11.get ek'
       walk_at "l2"
       intro L12 H12 f12 s12 e12
       have ek12:=s12.get ek11
       refine se (uW ek12) (uW (ws:=[]) e12) (by rw [depD,Aj];decide) ?_
       rw [show (List.map Dt.str [])=[] from rfl,Bl]
       have s'12:=s11.trans s12
       have e1112:=s12.get e11
       by_cases hz:kn=[]
       ·rw [decide_eq_true hz]
        walk_at "l2"
        exact ⟨D11,[],rfl,s'12,e1112,Nat.zero_le _,fun _ h=>absurd h (by simp)⟩
       ·rw [decide_eq_false hz]
        have m0:=Int.emod_nonneg (mixV c 5) (show (4:Int)≠0 by decide)
        have m1:=Int.emod_lt_of_pos (mixV c 5) (show (0:Int) < 4 by decide)
        have hzl:1≤kn.length:=List.length_pos_iff.mpr hz
        have elen:(kn.map V.str).length=kn.length:=List.length_map ..
        walk_at "l2"
        intro D13 hD13
        refine fT (fun i ys H2=>∃ ws:List Str,ys=ws.map V.str∧Same H12 H2∧H2 D13=some (.lst ys)∧ws.length=i∧∀ w∈ws,w∈kn) ⟨[],rfl,bF hD13,au,rfl,fun _ h=>absurd h (by simp)⟩ ?_ ?_
        ·rintro i ys H2 hi ⟨ws,rfl,s2,eD,lw,hw⟩
         have ek2:=s2.get ek12
         have hi4:i < 4:=by omega
         walk_at "l2"
         obtain ⟨m,hm,hml⟩:=iB (c:=mixV c (80 + (0 + (i:Int)))) (m:=(((kn.map V.str).length:Nat):Int)) (by omega)
         have hml:m < kn.length:=by omega
         have hat:atI (kn.map V.str) (mixV c (80 + (0 + (i:Int))) % (((kn.map V.str).length:Nat):Int))=some (.str kn[m]):=by
          rw [hm]
          exact g7 (by rw [List.getElem?_map,List.getElem?_eq_getElem hml];rfl)
         walk_at "l2"
         refine ⟨eD,by rw [List.length_map];exact bz (by omega),ws++[kn[m]],by rw [List.map_append];rfl,fun b o e=>?_,au,by rw [List.length_append,lw];rfl,fun w hw'=>?_⟩
         ·rw [aq (aj e hD13)];exact s2.get e
         ·rcases List.mem_append.mp hw' with h | h
          ·exact hw w h
          ·rw [List.mem_singleton.mp h];exact List.getElem_mem hml
        ·rintro ys H2 ⟨ws,rfl,s2,eD,lw,hw⟩
         walk_at "l2"
         exact ⟨D13,ws,rfl,s'12.trans s2,eD,by omega,hw⟩
      ·rintro σ H12 ⟨Do,outs,rfl,s12,e12,lo,ho⟩
       have e212:=s12.get e2'
       walk_at "l2"
       intro tt H13 f13 s13 e13
       have s'13:=s12.trans s13
       have hzl:(rs.map (·.2.2)).length=nz:=by rw [List.length_map,lr]
       subst hkn
       have aT:∀ q'∈qs.map (·.2),q'.2∈nms c 0 ni++nms c 6 nt++nms c 22 (rs.map (·.2.2)).length:=fun q' hq'=>by
        obtain ⟨q'',hq'',rfl⟩:=List.mem_map.mp hq'
        rw [hzl]
        exact qw q'' hq''
       have aO:∀ z∈outs,z∈nms c 0 ni++nms c 6 nt++nms c 22 (rs.map (·.2.2)).length:=by rw [hzl];exact ho
       have aN:(qs.map (·.2)).map (·.1)=nms c 6 nt:=by rw [List.map_map];exact qn
       refine q tt D2 D9 D10 Do H13 rs' qs ⟨nms c 0 ni,rs'.map (·.2.2),qs.map (·.2),outs⟩ (s09.trans (s'.trans s'13)) e13 ⟨s13.get e212,s'13.get e9',fun r hr=>rl2.same s'13 r hr,rfl,s'13.get eq,fun q' hq'=>qk.same s'13 q' hq',rfl,s13.get e12⟩ (Fa mk hni3 hnt6 (by rw [hzl];exact hnz6) (perm.map _) aN (by omega) aT aO) (by show (nms c 0 ni).length≤3;rw [cG];exact hni3) (by show (rs'.map (·.2.2)).length≤mo;rw [(perm.map _).length_eq,hzl];exact hnzo) (Kd mk hni3 hnt6 (by rw [hzl];exact hnz6) (perm.map _) aN (by omega) aT aO)
end
section
variable {P:Program} {w:World} {K:PySem.W.Frag} {mg:Str→Option Value} {base:Heap} {a:Ad}
local macro_rules | `(tactic| walk_at "l2step") =>`(tactic| first | ((with_reducible refine' c_whole ?e ?_);(case e=>walk_at "l2kind")) | ((with_reducible refine' c_mask ?e ?_);(case e=>walk_at "l2kind")) | (with_reducible refine cM ?_) | (with_reducible refine eV ?_))
local macro_rules | `(tactic| walk_at "l2step") =>`(tactic| first | ((with_reducible refine' wx ?e ?a ?_);(case e=>walk_at "l2hp");(case a=>walk_at "l2side")))
theorem Mg (T:Tx K mg a):FnOk P w K mg base CX0 10 a.yz a.Kz ["_law_script"] (AT K):=by
 have d7:=@og P w K mg base a T
 have Dm:=@zA P w K mg base a T
 have d6:=@sM P w K mg base a T
 have wN:=@sN P w K mg base a T
 have rT:=@xI P w K mg base a T
 have um:=@qg P w K mg base a T
 have uo:=@qh P w K mg base a T
 refine T.Io.ok je (fun vs H Q E h=>?_) (fun cdv A outer s H vs Q E hr h=>?_)
 ·obtain ⟨p,ns,rfl,_⟩:=h;rfl
 ·obtain ⟨p0,ns,rfl,hS,hlen,q⟩:=h
  have hu0:=MB hr
  have hu1:=kl hr
  refine ⟨_,((ah (IK (ay Dm (hr.mono (by decide)) (by rfl) T.CD T.Cy T.nJ .nil a0 (aa (pv 0) (aa am (aa am ad)))) (n0 rfl (bj (av (i:=1) je.nd rfl (by walk_at "o")) (bj (av (i:=2) je.nd rfl (by walk_at "o")) (bj (av (i:=3) je.nd rfl (by walk_at "o")) (bj (av (i:=4) je.nd rfl (by walk_at "o")) fZ))))))
   (u1 (c8 (bw xF (aC cf (aC EW (ay d7 (hr.mono (by decide)) (by rfl) T.gq T.gi T.dq .nil a0 (aa (pv 0) (aa am ad))) am) am) am (bV _)) (ak (bf (i:=2) je.nd rfl (by walk_at "o") (ay wN (hr.mono (by decide)) (by rfl) T.vY T.vQ T.iL .nil a0 (aa (pv 2) ad)))) aW)
   (ah (bf (i:=5) je.nd rfl (by walk_at "o") (cr (osc:=af uU) (ON:=["_law_script","_law_ins","_law_sums","_law_stores","_law_outs","_law_wires_here","_law_handed","_law_net_here","_law_some","_law_thing"]) (N:=["_law_row"]) (n:=1) (fx:=[]) rfl rfl rfl (by decide +kernel) (bx (K:=K) rfl (pv 2)) (bo (by decide)) (fun _ _ _ _ _=>⟨(av (i:=0) (show List.Nodup (["_law_row"]:List Str) from by decide +kernel) rfl (by walk_at "o")),bQ,(aw (bi (K:=K) rfl) (by rfl) T.df PyProof.Rows.boot_list (aa (cj (b6 (K:=K) rfl) (pv 0) am (fun _ _=>rfl)) ad))⟩)))
   (ah (bf (i:=6) je.nd rfl (by walk_at "o") (eS (aa (aw (bi (K:=K) rfl) (by rfl) T.df PyProof.Rows.boot_list (aa (pv 1) ad)) (aa (cr (osc:=af uU) (ON:=["_law_script","_law_ins","_law_sums","_law_stores","_law_outs","_law_wires_here","_law_handed","_law_net_here","_law_some","_law_thing"]) (N:=["_law_k","_law_sums","_law_wires_here"]) (n:=1) (fx:=[2,5]) rfl rfl rfl (by decide +kernel) (eQ (by rfl) T.ir (aa (aB (bu (K:=K) rfl) (by rfl) T.iu PySem.boot_len (aa (pv 2) ad)) ad)) (bo (by decide)) (fun _ _ _ _ _=>⟨(av (i:=0) (show List.Nodup (["_law_k","_law_sums","_law_wires_here"]:List Str) from by decide +kernel) rfl (by walk_at "o")),bQ,(dP (aa (cj (b6 (K:=K) rfl) (cj (b9 (K:=K) rfl) (pv 1) (pv 0) (fun _ _=>rfl)) am (fun _ _=>rfl)) (aa (cj (b9 (K:=K) rfl) (pv 2) (pv 0) (fun _ _=>rfl)) ad)))⟩)) (aa (aw (bi (K:=K) rfl) (by rfl) T.df PyProof.Rows.boot_list (aa (pv 3) ad)) (aa (aw (bi (K:=K) rfl) (by rfl) T.df PyProof.Rows.boot_list (aa (pv 4) ad)) ad))))))
   (u1 (c8 (bw xF (aC cf (ay d7 (hr.mono (by decide)) (by rfl) T.gq T.gi T.dq .nil a0 (aa (pv 0) (aa am ad))) am) am (bV _)) (ak (IK (cr (osc:=af uU) (ON:=["_law_script","_law_ins","_law_sums","_law_stores","_law_outs","_law_wires_here","_law_handed","_law_net_here","_law_some","_law_thing"]) (N:=["_law_row"]) (n:=1) (fx:=[]) rfl rfl rfl (by decide +kernel) (bx (K:=K) rfl (pv 2)) (bo (by decide)) (fun _ _ _ _ _=>⟨(av (i:=0) (show List.Nodup (["_law_row"]:List Str) from by decide +kernel) rfl (by walk_at "o")),bQ,(dP (aa (cj (b6 (K:=K) rfl) (pv 0) am (fun _ _=>rfl)) (aa (aw (b8 (K:=K) rfl) (by rfl) T.ff PyProof.Rows.boot_tuple (aa (cj (b6 (K:=K) rfl) (pv 0) am (fun _ _=>rfl)) ad)) ad)))⟩)) (L5 (pv 6) am GS))) aW)
   (ah (bf (i:=7) je.nd rfl (by walk_at "o") (vc T.NQ uo (hr.mono (by decide)) (by rfl) T.NK T.g6 .nil a0 (aa (cj (b9 (K:=K) rfl) (pv 6) am (fun _ _=>rfl)) (aa (cj (b9 (K:=K) rfl) (pv 6) am (fun _ _=>rfl)) (aa (cj (b9 (K:=K) rfl) (pv 6) am (fun _ _=>rfl)) (aa (cj (b9 (K:=K) rfl) (pv 6) am (fun _ _=>rfl)) ad))))))
   (ah (eP PassesOwn.never rfl (bx (K:=K) rfl (aC jY (pv 5) (pv 6))) (av (i:=8) je.nd rfl (by walk_at "o")) (ak (bW (zz (K:=K) rfl PySem.F.plainAttrs_list PySem.F.slot_list_clear PySem.F.type_list_clear Bd (pv 8)))))
   (ah (c8 (PW.pt (sg (gz (dw (ay rT (hr.mono (by decide)) (by rfl) T.qY T.qU T.iM .nil a0 (aa (pv 7) (aa (pv 1) (aa (pv 2) (aa (pv 3) (aa (pv 4) ad)))))))) (nZ (gz (dw (ay rT (hr.mono (by decide)) (by rfl) T.qY T.qU T.iM .nil a0 (aa (pv 7) (aa (pv 1) (aa (pv 2) (aa (pv 3) (aa (pv 4) ad))))))))))) (ak (aZ i5)) aW)
   (ah (eP PassesOwn.never rfl (bx (K:=K) rfl (eS (aa (ay d6 (hr.mono (by decide)) (by rfl) T.gn T.gh T.dn .nil a0 (aa (ay d7 (hr.mono (by decide)) (by rfl) T.gq T.gi T.dq .nil a0 (aa (pv 0) (aa am ad))) (aa am ad))) (aa fo (aa fo (aa L8 (aa am (aa (eS ad) (aa i5 ad))))))))) (av (i:=9) je.nd rfl (by walk_at "o")) (ak (c8 (gz (dw (ay um (hr.mono (by decide)) (by rfl) T.tS T.tR T.g5 .nil a0 (aa (pv 7) (aa (pv 9) ad))))) (ak (aZ i5)) aW)))
   (ak (aZ i5)))))))))))),aK (σ':=[some _,none,none,none,none,none,none,none,none,none]) rfl ?_⟩
  walk_at "l2"
  refine ⟨p0,ns,1,6,rfl,hS,by decide,by decide,fun t i s u o H1 rs0 qs N0 s1 et hn0 g0 li0 ls0 nmc=>?_⟩
  have hS1:=Same.seq s1 hS
  walk_at "l2"
  refine GZ (fun σ H2=>∃ (s2:Addr) (rs:List Rw) (N:Nt),σ=[some (.ref p0),some (.ref i),some (.ref s2),some (.ref u),some (.ref o),none,none,none,none,none]∧Same H1 H2∧Hnd H2 i s2 u o rs qs N∧Gn N∧nm60 (cell ns 1)∉N.names) ?_ ?_
  ·walk_at "l2"
   by_cases hc:cell ns 0 / 2 % 8=5
   ·refine xl (decide_eq_true (by rw [hc])) ?_
    walk_at "l2"
    refine ⟨s,rs0,N0,rfl,hn0.s,hn0.sr,hn0.es,by omega,fun D H2 rs2 fD s2 eD rk er=>?_⟩
    have hn2:=hn0.same s2
    walk_at "l2"
    exact ⟨D,rs2,(lad N0).rev,rfl,s2,⟨hn2.i,eD,rk,er,hn2.t,hn2.tr,hn2.et,hn2.o⟩,(g0.lad nmc).rev,fun h=>nmc.noL (Nt.rev_mem.mp h)⟩
   ·refine kZ (decide_eq_false fun z=>hc (V.int.inj z)) ?_
    walk_at "l2"
    exact ⟨s,rs0,N0,rfl,Same.refl _,hn0,g0,nmc.no⟩
  ·rintro σ H2 ⟨s2,rs,N,rfl,s12,hn,g,hno⟩
   have hS2:=Same.seq s12 hS1
   have hs2:=hn.s
   have li:=g.li
   have ls:=g.ls
   have lt:=g.lt
   have lo:=g.lo
   have lrs:rs.length=N.sums.length:=by rw [← hn.es,List.length_map]
   have lqs:qs.length=N.sts.length:=by rw [← hn.et,List.length_map]
   walk_at "l2"
   intro Dw hDw
   refine bT (xs:=rs.map fun r=>V.ref r.1) (fun j ys H'=>Co (fun j=> .lst ((rs.getD j (0,0,"",[])).2.2.2.map V.str)) H2 Dw j ys H') (KB hDw) (fun j ys H' _ ⟨_,_,_,_,_,s',_⟩=>SqL.of (s'.get hs2)) (fun j v ys HB hv c=>?_) (fun ys H3 c=>?_)
   ·obtain ⟨r,hr',rfl⟩:=aX hv
    have c':=c
    obtain ⟨_,eqs,lq,pa,pf,sB,eDB⟩:=c'
    have hj:=(List.getElem?_eq_some_iff.mp hr').1
    have hm:=List.mem_of_getElem? hr'
    have er:=sB.get (hn.sr r hm).1
    have ew:=sB.get (hn.sr r hm).2
    have hgd:rs.getD j (0,0,"",[])=r:=by rw [List.getD_eq_getElem?_getD,hr'];rfl
    walk_at "l2"
    intro Dn H9 f9 s9 e9
    exact MO hDw c s9 f9 (by rw [e9,hgd]) (by omega)
   obtain ⟨ws,rfl,lws,aws,fws,s23,eDw⟩:=c
   rw [List.length_map] at lws
   have hn3:=hn.same s23
   have hi3:=hn3.i
   walk_at "l2"
   intro A4 H4 f4 s4 e4
   have hs4:=s4.get hn3.s
   have eDw4:=s4.get eDw
   have s24:=s23.trans s4
   walk_at "l2"
   rw [List.length_map]
   refine ⟨by omega,by omega,?_⟩
   rw [Int.toNat_natCast]
   intro B4 hB4
   refine fT (fun j ys H'=>∃ rs':List Rw,ys=rs'.map (fun r=>V.ref r.1)∧rs'.length=j∧rs'.map (·.2.2)=(rs.take j).map (·.2.2)∧(∀ (k:Nat) (r:Rw),rs'[k]? =some r→H' r.1=some (.tup [.str r.2.2.1,.ref r.2.1])∧ws[k]? =some r.2.1)∧Same H4 H'∧H' B4=some (.lst ys)) ⟨[],rfl,rfl,rfl,fun k r h=>by simp at h,bF hB4,au⟩ ?_ ?_
   ·rintro j ys H' hj ⟨rs',rfl,lr',er',hk',s',eB⟩
    have ei:(0:Int) + (j:Int)=(j:Int):=Int.zero_add _
    have hr':=List.getElem?_eq_getElem (l:=rs) (i:=j) (by omega)
    have hw':=List.getElem?_eq_getElem (l:=ws) (i:=j) (by omega)
    have hm:=List.mem_of_getElem? hr'
    generalize rs[j]=r at hr' hm
    generalize ws[j]=w' at hw'
    have es':=s'.get hs4
    have ew':=s'.get eDw4
    have er:=(s24.trans s').get (hn.sr r hm).1
    have g1:atI (rs.map fun r=>V.ref r.1) (j:Int)=some (.ref r.1):=g7 (by rw [List.getElem?_map,hr'];rfl)
    have g2:atI (ws.map V.ref) (j:Int)=some (.ref w'):=g7 (by rw [List.getElem?_map,hw'];rfl)
    rw [ei]
    walk_at "l2"
    intro t7 H7 f7 s7 e7
    have eB7:=s7.get eB
    have nt:t7≠B4:=fun z=>by rw [z,eB] at f7;cases f7
    refine ⟨eB7,by rw [List.length_map,lr'];exact bz (by omega),rs'++[(t7,w',r.2.2)],by rw [List.map_append];rfl,by rw [List.length_append,lr'];rfl,by rw [List.map_append,er',take_succ hr',List.map_append];rfl,fun k r2 hk=>?_,fun b ob e=>?_,au⟩
    ·by_cases hkl:k < rs'.length
     ·rw [List.getElem?_append_left hkl] at hk
      obtain ⟨a1,a2⟩:=hk' k r2 hk
      refine ⟨?_,a2⟩
      rw [aq (fun z=>by rw [z,eB] at a1;cases a1)];exact s7.get a1
     ·rw [List.getElem?_append_right (by omega)] at hk
      have hz:k - rs'.length=0:=by
       cases e:k - rs'.length with
       | zero=>rfl
       | succ m=>rw [e] at hk;simp at hk
      rw [hz] at hk
      have hk:r2=(t7,w',r.2.2):=(Option.some.inj hk).symm
      have hkj:k=j:=by omega
      rw [hk,hkj]
      exact ⟨by rw [aq nt];exact e7,hw'⟩
    ·rw [aq (aj e hB4)];exact s7.get (s'.get e)
   rintro ys H5 ⟨rs',rfl,lr',er',hk',s5,eB5⟩
   rw [show rs.take rs.length=rs from List.take_length,hn.es] at er'
   have s25:=s24.trans s5
   have s35:=s4.trans s5
   have hn5:=hn.same s25
   have hu5:=hn5.t
   walk_at "l2"
   intro C5 H6 f6 s6 e6
   have ho6:=s6.get hn5.o
   walk_at "l2"
   intro D6 H7 f7 s7 e7
   walk_at "l2"
   intro Dh H8 f8 s8 e8
   have s58:=s6.trans (s7.trans s8)
   have s38:=s35.trans s58
   have s28:=s25.trans s58
   have ew8:∀ w'∈ws,∃ ys,H8 w'=some (.lst ys):=fun w' hw=>by
    obtain ⟨j,hj,ej⟩:=List.mem_iff_getElem.mp hw
    exact ⟨_,s38.get (aws j w' (by rw [List.getElem?_eq_getElem hj,ej]))⟩
   have sr8:∀ r∈rs',H8 r.1=some (.tup [.str r.2.2.1,.ref r.2.1])∧(H8 r.2.1=some (.lst (r.2.2.2.map V.str))∨H8 r.2.1=some (.tup (r.2.2.2.map V.str))):=fun r hr2=>by
    obtain ⟨k,hk,ek⟩:=List.mem_iff_getElem.mp hr2
    have hgk:rs'[k]? =some r:=by rw [List.getElem?_eq_getElem hk,ek]
    obtain ⟨a1,a2⟩:=hk' k r hgk
    refine ⟨s58.get a1,.inl ?_⟩
    have:=s38.get (aws k r.2.1 a2)
    have hrr:(rs.getD k (0,0,"",[])).2.2=r.2.2:=by
     have h1:=congrArg (·[k]?) (er'.trans hn.es.symm)
     simp only [List.getElem?_map,hgk] at h1
     rw [List.getD_eq_getElem?_getD]
     cases e:rs[k]? with
     | none=>rw [e] at h1;cases h1
     | some r0=>rw [e] at h1;exact (Option.some.inj h1).symm
    dsimp only at this
    rw [this,hrr]
   have hA8:Hnd2 H8 A4 B4 C5 D6 rs' qs N:=⟨s58.get (s5.get e4),s58.get eB5,sr8,er',(s7.trans s8).get e6,fun q' hq'=>s28.get (hn.tr q' hq'),hn.et,s8.get e7⟩
   have fA4:H2 A4=none:=s23.free f4
   have fB4:H2 B4=none:=s24.free hB4
   have fC5:H2 C5=none:=s25.free f6
   have fD6:H2 D6=none:=s25.free (s6.free f7)
   have fDh:H2 Dh=none:=s25.free (s6.free (s7.free f8))
   have hS8:=Same.seq s28 hS2
   have hs8:=s28.get hn.s
   have eDw8:=s38.get eDw
   have e8':=e8
   refine GZ (fun σ H'=>∃ (B:Addr) (rsX:List Rw),σ=[some (.ref p0),some (.ref i),some (.ref s2),some (.ref u),some (.ref o),some (.ref Dw),some (.ref Dh),none,none,none]∧Same H2 H'∧Hnd2 H' A4 B C5 D6 rsX qs N∧H' Dh=some (.lst [.ref A4,.ref B,.ref C5,.ref D6])∧H' Dw=some (.lst (ws.map V.ref))∧(∀ w'∈ws,∃ ys,H' w'=some (.lst ys))∧H2 B=none) ?_ ?_
   ·walk_at "l2"
    by_cases hc:cell ns 0 % 2=1
    ·refine xl (decide_eq_true (by rw [hc])) ?_
     walk_at "l2"
     intro B9 hB9
     refine bT (xs:=rs.map fun r=>V.ref r.1) (fun i ys H'=>∃ rs9:List Rw,ys=rs9.map (fun r=>V.ref r.1)∧rs9.map (·.2.2)=(rs.take i).map (·.2.2)∧RwK H' rs9∧Same H8 H'∧H' B9=some (.lst ys)) ⟨[],rfl,rfl,fun _ h=>absurd h (by simp),bF hB9,au⟩ (fun i ys H' _ ⟨_,_,_,_,s',_⟩=>SqL.of (s'.get hs8)) ?_ ?_
     ·rintro j y ys H' hy ⟨rs9,rfl,hrs,hk,s',eD⟩
      obtain ⟨r,hr',rfl⟩:=aX hy
      have hlt:=(List.getElem?_eq_some_iff.mp hr').1
      have hm:=List.mem_of_getElem? hr'
      have er:=(s28.trans s').get (hn.sr r hm).1
      have ew:=(s28.trans s').get (hn.sr r hm).2
      have hlen9:rs9.length=j:=by have:=congrArg List.length hrs;rw [List.length_map,List.length_map,List.length_take] at this;omega
      walk_at "l2"
      intro tw H11 f11 s11 e11
      walk_at "l2"
      intro tr H12 f12 s12 e12
      have ntr:tr≠B9:=fun z=>(by rw [z,s11.get eD] at f12;cases f12)
      have ntw:tw≠B9:=fun z=>(by rw [z,eD] at f11;cases f11)
      have eD12:=s12.get (s11.get eD)
      refine ⟨eD12,by rw [List.length_map];exact bz (by omega),rs9++[(tr,tw,r.2.2)],by rw [List.map_append];rfl,by rw [List.map_append,hrs,take_succ hr',List.map_append];rfl,fun r2 h2=>?_,fun b ob e=>?_,au⟩
      ·rcases List.mem_append.mp h2 with h2 | h2
       ·exact ((hk.same s11).same s12).updL eD12 (fun b ob n e=>by rw [aq n];exact e) r2 h2
       ·rw [List.mem_singleton] at h2;subst h2
        exact ⟨by rw [aq ntr];exact e12,by rw [aq ntw];exact s12.get e11⟩
      ·rw [aq (aj e hB9)]
       exact s12.get (s11.get (s'.get e))
     ·rintro ys H9 ⟨rs9,rfl,hrs,hk,s9,eB9⟩
      rw [List.length_map,List.take_length,hn.es] at hrs
      have eh9:=s9.get e8
      have ne7:∀ (b:Addr) (o:HO),H7 b=some o→b≠Dh:=fun b o e z=>by rw [z,f8] at e;cases e
      have s57:=s6.trans s7
      have s29:=s28.trans s9
      show gSub (tVar 6) (tC (V.int 1)) JH (V.ref B9) [some (.ref p0),some (.ref i),some (.ref s2),some (.ref u),some (.ref o),some (.ref Dw),some (.ref Dh),none,none,none] H9 _
      refine Lz ?_
      walk_at "l2"
      refine Lh (j:=1) eh9 (by show 1 < 4;decide) fun HX uX=>?_
      have tu:∀ {b:Addr} {xs:List V},H9 b=some (.tup xs)→HX b=some (.tup xs):=fun {b xs} e=>uX.oth _ _ (fun z=>by rw [z,eh9] at e;cases e) e
      refine ⟨B9,rs9,rfl,uX.same fDh s29,⟨uX.oth _ _ (ne7 _ _ (s57.get (s5.get e4))) (s9.get hA8.i),uX.oth _ _ (fun z=>by rw [z,e8] at hB9;cases hB9) eB9,fun r hr2=>⟨tu (hk r hr2).1,.inr (tu (hk r hr2).2)⟩,hrs,uX.oth _ _ (ne7 _ _ (s7.get e6)) (s9.get hA8.t),fun q' hq'=>tu (s9.get (hA8.tr q' hq')),hn.et,uX.oth _ _ (ne7 _ _ e7) (s9.get hA8.o)⟩,uX.at',uX.oth _ _ (ne7 _ _ (s57.get (s35.get eDw))) (s9.get eDw8),fun w' hw=>?_,s28.free hB9⟩
      obtain ⟨j,hj,ej⟩:=List.mem_iff_getElem.mp hw
      have h3:=aws j w' (by rw [List.getElem?_eq_getElem hj,ej])
      exact ⟨_,uX.oth _ _ (ne7 _ _ (s57.get (s35.get h3))) (s9.get (s38.get h3))⟩
    ·refine kZ (decide_eq_false fun z=>hc (V.int.inj z)) ?_
     walk_at "l2"
     exact ⟨B4,rs',rfl,s28,hA8,e8,eDw8,ew8,fB4⟩
   ·rintro σ H9 ⟨B,rsX,rfl,s29,hA9,eh9,ew9,hw9,fB⟩
    walk_at "l2"
    intro x dx HA fA sA eA
    refine ⟨x,dx,A4,B,C5,D6,rsX,qs,N,rfl,eA,hA9.same sA,g,fun HB od kB naB=>⟨rfl,?_⟩⟩
    have s9B:Same H9 HB:=fun b ob e=>kB _ _ (aj e fA) (sA.get e)
    have s2B:=s29.trans s9B
    have ewB:=s9B.get ew9
    have ehB:=s9B.get eh9
    have hAB:=hA9.same s9B
    walk_at "l2"
    refine sf ewB ehB (by rw [List.length_map,lws,sizeLine_eq];show rs.length + 4≤_;omega) fun DX HC fC sC eC=>?_
    have s2C:=s2B.trans sC
    have naC:=naB.same sC
    have hAC:=hAB.same sC
    obtain ⟨bs,ebs⟩:∃ bs:List Addr,bs=ws++[A4,B,C5,D6]:=⟨_,rfl⟩
    have eC:HC DX=some (.lst (bs.map V.ref)):=by rw [eC,ebs,List.map_append];rfl
    have all:∀ b∈bs,H2 b=none∧(∃ ys,HC b=some (.lst ys))∧b≠DX:=fun b hb=>by
     have key:H2 b=none∧∃ ys,HB b=some (.lst ys):=by
      rw [ebs] at hb
      rcases List.mem_append.mp hb with h | h
      ·obtain ⟨ys,hy⟩:=hw9 b h
       exact ⟨(fws b h).1,ys,s9B.get hy⟩
      ·simp only [List.mem_cons,List.not_mem_nil,or_false] at h
       rcases h with rfl | rfl | rfl | rfl
       ·exact ⟨fA4,_,hAB.i⟩
       ·exact ⟨fB,_,hAB.s⟩
       ·exact ⟨fC5,_,hAB.t⟩
       ·exact ⟨fD6,_,hAB.o⟩
     obtain ⟨k1,ys,k2⟩:=key
     exact ⟨k1,⟨ys,sC.get k2⟩,fun z=>by rw [z,fC] at k2;cases k2⟩
    obtain ⟨R,eR⟩:∃ R:Addr→Prop,R=fun b=>b∈bs:=⟨_,rfl⟩
    have hRC:∀ b,R b→∃ ys,HC b=some (.lst ys):=fun b hb=>by rw [eR] at hb;exact (all b hb).2.1
    have naV:=naC.lessL hRC
    obtain ⟨Hv,eHv⟩:∃ Hv,Hv=less HC R:=⟨_,rfl⟩
    rw [← eHv] at naV
    have svC:Same Hv HC:=by rw [eHv];exact Fd
    have s2v:Same H2 Hv:=by rw [eHv];exact Eo s2C fun b hb=>by rw [eR] at hb;exact (all b hb).1
    have vR:∀ b∈bs,Hv b=none:=fun b hb=>by rw [eHv];exact Fe (by rw [eR];exact hb)
    have hnv:=hn.same s2v
    have hSv:=Same.seq s2v hS2
    clear naC hAC hAB ehB ewB naB kB
    walk_at "l2"
    refine iy (xs:=bs.map V.ref) (fun j σ H'=>∃ v8,σ=[some (.ref p0),some (.ref i),some (.ref s2),some (.ref u),some (.ref o),some (.ref Dw),some (.ref Dh),some (.ref x),v8,none]∧Same Hv H'∧H' DX=some (.lst (bs.map V.ref))∧∀ b∈bs,∃ ys,H' b=some (.lst ys)) ⟨none,rfl,svC,eC,fun b hb=>(all b hb).2.1⟩ (fun j σ H' _ ⟨_,_,_,e,_⟩=>SqL.of e) ?_ ?_
    ·rintro j y σ H' hy ⟨v8,rfl,s',e',hl'⟩
     obtain ⟨b,hb,rfl⟩:=aX hy
     have hbm:=List.mem_of_getElem? hb
     obtain ⟨ys,eb⟩:=hl' b hbm
     walk_at "l2"
     refine Ew eb fun H2' u2=>?_
     walk_at "l2"
     refine ⟨u2.same (vR b hbm) s',u2.oth _ _ (all b hbm).2.2.symm e',fun b2 hb2=>?_⟩
     by_cases hz:b2=b
     ·rw [hz];exact ⟨_,u2.at'⟩
     ·obtain ⟨ys2,e2'⟩:=hl' b2 hb2
      exact ⟨ys2,u2.oth _ _ hz e2'⟩
    ·rintro σ HD ⟨v8,rfl,sD,_,_⟩
     have naD:=naV.same sD
     have hnD:=hnv.same sD
     walk_at "l2"
     refine ⟨x,i,s2,u,o,N,od,rs,qs,rfl,naD,hnD,g,fun HE sE=>?_⟩
     refine ⟨true,rfl,?_⟩
     rw [if_neg (by decide)]
     walk_at "l2"
     refine ⟨x,i,s2,u,o,N,od,rs,qs,rfl,naD.same sE,hnD.same sE,g,fun HF sF=>?_⟩
     refine ⟨true,rfl,?_⟩
     rw [if_neg (by decide)]
     have naF:=(naD.same sE).same sF
     have hSF:=Same.seq (sD.trans (sE.trans sF)) hSv
     walk_at "l2"
     refine ⟨cell ns 1,rfl,fun HG sG=>?_⟩
     walk_at "l2"
     intro E1 HH fH sH eH
     walk_at "l2"
     intro E2 HI fI sI eI
     have naI:=((naF.same sG).same sH).same sI
     have eE1:=sI.get eH
     have hall:∀ v∈[V.str (nm60 (cell ns 1)),.str "",.str "A",.non,.int 7,.ref E1,.bl true],(∃ k,Thg HI v k)∧∀ z∈N.names,v≠.str z:=fun v hv=>by
      simp only [List.mem_cons,List.not_mem_nil,or_false] at hv
      rcases hv with rfl | rfl | rfl | rfl | rfl | rfl | rfl
      ·exact ⟨⟨_,.sc (.str _ (by rw [He];decide))⟩,fun z hz e=>hno (by cases e;exact hz)⟩
      ·exact ⟨⟨_,.sc (.str _ (by decide))⟩,fun z hz e=>by cases e;exact absurd (g.nm _ hz) (by unfold Nm;decide +kernel)⟩
      ·exact ⟨⟨_,.sc (.str _ (by decide))⟩,fun z hz e=>by cases e;exact absurd (g.nm _ hz) (by unfold Nm;decide +kernel)⟩
      ·exact ⟨⟨_,.sc .non⟩,fun z hz e=>by cases e⟩
      ·exact ⟨⟨_,.sc (.int 7)⟩,fun z hz e=>by cases e⟩
      ·exact ⟨⟨_,.nil eE1⟩,fun z hz e=>by cases e⟩
      ·exact ⟨⟨_,.sc (.bl true)⟩,fun z hz e=>by cases e⟩
     have eI:HI E2=some (.lst [V.str (nm60 (cell ns 1)),.str "",.str "A",.non,.int 7,.ref E1,.bl true]):=eI
     generalize [V.str (nm60 (cell ns 1)),.str "",.str "A",.non,.int 7,.ref E1,.bl true]=things at hall eI
     walk_at "l2"
     refine iy (xs:=things) (fun j σ H'=>∃ v9,σ=[some (.ref p0),some (.ref i),some (.ref s2),some (.ref u),some (.ref o),some (.ref Dw),some (.ref Dh),some (.ref x),v8,v9]∧Same HI H') ⟨none,rfl,Same.refl _⟩ (fun j σ H' _ ⟨_,_,s'⟩=>SqL.of (s'.get eI)) ?_ ?_
     ·rintro j y σ H' hy ⟨v9,rfl,s'⟩
      obtain ⟨⟨k,th⟩,hno'⟩:=hall y (List.mem_of_getElem? hy)
      walk_at "l2"
      refine ⟨x,N,od,y,k,rfl,naI.same s',th.same s',hno',fun HJ sJ=>?_⟩
      refine ⟨true,rfl,?_⟩
      rw [if_neg (by decide)]
      walk_at "l2"
      exact s'.trans sJ
     ·rintro σ H' ⟨v9,rfl,s'⟩
      walk_at "l2"
      exact q H'
end
open PySem.W in
theorem all_mk {l:OpenLaw} {w:World} {K:Frag} {h:Heap} {mg:Str→Option Value} {fa:Addr} (X:K.In h) (G:h.Ns mainGlobals mg) (hfa:mg "law"=some (.ref fa))
  {JW KD:Option Addr} {Jp:Array (Option Value)} {JX Kh Kw JN FV KA:Value} {j6:Addr}
  {lH mq:Option Addr} {kS:Array (Option Value)} {lL lX l7 la gJ me:Value} {aJ:Addr}
  {oP pD:Option Addr} {oF:Array (Option Value)} {oS pe pj oK i3 pr:Value} {ba:Addr}
  {lI mr:Option Addr} {kT:Array (Option Value)} {lM lY l8 lb gK mf:Value} {aE:Addr}
  {ku kM:Option Addr} {kg:Array (Option Value)} {ky kC kD kq gv kI:Value} {aA:Addr}
  {jm jJ:Option Addr} {jd:Array (Option Value)} {jn jy jA jg eT jD:Value} {ax:Addr}
  {B7 Db:Option Addr} {BS:Array (Option Value)} {Ca Cv CO BZ uK CQ:Value} {dG:Addr}
  {sP ug:Option Addr} {rX:Array (Option Value)} {sU tM tV si j8 t6:Value} {bJ:Addr}
  {sQ uh:Option Addr} {rY:Array (Option Value)} {sV tN tW sj j9 t8:Value} {bK:Addr}
  {ve wB:Option Addr} {uR:Array (Option Value)} {vg vL wj u8 mh wm:Value} {b3:Addr}
  {sO uf:Option Addr} {rW:Array (Option Value)} {sT tL tU sh j7 tZ:Value} {bI:Addr}
  {oO pC:Option Addr} {oE:Array (Option Value)} {oR pd pi oJ i0 pq:Value} {bq:Addr}
  {Ha Ie:Option Addr} {GR:Array (Option Value)} {Hb Hu HV G5 Bs HZ:Value} {iz:Addr}
  {B6 Da:Option Addr} {BR:Array (Option Value)} {B8 Cu CM BY uJ CP:Value} {dF:Addr}
  {qm rO:Option Addr} {pU:Array (Option Value)} {qr qR rm p8 jH rB:Value} {be:Addr}
  {ql rN:Option Addr} {pS:Array (Option Value)} {qq qP rj p7 jG rA:Value} {bc:Addr}
  {qj rM:Option Addr} {pR:Array (Option Value)} {qp qO rh p6 jF rz:Value} {bb:Addr}
  {mO nN:Option Addr} {mD:Array (Option Value)} {mQ m9 nn mH ig nB:Value} {aI:Addr}
  {oQ pE:Option Addr} {oG:Array (Option Value)} {oU ph pp oM i4 py:Value} {aP:Addr}
  {zE AB:Option Addr} {zn:Array (Option Value)} {zH z7 Am zy rE Ar:Value} {ci:Addr}
  {mM nM:Option Addr} {mC:Array (Option Value)} {mP m8 nj mG ie ny:Value} {aH:Addr}
  {sS uj:Option Addr} {r6:Array (Option Value)} {sX tP tY so kb ua:Value} {bt:Addr}
  {xO y2:Option Addr} {xh:Array (Option Value)} {xT yh yJ xz oy yO:Value} {bR:Addr}
  {xN y1:Option Addr} {xg:Array (Option Value)} {xS yg yI xy ou yN:Value} {cw:Addr}
  {zD AA:Option Addr} {zm:Array (Option Value)} {zG z6 Al zw rD Aq:Value} {cT:Addr}
  {xL yZ:Option Addr} {xa:Array (Option Value)} {xQ ye yG xw om yL:Value} {b7:Addr}
  {vf wC:Option Addr} {uS:Array (Option Value)} {vh vM wk va mi wn:Value} {b4:Addr}
  {zC Az:Option Addr} {zk:Array (Option Value)} {zF z5 Ak zv rC Ap:Value} {cS:Addr}
  {xK yY:Option Addr} {w9:Array (Option Value)} {xP yd yF xv oj yK:Value} {cu:Addr}
  {sR ui:Option Addr} {rZ:Array (Option Value)} {sW tO tX sk ka t9:Value} {bL:Addr}
  {qi rL:Option Addr} {pQ:Array (Option Value)} {qo qN rg p5 jE rq:Value} {bB:Addr}
  {lF mm:Option Addr} {kQ:Array (Option Value)} {lJ lV l5 k7 gH l9:Value} {aR:Addr}
  {lG mn:Option Addr} {kR:Array (Option Value)} {lK lW l6 k8 gI md:Value} {aS:Addr}
  {xM y0:Option Addr} {xc:Array (Option Value)} {xR yf yH xx oq yM:Value} {cv:Addr}
  {Mh MS:Option Addr} {Lb:Array (Option Value)} {Mi Mq MM LY IV MN:Value} {yz:Addr}
  {aV:Addr} (MW:nsIn K mainGlobals "Wire"=some (some (.ref aV)))
  {al:Addr} (Ih:nsIn K mainGlobals "InWire"=some (some (.ref al)))
  {ai:Addr} (F9:nsIn K mainGlobals "SumWire"=some (some (.ref ai)))
  {ae:Addr} (AH:nsIn K mainGlobals "StoreWire"=some (some (.ref ae)))
  {aQ:Addr} (NN:nsIn K mainGlobals "Net"=some (some (.ref aQ)))
  {bU:Addr} (AG:nsIn K mainGlobals "WireError"=some (some (.ref bU)))
  {bE:Addr} (F8:nsIn K mainGlobals "TooMany"=some (some (.ref bE)))
  {ao:Addr} (Ig:nsIn K mainGlobals "NoWire"=some (some (.ref ao)))
  (MV:nsIn K mainGlobals "kept"=some (some (.ref j6)))
  (Mp:K.lookup j6=some ⟨JX,JW,.func (fnOf "kept" "kept" (aF pZ) (aD pZ) (af pZ) .none Kh Kw JN KD FV KA),Jp⟩)
  (MP:codeIn K FV "kept"=true)
  (IM:keepIn K (.ref j6)=true)
  (mz:findIn K (.ref ao) "__init__"=some (some (.ref aJ)))
  (m5:K.lookup aJ=some ⟨lL,lH,.func (fnOf "__init__" "NoWire.__init__" (aF bN) (aD bN) (af bN) .none lX l7 la mq gJ me),kS⟩)
  (nH:codeIn K gJ "NoWire.__init__"=true)
  (h7:keepIn K (.ref aJ)=true)
  (DN:findIn K (.ref aV) "__init__"=some (some (.ref ba)))
  (qL:K.lookup ba=some ⟨oS,oP,.func (fnOf "__init__" "Wire.__init__" (aF cb) (aD cb) (af cb) .none pe pj oK pD i3 pr),oF⟩)
  (rH:codeIn K i3 "Wire.__init__"=true)
  (gb:keepIn K (.ref ba)=true)
  (BD:findIn K (.ref al) "__init__"=some (some (.ref aE)))
  (m7:K.lookup aE=some ⟨lM,lI,.func (fnOf "__init__" "InWire.__init__" (aF bO) (aD bO) (af bO) .none lY l8 lb mr gK mf),kT⟩)
  (nI:codeIn K gK "InWire.__init__"=true)
  (h8:keepIn K (.ref aE)=true)
  (AR:findIn K (.ref ai) "__init__"=some (some (.ref aA)))
  (lU:K.lookup aA=some ⟨ky,ku,.func (fnOf "__init__" "SumWire.__init__" (aF bG) (aD bG) (af bG) .none kC kD kq kM gv kI),kg⟩)
  (mj:codeIn K gv "SumWire.__init__"=true)
  (gA:keepIn K (.ref aA)=true)
  (zc:findIn K (.ref ae) "__init__"=some (some (.ref ax)))
  (jS:K.lookup ax=some ⟨jn,jm,.func (fnOf "__init__" "StoreWire.__init__" (aF bv) (aD bv) (af bv) .none jy jA jg jJ eT jD),jd⟩)
  (jU:codeIn K eT "StoreWire.__init__"=true)
  (fu:keepIn K (.ref ax)=true)
  (F7:nsIn K mainGlobals "is_name"=some (some (.ref dG)))
  (Fh:K.lookup dG=some ⟨Ca,B7,.func (fnOf "is_name" "is_name" (aF fV) (aD fV) (af fV) .none Cv CO BZ Db uK CQ),BS⟩)
  (F1:codeIn K uK "is_name"=true)
  (xC:keepIn K (.ref dG)=true)
  (wE:nsIn K mainGlobals "check_sizes"=some (some (.ref bJ)))
  (vH:K.lookup bJ=some ⟨sU,sP,.func (fnOf "check_sizes" "check_sizes" (aF cn) (aD cn) (af cn) .none tM tV si ug j8 t6),rX⟩)
  (wv:codeIn K j8 "check_sizes"=true)
  (lu:keepIn K (.ref bJ)=true)
  (wF:nsIn K mainGlobals "check_names"=some (some (.ref bK)))
  (vI:K.lookup bK=some ⟨sV,sQ,.func (fnOf "check_names" "check_names" (aF cO) (aD cO) (af cO) .none tN tW sj uh j9 t8),rY⟩)
  (ww:codeIn K j9 "check_names"=true)
  (lx:keepIn K (.ref bK)=true)
  (y3:nsIn K mainGlobals "check_wire"=some (some (.ref b3)))
  (yb:K.lookup b3=some ⟨vg,ve,.func (fnOf "check_wire" "check_wire" (aF du) (aD du) (af du) .none vL wj u8 wB mh wm),uR⟩)
  (yS:codeIn K mh "check_wire"=true)
  (n8:keepIn K (.ref b3)=true)
  (wD:nsIn K mainGlobals "check_wires"=some (some (.ref bI)))
  (vG:K.lookup bI=some ⟨sT,sO,.func (fnOf "check_wires" "check_wires" (aF cN) (aD cN) (af cN) .none tL tU sh uf j7 tZ),rW⟩)
  (wu:codeIn K j7 "check_wires"=true)
  (lh:keepIn K (.ref bI)=true)
  (rP:nsIn K mainGlobals "wires_by_name"=some (some (.ref bq)))
  (qK:K.lookup bq=some ⟨oR,oO,.func (fnOf "wires_by_name" "wires_by_name" (aF a9) (aD a9) (af a9) .none pd pi oJ pC i0 pq),oE⟩)
  (rG:codeIn K i0 "wires_by_name"=true)
  (ji:keepIn K (.ref bq)=true)
  (KG:nsIn K mainGlobals "waits"=some (some (.ref iz)))
  (Kg:K.lookup iz=some ⟨Hb,Ha,.func (fnOf "waits" "waits" (aF kj) (aD kj) (af kj) .none Hu HV G5 Ie Bs HZ),GR⟩)
  (KC:codeIn K Bs "waits"=true)
  (ET:keepIn K (.ref iz)=true)
  (F6:nsIn K mainGlobals "ordered"=some (some (.ref dF)))
  (Fg:K.lookup dF=some ⟨B8,B6,.func (fnOf "ordered" "ordered" (aF eO) (aD eO) (af eO) .none Cu CM BY Da uJ CP),BR⟩)
  (FZ:codeIn K uJ "ordered"=true)
  (xB:keepIn K (.ref dF)=true)
  (Gk:findIn K (.ref aQ) "__init__"=some (some (.ref be)))
  (tK:K.lookup be=some ⟨qr,qm,.func (fnOf "__init__" "Net.__init__" (aF bp) (aD bp) (af bp) .none qR rm p8 rO jH rB),pU⟩)
  (ue:codeIn K jH "Net.__init__"=true)
  (jX:keepIn K (.ref be)=true)
  (Gj:findIn K (.ref aQ) "in_names"=some (some (.ref bc)))
  (tJ:K.lookup bc=some ⟨qq,ql,.func (fnOf "in_names" "Net.in_names" (aF cA) (aD cA) (af cA) .none qP rj p7 rN jG rA),pS⟩)
  (ud:codeIn K jG "Net.in_names"=true)
  (gT:keepIn K (.ref bc)=true)
  (Gi:findIn K (.ref aQ) "sum_rows"=some (some (.ref bb)))
  (tI:K.lookup bb=some ⟨qp,qj,.func (fnOf "sum_rows" "Net.sum_rows" (aF cz) (aD cz) (af cz) .none qO rh p6 rM jF rz),pR⟩)
  (uc:codeIn K jF "Net.sum_rows"=true)
  (gS:keepIn K (.ref bb)=true)
  (Dy:findIn K (.ref aQ) "store_rows"=some (some (.ref aI)))
  (pc:K.lookup aI=some ⟨mQ,mO,.func (fnOf "store_rows" "Net.store_rows" (aF bY) (aD bY) (af bY) .none m9 nn mH nN ig nB),mD⟩)
  (pB:codeIn K ig "Net.store_rows"=true)
  (eZ:keepIn K (.ref aI)=true)
  (DO:findIn K (.ref aQ) "out_wires"=some (some (.ref aP)))
  (qM:K.lookup aP=some ⟨oU,oQ,.func (fnOf "out_wires" "Net.out_wires" (aF cc) (aD cc) (af cc) .none ph pp oM pE i4 py),oG⟩)
  (rJ:codeIn K i4 "Net.out_wires"=true)
  (gc:keepIn K (.ref aP)=true)
  (KK:findIn K (.ref aQ) "told"=some (some (.ref ci)))
  (Ct:K.lookup ci=some ⟨zH,zE,.func (fnOf "told" "Net.told" (aF fS) (aD fS) (af fS) .none z7 Am zy AB rE Ar),zn⟩)
  (C9:codeIn K rE "Net.told"=true)
  (mK:keepIn K (.ref ci)=true)
  (Dx:findIn K (.ref aQ) "wire_names"=some (some (.ref aH)))
  (o9:K.lookup aH=some ⟨mP,mM,.func (fnOf "wire_names" "Net.wire_names" (aF bX) (aD bX) (af bX) .none m8 nj mG nM ie ny),mC⟩)
  (pA:codeIn K ie "Net.wire_names"=true)
  (eX:keepIn K (.ref aH)=true)
  (GA:findIn K (.ref aQ) "wire_of"=some (some (.ref bt)))
  (vK:K.lookup bt=some ⟨sX,sS,.func (fnOf "wire_of" "Net.wire_of" (aF cQ) (aD cQ) (af cQ) .none tP tY so uj kb ua),r6⟩)
  (wz:codeIn K kb "Net.wire_of"=true)
  (im:keepIn K (.ref bt)=true)
  (Jh:findIn K (.ref aQ) "order"=some (some (.ref bR)))
  (z4:K.lookup bR=some ⟨xT,xO,.func (fnOf "order" "Net.order" (aF dU) (aD dU) (af dU) .none yh yJ xz y2 oy yO),xh⟩)
  (Aw:codeIn K oy "Net.order"=true)
  (kr:keepIn K (.ref bR)=true)
  (AF:nsIn K mainGlobals "_law_cell"=some (some (.ref cw)))
  (z3:K.lookup cw=some ⟨xS,xN,.func (fnOf "_law_cell" "_law_cell" (aF dS) (aD dS) (af dS) .none yg yI xy y1 ou yN),xg⟩)
  (Av:codeIn K ou "_law_cell"=true)
  (qf:keepIn K (.ref cw)=true)
  (De:nsIn K mainGlobals "_law_mix"=some (some (.ref cT)))
  (Cr:K.lookup cT=some ⟨zG,zD,.func (fnOf "_law_mix" "_law_mix" (aF fR) (aD fR) (af fR) .none z6 Al zw AA rD Aq),zm⟩)
  (C0:codeIn K rD "_law_mix"=true)
  (uz:keepIn K (.ref cT)=true)
  (AD:nsIn K mainGlobals "_law_name"=some (some (.ref b7)))
  (zZ:K.lookup b7=some ⟨xQ,xL,.func (fnOf "_law_name" "_law_name" (aF dR) (aD dR) (af dR) .none ye yG xw yZ om yL),xa⟩)
  (At:codeIn K om "_law_name"=true)
  (qd:keepIn K (.ref b7)=true)
  (y4:nsIn K mainGlobals "_law_wires"=some (some (.ref b4)))
  (yc:K.lookup b4=some ⟨vh,vf,.func (fnOf "_law_wires" "_law_wires" (aF cE) (aD cE) (af cE) .none vM wk va wC mi wn),uS⟩)
  (yT:codeIn K mi "_law_wires"=true)
  (n9:keepIn K (.ref b4)=true)
  (Dd:nsIn K mainGlobals "_law_net"=some (some (.ref cS)))
  (Cq:K.lookup cS=some ⟨zF,zC,.func (fnOf "_law_net" "_law_net" (aF cP) (aD cP) (af cP) .none z5 Ak zv Az rC Ap),zk⟩)
  (CZ:codeIn K rC "_law_net"=true)
  (uy:keepIn K (.ref cS)=true)
  (AC:nsIn K mainGlobals "_law_told"=some (some (.ref cu)))
  (zY:K.lookup cu=some ⟨xP,xK,.func (fnOf "_law_told" "_law_told" (aF dm) (aD dm) (af dm) .none yd yF xv yY oj yK),w9⟩)
  (As:codeIn K oj "_law_told"=true)
  (qc:keepIn K (.ref cu)=true)
  (wG:nsIn K mainGlobals "_law_ladder"=some (some (.ref bL)))
  (vJ:K.lookup bL=some ⟨sW,sR,.func (fnOf "_law_ladder" "_law_ladder" (aF cq) (aD cq) (af cq) .none tO tX sk ui ka t9),rZ⟩)
  (wy:codeIn K ka "_law_ladder"=true)
  (ly:keepIn K (.ref bL)=true)
  (uk:nsIn K mainGlobals "_law_missing"=some (some (.ref bB)))
  (tH:K.lookup bB=some ⟨qo,qi,.func (fnOf "_law_missing" "_law_missing" (aF cy) (aD cy) (af cy) .none qN rg p5 rL jE rq),pQ⟩)
  (ub:codeIn K jE "_law_missing"=true)
  (jW:keepIn K (.ref bB)=true)
  (nO:nsIn K mainGlobals "_law_wires_good"=some (some (.ref aR)))
  (m3:K.lookup aR=some ⟨lJ,lF,.func (fnOf "_law_wires_good" "_law_wires_good" (aF bM) (aD bM) (af bM) .none lV l5 k7 mm gH l9),kQ⟩)
  (nF:codeIn K gH "_law_wires_good"=true)
  (hX:keepIn K (.ref aR)=true)
  (nP:nsIn K mainGlobals "_law_order_good"=some (some (.ref aS)))
  (m4:K.lookup aS=some ⟨lK,lG,.func (fnOf "_law_order_good" "_law_order_good" (aF bA) (aD bA) (af bA) .none lW l6 k8 mn gI md),kR⟩)
  (nG:codeIn K gI "_law_order_good"=true)
  (hZ:keepIn K (.ref aS)=true)
  (AE:nsIn K mainGlobals "_law_good"=some (some (.ref cv)))
  (z0:K.lookup cv=some ⟨xR,xM,.func (fnOf "_law_good" "_law_good" (aF cF) (aD cF) (af cF) .none yf yH xx y0 oq yM),xc⟩)
  (Au:codeIn K oq "_law_good"=true)
  (qe:keepIn K (.ref cv)=true)
  (MU:nsIn K mainGlobals "law"=some (some (.ref yz)))
  (NI:K.lookup yz=some ⟨Mi,Mh,.func (fnOf "law" "law" (aF uU) (aD uU) (af uU) .none Mq MM LY MS IV MN),Lb⟩)
  (NM:codeIn K IV "law"=true)
  (Md:keepIn K (.ref yz)=true)
  (jc:isClsIn K al=true)
  (jb:typeIn K (.ref al)=some (.type "type"))
  (ja:mroIn K al (.ref al)=some true)
  (eN:isClsIn K ae=true)
  (eM:typeIn K (.ref ae)=some (.type "type"))
  (eL:mroIn K ae (.ref ae)=some true)
  (hV:isClsIn K ai=true)
  (hU:typeIn K (.ref ai)=some (.type "type"))
  (hG:mroIn K ai (.ref ai)=some true)
  (EK:plainGet K aV Str.empty=true)
  (EJ:hasDictIn K aV=true)
  (EI:plainOver K aV=true)
  (EH:findIn K (.ref aV) "__setattr__"=some (some (.builtin "object.__setattr__")))
  (JJ:findIn K (.ref aV) "__class__"=some (some (.builtin "object.__class__")))
  (JI:mroIn K aV (.type "object")=some true)
  (sY:findIn K (.ref aV) "by_name"=some none)
  (Cb:findIn K (.ref aV) "ins"=some none)
  (lN:findIn K (.ref aV) "kept_stores"=some none)
  (zM:findIn K (.ref aV) "name"=some none)
  (vi:findIn K (.ref aV) "number"=some none)
  (zL:findIn K (.ref aV) "outs"=some none)
  (zK:findIn K (.ref aV) "ring"=some none)
  (oV:findIn K (.ref aV) "sum_order"=some none)
  (zJ:findIn K (.ref aV) "sums"=some none)
  (zI:findIn K (.ref aV) "wire"=some none)
  (xU:findIn K (.ref aV) "wires"=some none)
  (lZ:mroIn K aV (.ref al)=some false)
  (iW:mroIn K aV (.ref ae)=some false)
  (j5:mroIn K aV (.ref ai)=some false)
  (xu:plainGet K al Str.empty=true)
  (xt:hasDictIn K al=true)
  (xr:plainOver K al=true)
  (xq:findIn K (.ref al) "__setattr__"=some (some (.builtin "object.__setattr__")))
  (EG:findIn K (.ref al) "__class__"=some (some (.builtin "object.__class__")))
  (EF:mroIn K al (.type "object")=some true)
  (FN:makesIn K al=true)
  (FM:findIn K (.ref al) "__init__"=some (some (.ref aE)))
  (FL:isFn K (.ref aE)=true)
  (FK:keepIn K (.ref al)=true)
  (o4:findIn K (.ref al) "by_name"=some none)
  (xX:findIn K (.ref al) "ins"=some none)
  (jQ:findIn K (.ref al) "kept_stores"=some none)
  (vy:findIn K (.ref al) "name"=some none)
  (qz:findIn K (.ref al) "number"=some none)
  (vx:findIn K (.ref al) "outs"=some none)
  (vw:findIn K (.ref al) "ring"=some none)
  (lQ:findIn K (.ref al) "sum_order"=some none)
  (vv:findIn K (.ref al) "sums"=some none)
  (vt:findIn K (.ref al) "wire"=some none)
  (tE:findIn K (.ref al) "wires"=some none)
  (gm:mroIn K al (.ref al)=some true)
  (gE:mroIn K al (.ref ae)=some false)
  (iY:mroIn K al (.ref ai)=some false)
  (ux:plainGet K ai Str.empty=true)
  (uw:hasDictIn K ai=true)
  (uv:plainOver K ai=true)
  (uu:findIn K (.ref ai) "__setattr__"=some (some (.builtin "object.__setattr__")))
  (BX:findIn K (.ref ai) "__class__"=some (some (.builtin "object.__class__")))
  (BW:mroIn K ai (.type "object")=some true)
  (CL:makesIn K ai=true)
  (CK:findIn K (.ref ai) "__init__"=some (some (.ref aA)))
  (CJ:isFn K (.ref aA)=true)
  (CH:keepIn K (.ref ai)=true)
  (mR:findIn K (.ref ai) "by_name"=some none)
  (vj:findIn K (.ref ai) "ins"=some none)
  (jo:findIn K (.ref ai) "kept_stores"=some none)
  (tz:findIn K (.ref ai) "name"=some none)
  (oW:findIn K (.ref ai) "number"=some none)
  (tm:findIn K (.ref ai) "outs"=some none)
  (tj:findIn K (.ref ai) "ring"=some none)
  (kz:findIn K (.ref ai) "sum_order"=some none)
  (tf:findIn K (.ref ai) "sums"=some none)
  (sZ:findIn K (.ref ai) "wire"=some none)
  (qt:findIn K (.ref ai) "wires"=some none)
  (iX:mroIn K ai (.ref al)=some false)
  (gj:mroIn K ai (.ref ae)=some false)
  (dW:mroIn K ai (.ref ai)=some true)
  (nY:plainGet K ae Str.empty=true)
  (nX:hasDictIn K ae=true)
  (nW:plainOver K ae=true)
  (nV:findIn K (.ref ae) "__setattr__"=some (some (.builtin "object.__setattr__")))
  (xp:findIn K (.ref ae) "__class__"=some (some (.builtin "object.__class__")))
  (xo:mroIn K ae (.type "object")=some true)
  (yD:makesIn K ae=true)
  (yC:findIn K (.ref ae) "__init__"=some (some (.ref ax)))
  (yB:isFn K (.ref ax)=true)
  (yA:keepIn K (.ref ae)=true)
  (kA:findIn K (.ref ae) "by_name"=some none)
  (qv:findIn K (.ref ae) "ins"=some none)
  (iq:findIn K (.ref ae) "kept_stores"=some none)
  (o2:findIn K (.ref ae) "name"=some none)
  (lO:findIn K (.ref ae) "number"=some none)
  (o0:findIn K (.ref ae) "outs"=some none)
  (oZ:findIn K (.ref ae) "ring"=some none)
  (jp:findIn K (.ref ae) "sum_order"=some none)
  (oY:findIn K (.ref ae) "sums"=some none)
  (oX:findIn K (.ref ae) "wire"=some none)
  (mS:findIn K (.ref ae) "wires"=some none)
  (gD:mroIn K ae (.ref al)=some false)
  (cI:mroIn K ae (.ref ae)=some true)
  (gl:mroIn K ae (.ref ai)=some false)
  (II:plainGet K aQ Str.empty=true)
  (IH:hasDictIn K aQ=true)
  (IG:plainOver K aQ=true)
  (IF:findIn K (.ref aQ) "__setattr__"=some (some (.builtin "object.__setattr__")))
  (LV:findIn K (.ref aQ) "__class__"=some (some (.builtin "object.__class__")))
  (LU:mroIn K aQ (.type "object")=some true)
  (MI:makesIn K aQ=true)
  (MH:findIn K (.ref aQ) "__init__"=some (some (.ref be)))
  (MG:isFn K (.ref be)=true)
  (MF:keepIn K (.ref aQ)=true)
  (qG:findIn K (.ref aQ) "in_names"=some (some (.ref bc)))
  (qD:isFn K (.ref bc)=true)
  (qF:findIn K (.ref aQ) "sum_rows"=some (some (.ref bb)))
  (qC:isFn K (.ref bb)=true)
  (mZ:findIn K (.ref aQ) "store_rows"=some (some (.ref aI)))
  (mX:isFn K (.ref aI)=true)
  (o8:findIn K (.ref aQ) "out_wires"=some (some (.ref aP)))
  (o7:isFn K (.ref aP)=true)
  (zV:findIn K (.ref aQ) "told"=some (some (.ref ci)))
  (zU:isFn K (.ref ci)=true)
  (mY:findIn K (.ref aQ) "wire_names"=some (some (.ref aH)))
  (mW:isFn K (.ref aH)=true)
  (tG:findIn K (.ref aQ) "wire_of"=some (some (.ref bt)))
  (tF:isFn K (.ref bt)=true)
  (x6:findIn K (.ref aQ) "order"=some (some (.ref bR)))
  (x5:isFn K (.ref bR)=true)
  (vq:findIn K (.ref aQ) "by_name"=some none)
  (EZ:findIn K (.ref aQ) "ins"=some none)
  (mT:findIn K (.ref aQ) "kept_stores"=some none)
  (Cg:findIn K (.ref aQ) "name"=some none)
  (xW:findIn K (.ref aQ) "number"=some none)
  (Cf:findIn K (.ref aQ) "outs"=some none)
  (Ce:findIn K (.ref aQ) "ring"=some none)
  (qy:findIn K (.ref aQ) "sum_order"=some none)
  (Cd:findIn K (.ref aQ) "sums"=some none)
  (Cc:findIn K (.ref aQ) "wire"=some none)
  (zN:findIn K (.ref aQ) "wires"=some none)
  (oi:mroIn K aQ (.ref al)=some false)
  (jz:mroIn K aQ (.ref ae)=some false)
  (l0:mroIn K aQ (.ref ai)=some false)
  (w1:specialIn K (.builtin "object.__class__") "__get__"=some (some (.builtin "getset_descriptor.__get__")))
  (w2:takesIn K (.builtin "object.__class__")=some true)
  (kc:excIn K bU [.type "ValueError",.type "Exception",.type "BaseException",.type "object"] "ValueError.__new__"=true)
  (DW:isClsIn K ao=true)
  (DV:typeIn K (.ref ao)=some (.type "type"))
  (K9:mroIn K ao (.ref ao)=some true)
  (wW:specialIn K (.ref bU) "__getattribute__"=some (some (.builtin "type.__getattribute__")))
  (wV:readsIn K bU (.type "type")=true)
  (wU:findCls K (.ref bU) (.type "type") "__init__"=some (.val (.builtin "ValueError.__init__")))
  (kN:excIn K bE [.type "ValueError",.type "Exception",.type "BaseException",.type "object"] "ValueError.__new__"=true)
  (BC:isClsIn K bE=true)
  (BB:findIn K (.ref bE) "__getattribute__"=some (some (.builtin "BaseException.__getattribute__")))
  (BA:findIn K (.ref bE) "__getattr__"=some none)
  (Bz:findIn K (.ref bE) "__class__"=some (some (.builtin "object.__class__")))
  (By:mroIn K bE (.type "object")=some true)
  (Bx:mroIn K bE (.type "BaseException")=some true)
  (Cw:keepIn K (.ref bE)=true)
  (iS:mroIn K bE (.ref ao)=some false)
  (FD:mroIn K ao (.type "BaseException")=some true)
  {E5 EE:Str} {Ij:Addr} {F2:List Value} {Ek:List Str} {BI:List Value} {F5:Bool} {CW:Option Bool} {FR:Option Addr} {Fv Fu Ft Fs Fr:Option Value}
  (Fc:K.lookup ao=some (PySem.excClassObj E5 EE ao Ij F2 (.ref bU::xBM) true Ek BI F5 CW FR Fv Fu Ft Fs Fr "ValueError.__new__"))
  (EY:isFn K (.ref aJ)=true)
  (Fi:keepIn K (.ref ao)=true)
  (Ep:findIn K (.ref ao) "__setattr__"=some (some (.builtin "object.__setattr__")))
  (wR:mroIn K ao (.type "object")=some true)
  (ym:mroIn K ao (.type "ValueError")=some true)
  (DM:isClsIn K ao=true)
  (DL:findIn K (.ref ao) "__getattribute__"=some (some (.builtin "BaseException.__getattribute__")))
  (DK:findIn K (.ref ao) "__getattr__"=some none)
  (DJ:findIn K (.ref ao) "__class__"=some (some (.builtin "object.__class__")))
  (DI:mroIn K ao (.type "BaseException")=some true)
  (qW:hasDictIn K ao=true)
  (fX:mroIn K ao (.ref ao)=some true)
  (o3:findIn K (.ref ao) "by_name"=some none)
  (xV:findIn K (.ref ao) "ins"=some none)
  (jP:findIn K (.ref ao) "kept_stores"=some none)
  (vp:findIn K (.ref ao) "name"=some none)
  (qx:findIn K (.ref ao) "number"=some none)
  (vo:findIn K (.ref ao) "outs"=some none)
  (vn:findIn K (.ref ao) "ring"=some none)
  (lP:findIn K (.ref ao) "sum_order"=some none)
  (vm:findIn K (.ref ao) "sums"=some none)
  (vk:findIn K (.ref ao) "wire"=some none)
  (tD:findIn K (.ref ao) "wires"=some none)
  (oC:specialIn K (.ref aV) "__getattribute__"=some (some (.builtin "type.__getattribute__")))
  (oB:readsIn K aV (.type "type")=true)
  (oA:findCls K (.ref aV) (.type "type") "__init__"=some (.val (.ref ba)))
  {i9:Tok} (y9:nsIn K mainGlobals "KEPT_DEPTH"=some (some (.int 12 i9)))
  {pP:Tok} (Ga:nsIn K mainGlobals "LETTERS"=some (some (.str "abcdefghijklmnopqrstuvwxyz" pP)))
  {gO:Tok} (ul:nsIn K mainGlobals "LONGEST_NAME"=some (some (.int 6 gO)))
  {mB:Tok} (Dg:nsIn K mainGlobals "MOST_INS"=some (some (.int 6 mB)))
  {ke:Tok} (AJ:nsIn K mainGlobals "MOST_OUTS"=some (some (.int 6 ke)))
  {il:Tok} (wH:nsIn K mainGlobals "MOST_STORES"=some (some (.int 16 il)))
  {kd:Tok} (AI:nsIn K mainGlobals "MOST_SUMS"=some (some (.int 40 kd)))
  {i8:Tok} (y8:nsIn K mainGlobals "MOST_WIRES"=some (some (.int 24 i8)))
  {i7:Tok} (y6:nsIn K mainGlobals "NAME_SIGNS"=some (some (.str "abcdefghijklmnopqrstuvwxyz0123456789" i7)))
  (Na:nsIn K mainGlobals "all"=some none)
  (M9:nsIn K mainGlobals "any"=some none)
  (KS:nsIn K mainGlobals "dict"=some none)
  (zg:nsIn K mainGlobals "enumerate"=some none)
  (wQ:nsIn K mainGlobals "isinstance"=some none)
  (M8:nsIn K mainGlobals "len"=some none)
  (KR:nsIn K mainGlobals "list"=some none)
  (M7:nsIn K mainGlobals "max"=some none)
  (Jg:nsIn K mainGlobals "range"=some none)
  (Bw:nsIn K mainGlobals "reversed"=some none)
  (Gy:nsIn K mainGlobals "sorted"=some none)
  (M6:nsIn K mainGlobals "str"=some none)
  (Jf:nsIn K mainGlobals "tuple"=some none):
  ∃ fd:FuncData,(∀ (s:Shared) (v:Value),BindsTo s fd ⟨[v],[]⟩ [("_law_script",v)])∧∀ base:Heap,K.In base→base.Ns mainGlobals mg→FnOk l.prog w K mg base CX0 10 fa fd ["_law_script"] (AT K):=by
 have e:=hfa.symm.trans (mg_of X G MU)
 cases e
 have zb:=bD (st:=pZ) Mp MP IM
 have Bu:=zb.binds (ps:=["thing","depth"]) fun _ _ _ _ _ _ us hl=>match us,hl with | [_,_],_=>rfl
 have cZ:=bD (st:=bN) m5 nH h7
 have d4:=cZ.binds (ps:=["self","name"]) fun _ _ _ _ _ _ us hl=>match us,hl with | [_,_],_=>rfl
 have dN:=bD (st:=cb) qL rH gb
 have cJ:=dN.binds (ps:=["self","name"]) fun _ _ _ _ _ _ us hl=>match us,hl with | [_,_],_=>rfl
 have c6:=bD (st:=bO) m7 nI h8
 have d5:=c6.binds (ps:=["self","name","number"]) fun _ _ _ _ _ _ us hl=>match us,hl with | [_,_,_],_=>rfl
 have cC:=bD (st:=bG) lU mj gA
 have dI:=cC.binds (ps:=["self","name","wires"]) fun _ _ _ _ _ _ us hl=>match us,hl with | [_,_,_],_=>rfl
 have ca:=bD (st:=bv) jS jU fu
 have dc:=ca.binds (ps:=["self","name","wire","number"]) fun _ _ _ _ _ _ us hl=>match us,hl with | [_,_,_,_],_=>rfl
 have mx:=bD (st:=fV) Fh F1 xC
 have ml:=mx.binds (ps:=["thing"]) fun _ _ _ _ _ _ us hl=>match us,hl with | [_],_=>rfl
 have fM:=bD (st:=cn) vH wv lu
 have iJ:=fM.binds (ps:=["ins","sums","stores","outs"]) fun _ _ _ _ _ _ us hl=>match us,hl with | [_,_,_,_],_=>rfl
 have fN:=bD (st:=cO) vI ww lx
 have iK:=fN.binds (ps:=["names"]) fun _ _ _ _ _ _ us hl=>match us,hl with | [_],_=>rfl
 have gM:=bD (st:=du) yb yS n8
 have dz:=gM.binds (ps:=["wire","known"]) fun _ _ _ _ _ _ us hl=>match us,hl with | [_,_],_=>rfl
 have fL:=bD (st:=cN) vG wu lh
 have iI:=fL.binds (ps:=["sums","stores","outs","known"]) fun _ _ _ _ _ _ us hl=>match us,hl with | [_,_,_,_],_=>rfl
 have dM:=bD (st:=a9) qK rG ji
 have gw:=dM.binds (ps:=["ins","sums","stores"]) fun _ _ _ _ _ _ us hl=>match us,hl with | [_,_,_],_=>rfl
 have wO:=bD (st:=kj) Kg KC ET
 have wA:=wO.binds (ps:=["row","waiting"]) fun _ _ _ _ _ _ us hl=>match us,hl with | [_,_],_=>rfl
 have mw:=bD (st:=eO) Fg FZ xB
 have rK:=mw.binds (ps:=["sums"]) fun _ _ _ _ _ _ us hl=>match us,hl with | [_],_=>rfl
 have eG:=bD (st:=bp) tK ue jX
 have g6:=eG.binds (ps:=["self","ins","sums","stores","outs"]) fun _ _ _ _ _ _ us hl=>match us,hl with | [_,_,_,_,_],_=>rfl
 have eu:=bD (st:=cA) tJ ud gT
 have ee:=eu.binds (ps:=["self"]) fun _ _ _ _ _ _ us hl=>match us,hl with | [_],_=>rfl
 have eh:=bD (st:=cz) tI uc gS
 have d9:=eh.binds (ps:=["self"]) fun _ _ _ _ _ _ us hl=>match us,hl with | [_],_=>rfl
 have dk:=bD (st:=bY) pc pB eZ
 have di:=dk.binds (ps:=["self"]) fun _ _ _ _ _ _ us hl=>match us,hl with | [_],_=>rfl
 have dO:=bD (st:=cc) qM rJ gc
 have dJ:=dO.binds (ps:=["self"]) fun _ _ _ _ _ _ us hl=>match us,hl with | [_],_=>rfl
 have jO:=bD (st:=fS) Ct C9 mK
 have nK:=jO.binds (ps:=["self"]) fun _ _ _ _ _ _ us hl=>match us,hl with | [_],_=>rfl
 have dj:=bD (st:=bX) o9 pA eX
 have fj:=dj.binds (ps:=["self"]) fun _ _ _ _ _ _ us hl=>match us,hl with | [_],_=>rfl
 have fP:=bD (st:=cQ) vK wz im
 have cV:=fP.binds (ps:=["self","name"]) fun _ _ _ _ _ _ us hl=>match us,hl with | [_,_],_=>rfl
 have iQ:=bD (st:=dU) z4 Aw kr
 have kL:=iQ.binds (ps:=["self"]) fun _ _ _ _ _ _ us hl=>match us,hl with | [_],_=>rfl
 have iP:=bD (st:=dS) z3 Av qf
 have dq:=iP.binds (ps:=["_law_script","_law_k"]) fun _ _ _ _ _ _ us hl=>match us,hl with | [_,_],_=>rfl
 have jN:=bD (st:=fR) Cr C0 uz
 have aU:=jN.binds (ps:=["_law_cell_here","_law_k"]) fun _ _ _ _ _ _ us hl=>match us,hl with | [_,_],_=>rfl
 have gy:=bD (st:=dR) zZ At qd
 have dn:=gy.binds (ps:=["_law_cell_here","_law_k"]) fun _ _ _ _ _ _ us hl=>match us,hl with | [_,_],_=>rfl
 have gN:=bD (st:=cE) yc yT n9
 have jI:=gN.binds (ps:=["_law_cell_here","_law_start","_law_names","_law_digits"]) fun _ _ _ _ _ _ us hl=>match us,hl with | [_,_,_,_],_=>rfl
 have jM:=bD (st:=cP) Cq CZ uy
 have nJ:=jM.binds (ps:=["_law_script","_law_start","_law_most"]) fun _ _ _ _ _ _ us hl=>match us,hl with | [_,_,_],_=>rfl
 have iN:=bD (st:=dm) zY As qc
 have kK:=iN.binds (ps:=["_law_ins","_law_sums","_law_stores","_law_outs"]) fun _ _ _ _ _ _ us hl=>match us,hl with | [_,_,_,_],_=>rfl
 have fO:=bD (st:=cq) vJ wy ly
 have iL:=fO.binds (ps:=["_law_sums"]) fun _ _ _ _ _ _ us hl=>match us,hl with | [_],_=>rfl
 have eg:=bD (st:=cy) tH ub jW
 have g5:=eg.binds (ps:=["_law_net_here","_law_thing"]) fun _ _ _ _ _ _ us hl=>match us,hl with | [_,_],_=>rfl
 have cW:=bD (st:=bM) m3 nF hX
 have d2:=cW.binds (ps:=["_law_net_here","_law_ins","_law_sums","_law_stores"]) fun _ _ _ _ _ _ us hl=>match us,hl with | [_,_,_,_],_=>rfl
 have cX:=bD (st:=bA) m4 nG hZ
 have d3:=cX.binds (ps:=["_law_order","_law_sums"]) fun _ _ _ _ _ _ us hl=>match us,hl with | [_,_],_=>rfl
 have iO:=bD (st:=cF) z0 Au qe
 have iM:=iO.binds (ps:=["_law_net_here","_law_ins","_law_sums","_law_stores","_law_outs"]) fun _ _ _ _ _ _ us hl=>match us,hl with | [_,_,_,_,_],_=>rfl
 have Io:=bD (st:=uU) NI NM Md
 have MQ:=Io.binds (ps:=["_law_script"]) fun _ _ _ _ _ _ us hl=>match us,hl with | [_],_=>rfl
 have T:Tx K mg ⟨j6,_,aJ,_,ba,_,aE,_,aA,_,ax,_,dG,_,bJ,_,bK,_,b3,_,bI,_,bq,_,iz,_,dF,_,be,_,bc,_,bb,_,aI,_,aP,_,ci,_,aH,_,bt,_,bR,_,cw,_,cT,_,b7,_,b4,_,cS,_,cu,_,bL,_,bB,_,aR,_,aS,_,cv,_,fa,_,aV,al,ai,ae,aQ,bU,bE,ao,_,_,_,_,_,_,_,_,_⟩:=⟨zb,IM,Bu,mg_of X G MV,cZ,h7,d4,dN,gb,cJ,c6,h8,d5,cC,gA,dI,ca,fu,dc,mx,xC,ml,mg_of X G F7,fM,lu,iJ,mg_of X G wE,fN,lx,iK,mg_of X G wF,gM,n8,dz,mg_of X G y3,fL,lh,iI,mg_of X G wD,dM,ji,gw,mg_of X G rP,wO,ET,wA,mg_of X G KG,mw,xB,rK,mg_of X G F6,eG,jX,g6,eu,gT,ee,eh,gS,d9,dk,eZ,di,dO,gc,dJ,jO,mK,nK,dj,eX,fj,fP,im,cV,iQ,kr,kL,iP,qf,dq,mg_of X G AF,jN,uz,aU,mg_of X G De,gy,qd,dn,mg_of X G AD,gN,n9,jI,mg_of X G y4,jM,uy,nJ,mg_of X G Dd,iN,qc,kK,mg_of X G AC,fO,ly,iL,mg_of X G wG,eg,jW,g5,mg_of X G uk,cW,hX,d2,mg_of X G nO,cX,hZ,d3,mg_of X G nP,iO,qe,iM,mg_of X G AE,Io,Md,MQ,mg_of X G MU,mg_of X G MW,⟨EK,EJ,EI,EH⟩,⟨⟨EK,EJ,EI,EH⟩,JJ,w1,w2,JI⟩,sY,Cb,lN,zM,vi,zL,zK,oV,zJ,zI,xU,gf jc jb lZ ja,gf eN eM iW eL,gf hV hU j5 hG,mg_of X G Ih,⟨xu,xt,xr,xq⟩,⟨⟨xu,xt,xr,xq⟩,EG,w1,w2,EF⟩,⟨FN,FM,FL,FK⟩,o4,xX,jQ,vy,qz,vx,vw,lQ,vv,vt,tE,gf jc jb gm ja,gf eN eM gE eL,gf hV hU iY hG,mg_of X G F9,⟨ux,uw,uv,uu⟩,⟨⟨ux,uw,uv,uu⟩,BX,w1,w2,BW⟩,⟨CL,CK,CJ,CH⟩,mR,vj,jo,tz,oW,tm,tj,kz,tf,sZ,qt,gf jc jb iX ja,gf eN eM gj eL,gf hV hU dW hG,mg_of X G AH,⟨nY,nX,nW,nV⟩,⟨⟨nY,nX,nW,nV⟩,xp,w1,w2,xo⟩,⟨yD,yC,yB,yA⟩,kA,qv,iq,o2,lO,o0,oZ,jp,oY,oX,mS,gf jc jb gD ja,gf eN eM cI eL,gf hV hU gl hG,mg_of X G NN,⟨II,IH,IG,IF⟩,⟨⟨II,IH,IG,IF⟩,LV,w1,w2,LU⟩,⟨MI,MH,MG,MF⟩,⟨qG,qD,gT⟩,⟨qF,qC,gS⟩,⟨mZ,mX,eZ⟩,⟨o8,o7,gc⟩,⟨zV,zU,mK⟩,⟨mY,mW,eX⟩,⟨tG,tF,im⟩,⟨x6,x5,kr⟩,vq,EZ,mT,Cg,xW,Cf,Ce,qy,Cd,Cc,zN,gf jc jb oi ja,gf eN eM jz eL,gf hV hU l0 hG,⟨oC,oB,oA,(by rfl),gb⟩,mg_of X G AG,⟨wW,wV,wU⟩,mg_of X G F8,kN,⟨BC,BB,BA,Bz,w1,w2,By,Bx⟩,Cw,iS,mg_of X G Ig,⟨DV,DW,FD⟩,⟨⟨_,_,_,_,_,_,_,_,_,_,_,_,_,_,Fc⟩,kc,mz,EY,Fi,Ep,wR,ym⟩,⟨DM,DL,DK,DJ,w1,w2,wR,DI⟩,qW,fX,o3,xV,jP,vp,qx,vo,vn,lP,vm,vk,tD,Ki ym,mg_of X G y9,mg_of X G Ga,mg_of X G ul,mg_of X G Dg,mg_of X G AJ,mg_of X G wH,mg_of X G AI,mg_of X G y8,mg_of X G y6,mg_none_of X G Na,mg_none_of X G M9,mg_none_of X G KS,mg_none_of X G zg,mg_none_of X G wQ,mg_none_of X G M8,mg_none_of X G KR,mg_none_of X G M7,mg_none_of X G Jg,mg_none_of X G Bw,mg_none_of X G Gy,mg_none_of X G M6,mg_none_of X G Jf⟩
 exact ⟨_,fun s v=> .of_eq rfl,fun base _ _=>Mg T⟩
open PySem.W in
theorem walk {l:OpenLaw} {q:Program} {loose:List Str} {XP:(Str→Option Value)→Heap→Prop} {YP:World→Heap→Prop} {d:DefRec} {K:Params→Frag} (hn:l.most=some 63) (hdf:d.params.defaults=[])
  (hY:∀ (w:World) (h:Heap),YP w h→(K w.params).In h)
  (F:∀ (w:World) (mg:Str→Option Value) (fa:Addr) (h:Heap),(K w.params).In h→h.Ns mainGlobals mg→mg d.name=some (.ref fa)→
   ∃ fd:FuncData,(∀ (s:Shared) (u:Value),BindsTo s fd ⟨[u],[]⟩ [("_law_script",u)])∧∀ base:Heap,(K w.params).In base→base.Ns mainGlobals mg→FnOk l.prog w (K w.params) mg base CX0 10 fa fd ["_law_script"] (AT (K w.params))):
  WalkO q loose XP YP l.row.toRowW d [] (fun f vs=>PySem.call f vs):=
 L2.walk_of (n:=63) (k:=10) (x:="_law_script") (CX:=fun _=>CX0) (sp:=fun w=>AT (K w.params)) hn (by decide) hdf ⟨rfl,by decide,by decide⟩ hY F (fun _ _ a ns hl _ hS=>⟨a,ns,rfl,hS,hl,fun _=>rfl⟩) fun _ _ _ _ _ z=>z
end My
def PySem.W.Fast.tw16262892763001701212:Unit:=()
def PySem.W.Fast.tw7026729856952613445:Unit:=()
def PySem.W.Fast.tw765299738541196676:Unit:=()
def PySem.W.Fast.tw14758893678065074709:Unit:=()
def PySem.W.Fast.tw4209001684806942813:Unit:=()
def PySem.W.Fast.tw17344605380867370893:Unit:=()
def PySem.W.Fast.tw3964871043831490085:Unit:=()
def PySem.W.Fast.tw12007492824928954300:Unit:=()
def PySem.W.Fast.tw6183832461440678661:Unit:=()
def PySem.W.Fast.tw15033458264875360359:Unit:=()
def PySem.W.Fast.tw4814053655982970898:Unit:=()
def PySem.W.Fast.tw18055563727904720888:Unit:=()
def PySem.W.Fast.tw2046352514949878166:Unit:=()
def PySem.W.Fast.tw2444661541354495113:Unit:=()
def PySem.W.Fast.tw7945860935111435638:Unit:=()
def PySem.W.Fast.tw1362679684526087979:Unit:=()
def PySem.W.Fast.tw8337765260696458213:Unit:=()
def PySem.W.Fast.tw14013160335984965838:Unit:=()
def PySem.W.Fast.tw16896260245847677205:Unit:=()
def PySem.W.Fast.tw3058838843520585460:Unit:=()
def PySem.W.Fast.tw7927750809397339009:Unit:=()
def PySem.W.Fast.tw10223977739757569024:Unit:=()
def PySem.W.Fast.tw567584172629214733:Unit:=()
def PySem.W.Fast.tw5305054736670340040:Unit:=()
def PySem.W.Fast.tw9836625133703383817:Unit:=()
def PySem.W.Fast.tw12384943263281058610:Unit:=()
def PySem.W.Fast.tw7457959128263728231:Unit:=()
def PySem.W.Fast.tw8185030399717750828:Unit:=()
def PySem.W.Fast.tw2447350428014453232:Unit:=()
def PySem.W.Fast.tw11750823640221712208:Unit:=()
def PySem.W.Fast.tw5084222220805241743:Unit:=()
def PySem.W.Fast.tw7775904783829256211:Unit:=()
def PySem.W.Fast.tw5890088663782182132:Unit:=()
def PySem.W.Fast.tw10962522104759753002:Unit:=()
def PySem.W.Fast.tw12298252180360639302:Unit:=()
def PySem.W.Fast.tw7313616201910827299:Unit:=()
def PySem.W.Fast.tw3810928733110768426:Unit:=()
def PySem.W.Fast.tw18213926846373917224:Unit:=()
def PySem.W.Fast.tw15924417850801578111:Unit:=()
def PySem.W.Fast.tw1859421677898984493:Unit:=()
def PySem.W.Fast.tw14598094695361912164:Unit:=()
def PySem.W.Fast.tw13029354257745128223:Unit:=()
def PySem.W.Fast.tw11715405672626800008:Unit:=()
def PySem.W.Fast.tw7120488283738477126:Unit:=()
def PySem.W.Fast.tw3252489565341500485:Unit:=()
def PySem.W.Fast.tw6546764583864746972:Unit:=()
def PySem.W.Fast.tw17745238063344091668:Unit:=()
def PySem.W.Fast.tw13901070840355776569:Unit:=()
def PySem.W.Fast.tw9124378564350672969:Unit:=()
def PySem.W.Fast.tw2391135859615583077:Unit:=()
def PySem.W.Fast.tw14237890934605577720:Unit:=()
def PySem.W.Fast.tw5645957116063333453:Unit:=()
def PySem.W.Fast.tw8741161146187519164:Unit:=()
def PySem.W.Fast.tw17001140299925731810:Unit:=()
open PySem PySem.W PyProof.Rows
set_option maxRecDepth 100000 in
set_option maxHeartbeats 0 in
theorem PySem.Challenge.cw_sumwires_k12_nets_told_holds : PySem.Challenge.rw_sumwires_k12_nets_told.Holds := by
 w_on;o_law;k_head;(case hw=>w_witness2)
 k_fill
 refine My.walk (l:=PySem.Challenge.rw_sumwires_k12_nets_told) rfl rfl (fun w h Y=>PySem.W.kIn_of Y) ?F
 case F=>
  intro w mg fa h KX G hmg
  refine' My.all_mk KX G hmg _ _ _ _ _ _ _ _ _ _ _ _ _ _ _ _ _ _ _ _ _ _ _ _ _ _ _ _ _ _ _ _ _ _ _ _ _ _ _ _ _ _ _ _ _ _ _ _ _ _ _ _ _ _ _ _ _ _ _ _ _ _ _ _ _ _ _ _ _ _ _ _ _ _ _ _ _ _ _ _ _ _ _ _ _ _ _ _ _ _ _ _ _ _ _ _ _ _ _ _ _ _ _ _ _ _ _ _ _ _ _ _ _ _ _ _ _ _ _ _ _ _ _ _ _ _ _ _ _ _ _ _ _ _ _ _ _ _ _ _ _ _ _ _ _ _ _ _ _ _ _ _ _ _ _ _ _ _ _ _ _ _ _ _ _ _ _ _ _ _ _ _ _ _ _ _ _ _ _ _ _ _ _ _ _ _ _ _ _ _ _ _ _ _ _ _ _ _ _ _ _ _ _ _ _ _ _ _ _ _ _ _ _ _ _ _ _ _ _ _ _ _ _ _ _ _ _ _ _ _ _ _ _ _ _ _ _ _ _ _ _ _ _ _ _ _ _ _ _ _ _ _ _ _ _ _ _ _ _ _ _ _ _ _ _ _ _ _ _ _ _ _ _ _ _ _ _ _ _ _ _ _ _ _ _ _ _ _ _ _ _ ?kc _ _ _ _ _ _ ?kN _ _ _ _ _ _ _ _ _ _ _ _ _ _ _ _ _ _ _ _ _ _ _ _ _ _ _ _ _ _ _ _ _ _ _ _ _ _ _ _ _ _ _ _ _ _ _ _ _ _ _ _ _ _ _ _ _ _
  any_goals ((with_reducible show _=_);k_is)
  (case kc=>k_exc)
  (case kN=>k_exc)
