import PyProof.Rows.All
import Wide.All
import OpenK.AllK
import Wide.FinOn
import Lean
import PyProof.EqAt
import PyProof.EqKinds
import PyProof.TupleCall
import OpenK.KNot
import KE.KPop
import KE.KListMore
import KE.KDictOf
import KE.KDictMeth
import KE.KEqSeq
import KE.KSlice
import KE.KSorted
import KE.RegTryLedger
import KE.KSort
import KE.KDictLoop
import KE.RegLcTurns
import KE.KCat
import KE.KTemps
import KE.KTup
import KE.KxMul
import KE.KxSplit
import KE.KxIndex
import KE.KxText
import KE.KPassesOwn
import KE.RegKIsNot
import KE.KTempsTwo
import KE.KSetInts
import KE.KSortedL
import KE.KxBytes
import KE.KClos
import KE.KOwnIter
import KE.KStopIter
import KE.KDictOne
import KE.KDictAny
import KE.RegKCallOwn
import KE.KSliceW
import KE.KLam
import KE.KDictBranch
import KE.KTree
import KE.KTreeB
import KE.KDflt
import KE.KTurns
import KE.KEqText
import KE.KEqDict
import KE.KDictAnyGet
import KE.KDictObj
import KE.KBoundM
import KE.KRevIter
import KE.KFinally
import KE.KCases
import KE.KOpsOwn
import KE.KDictList
import KE.KDictIter
import KE.RegKUnpackStar
import KE.KSortAsk
import KE.KWhileD
import KE.KLcTest
import KE.KUnrMore
import KE.KMinKey
import KE.KTurnsDict
import KE.BytesMul
import KE.KCompFold
import KE.KDictSum
import KE.KDictName
import KE.KDictSym
import KE.KTurnsAny
import KE.KCallJoin
import KE.KMethJoin
import KE.KStateW
import KE.KxWritten
import KE.KxAdd
import KE.RegKIsAll
import KE.KLcPair
import KE.RegKTryDeep
import KE.KCellOne
import KE.KMenu
import KE.KCompText
import KE.KDictSymLen
import KE.KSortTup
import KE.KDictLetter
import KE.KWords
import KE.RegKStateDown
import KE.KItemsList
import KE.KStateGiven
import KE.KLooksOwn
import KE.KStrOpen
import KE.KListEnd
import KE.KBools
import KE.KData
import KE.KCallTup
import KE.KTreeD
import KE.KCallBy
import KE.KPathText
import KE.KMinBuiltin
import KE.KFromBytes
import KE.KEqDat
import KE.KBytesUnr
import KE.RegLGe
import KE.KIsAll
import PyProof.NeKinds
import PyProof.RulesAs
import PyProof.StationsW
import PyProof.ExcClass2
import OpenK.KOwn
import PyProof.NsDelKeeps
import PyProof.ExcAttrAll.ValueError
import PyProof.SumAny
import PyProof.WalkInts
import PyProof.EnumMake
import PyProof.ExcInit
import PyProof.InstStoreFacts
import PyProof.IsRules
import PyProof.AttrMissHeap
import PyProof.MinMaxWalk
import PyProof.DictIter
import PyProof.ExcClass
import PyProof.StrLawsChain
import PyProof.StrLawsTight
import PySem.Challenge.RW_sumwires_k84_wires_cut
set_option Elab.async false
set_option linter.all false
set_option maxRecDepth 100000
namespace L2
open PySem PySem.Spec PyProof.Rows
noncomputable abbrev Key:=Sum Int Str
noncomputable def A2:Key→Value→Bool
 | .inl k,v=>Value.isInt k v
 | .inr x,v=>Value.isStrOf x v
noncomputable def keyH (w:World):Key→Int
 | .inl k=>hashInt k
 | .inr x=>hashStr w x
theorem cb:∀ {k:Key} {v:Value},A2 k v=true→(∃ i t,k=Sum.inl i∧v=Value.int i t)∨(∃ x t,k=Sum.inr x∧v=Value.str x t)
 | .inl i,v,h=>by
   obtain ⟨t,e⟩:=Value.isInt_shape (k:=i) (v:=v) h
   exact .inl ⟨i,t,rfl,e⟩
 | .inr x,v,h=>by
   obtain ⟨t,e⟩:=Value.isStrOf_shape (x:=x) (v:=v) h
   exact .inr ⟨x,t,rfl,e⟩
theorem Hk (i:Int) (t:Tok):A2 (.inl i) (.int i t)=true:=by simp [A2,Value.isInt]
theorem Hj (x:Str) (t:Tok):A2 (.inr x) (.str x t)=true:=by simp [A2,Value.isStrOf]
theorem OO (a b:Int):decide ((Sum.inl a:Key)=Sum.inl b)=(a == b):=by
 by_cases e:a=b
 ·subst e;simp
 ·have h:¬ (Sum.inl a:Key)=Sum.inl b:=fun q=>e (Sum.inl.inj q)
  rw [decide_eq_false h]
  exact (beq_eq_false_iff_ne.mpr e).symm
theorem OK (a b:Str):decide ((Sum.inr a:Key)=Sum.inr b)=decide (a=b):=by
 by_cases e:a=b
 ·subst e;simp
 ·have h:¬ (Sum.inr a:Key)=Sum.inr b:=fun q=>e (Sum.inr.inj q)
  rw [decide_eq_false h,decide_eq_false e]
theorem OM (a:Int) (b:Str):decide ((Sum.inl a:Key)=Sum.inr b)=false:=decide_eq_false (fun q=>nomatch q)
theorem OL (a:Str) (b:Int):decide ((Sum.inr a:Key)=Sum.inl b)=false:=decide_eq_false (fun q=>nomatch q)
noncomputable def cO (prog:Program) (w:World):PySem.KeyKind prog w Key where
 is:=A2
 hash:=keyH w
 inj:=fun v a b ha hb=>by
  rcases cb ha with ⟨i,t,rfl,rfl⟩ | ⟨x,t,rfl,rfl⟩
  ·rcases cb hb with ⟨j,u,rfl,e⟩ | ⟨y,u,rfl,e⟩
   ·injection e with e1 _;rw [e1]
   ·exact nomatch e
  ·rcases cb hb with ⟨j,u,rfl,e⟩ | ⟨y,u,rfl,e⟩
   ·exact nomatch e
   ·injection e with e1 _;rw [e1]
 byValue:=fun k v h=>by
  rcases cb h with ⟨i,t,rfl,rfl⟩ | ⟨x,t,rfl,rfl⟩<;>rfl
 pyHash:=fun hv h=>by
  rcases cb hv with ⟨i,t,rfl,rfl⟩ | ⟨x,t,rfl,rfl⟩
  ·exact wpAny_pyHash_int h
  ·exact wpAny_pyHash_str h
 eqBool:=fun hu hv h=>by
  rcases cb hu with ⟨i,t,rfl,rfl⟩ | ⟨x,t,rfl,rfl⟩
  ·rcases cb hv with ⟨j,u,rfl,rfl⟩ | ⟨y,u,rfl,rfl⟩
   ·rw [OO] at h;exact wpAny_eqBool_int h
   ·rw [OM] at h;exact SeqAt.EqAt.int_str i t y u _ _ _ _ h
  ·rcases cb hv with ⟨j,u,rfl,rfl⟩ | ⟨y,u,rfl,rfl⟩
   ·rw [OL] at h;exact SeqAt.EqAt.str_int x t j u _ _ _ _ h
   ·rw [OK] at h;exact wpAny_eqBool_str h
 «strs»:=fun k x t v h=>by
  rcases cb h with ⟨i,u,rfl,e⟩ | ⟨y,u,rfl,e⟩
  ·exact nomatch e
  ·injection e with e1 _
   subst e1
   cases v<;>rfl
theorem AN (prog:Program) (w:World) (i:Int) (t:Tok):(cO prog w).is (.inl i) (.int i t)=true:=Hk i t
theorem AM (prog:Program) (w:World) (x:Str) (t:Tok):(cO prog w).is (.inr x) (.str x t)=true:=Hj x t
inductive V where
 | non | bl (b:Bool) | int (i:Int) | str (x:Str) | byt (b:Array UInt8) | flt (b:UInt64) | ref (a:Addr) | ty (n:String)
 deriving DecidableEq
noncomputable def RelV:V→Value→Prop
 | .non,u=>u=Value.none
 | .bl b,u=>u=Value.bool b
 | .int i,u=>∃ t,u=Value.int i t
 | .str x,u=>∃ t,u=Value.str x t
 | .byt b,u=>∃ t,u=Value.bytes b t
 | .flt b,u=>∃ t,u=Value.float b t
 | .ref a,u=>u=Value.ref a
 | .ty n,u=>u=Value.type n
noncomputable abbrev Vals:List V→List Value→Prop:=Paired RelV
theorem Vals.length {xs:List V} {us:List Value} (r:Vals xs us):xs.length=us.length:=Paired.length r
theorem Vals.get:∀ {xs:List V} {us:List Value} {i:Nat} {x:V},Vals xs us→xs[i]? =some x→∃ u,us[i]? =some u∧RelV x u
 | _,_,_,_,.nil,e=>by simp at e
 | _,_,0,_,.cons r _,e=>by simp at e;subst e;exact ⟨_,rfl,r⟩
 | _,_,i + 1,x,.cons _ t,e=>by
   obtain ⟨u,h1,h2⟩:=Vals.get (i:=i) (x:=x) t (by simpa using e)
   exact ⟨u,by simpa using h1,h2⟩
theorem Vals.append:∀ {xs ys:List V} {us ws:List Value},Vals xs us→Vals ys ws→Vals (xs++ys) (us++ws)
 | _,_,_,_,.nil,s=>s
 | _,_,_,_,.cons r t,s=> .cons r (Vals.append t s)
theorem Vals.take:∀ {xs:List V} {us:List Value} (n:Nat),Vals xs us→Vals (xs.take n) (us.take n)
 | _,_,0,_=> .nil
 | _,_,_ + 1,.nil=> .nil
 | _,_,n + 1,.cons r t=> .cons r (Vals.take n t)
theorem Vals.drop:∀ {xs:List V} {us:List Value} (n:Nat),Vals xs us→Vals (xs.drop n) (us.drop n)
 | _,_,0,r=>r
 | _,_,_ + 1,.nil=> .nil
 | _,_,n + 1,.cons _ t=>Vals.drop n t
noncomputable def RelO:Option V→Option Value→Prop
 | some v,some u=>RelV v u
 | none,none=>True
 | _,_=>False
noncomputable def KV {κ:Type}:List (κ×V)→List (κ×Value)→Prop:=Paired fun (p:κ×V) (q:κ×Value)=>p.1=q.1∧RelV p.2 q.2
noncomputable def kV:Key→V
 | .inl i=> .int i
 | .inr x=> .str x
inductive HO where
 | lst (xs:List V)
 | tup (xs:List V)
 | dK (kvs:List (Key×V)) | dT (kvs:List (List Key×V))
 | set (S:Int→Bool) (n:Nat)
 | ins (C dx:Addr) (fs:List (Str×V))
 | own (x:Addr)
 | xd (fs:List (Str×V))
 | met (f x:Addr)
 | rng (lo hi:Int)
 | frz (o:Obj) (u:HO)
 | tbl (ps:Array Value)
 | ext (φ:Heap→Prop)
noncomputable abbrev Hp:=Addr→Option HO
noncomputable def upd (H:Hp) (a:Addr) (o:HO):Hp:=fun b=>if b=a then some o else H b
theorem av {H:Hp} {a:Addr} {o:HO}:upd H a o a=some o:=by unfold upd;rw [if_pos rfl]
theorem ar {H:Hp} {a b:Addr} {o:HO} (h:b≠a):upd H a o b=H b:=by unfold upd;rw [if_neg h]
theorem fj {H:Hp} {a b:Addr} {o u:HO} (h:H a=some o) (h':H b=some u) (d:o≠u):a≠b:=by
 intro e;subst e;rw [h] at h';exact d (Option.some.inj h')
theorem ah {H:Hp} {a b:Addr} {o:HO} (h:H a=some o) (h':H b=none):a≠b:=by
 intro e;subst e;rw [h] at h';cases h'
section
variable (P:Program) (w:World)
noncomputable def dB (H:Hp) (h:Heap) (a:Addr):HO→Prop
 | .lst xs=>xs.length≤sizeLine∧∃ (its:List Value) (n:Nat),Vals xs its∧h.get? a=some {cls:= .type "list",data:= .seq its.toArray n}
 | .tup xs=>xs.length≤sizeLine∧∃ its:List Value,Vals xs its∧IsTup h a its.toArray
 | .dK kvs=>kvs.length≤sizeLine∧(a == sysModules)=false∧∃ vs,KV kvs vs∧h.DictOf (cO P w) a vs
 | .dT kvs=>kvs.length≤sizeLine∧(a == sysModules)=false∧∃ xs:List (List Key×Addr×Value),
   Paired (fun (p:List Key×V) (q:List Key×Addr×Value)=>p.1=q.1∧H q.2.1=some (.tup (p.1.map kV))∧RelV p.2 q.2.2) kvs xs∧
   ∃ o es ep,h.get? a=some o∧o.ExactDict∧o.data= .dict es ep∧es.toList=xs.map (entryOfKey (tupleKind (cO P w)))∧(xs.map (·.1)).Nodup
 | .set S n=>h.SetOf (intKind P w) a S n
 | .ins C dx fs=>H dx=some (.own a)∧fs.length≤1000∧dx≠a∧h.get? a=some (PySem.W.instObj C dx)∧
   ∃ mA,h.Ns1 dx mA∧(∀ f,RelO (fs.lookup f) (mA f))∧PySem.Within mA (fs.map (·.1))
 | .own _=>∃ o,h.get? a=some o
 | .xd fs=>∃ mA,h.Ns1 a mA∧∀ f,RelO (fs.lookup f) (mA f)
 | .rng lo hi=>∃ t u v,h.get? a=some {cls:= .type "range",data:= .fields #[.int lo t,.int hi u,.int 1 v]}
 | .frz o u=>h.get? a=some o∧dB H h a u
 | .tbl ps=>h.get? a=some {cls:= .none,data:= .fields ps}
 | .met f x=>h.get? a=some (PySem.W.methodObj (.ref f) (.ref x))
 | .ext φ=>φ h∧(∃ o,h.get? a=some o)∧∀ h1 h2:Heap,φ h1→(∀ o,h1.get? a=some o→h2.get? a=some o)→φ h2
noncomputable def HOk (H:Hp) (h:Heap):Prop:=∀ a o,H a=some o→dB P w H h a o
end
section
variable {P:Program} {w:World} {H H':Hp} {h h':Heap} {a:Addr} {o:HO}
theorem dB.lt (x:dB P w H h a o):a < h.objs.size:=by
 cases o with
 | lst xs=>obtain ⟨_,_,_,_,e⟩:=x;exact Heap.lt_size e
 | tup xs=>obtain ⟨_,_,_,p⟩:=x;exact p.lt
 | dK kvs=>obtain ⟨_,_,_,_,o,_,_,e,_⟩:=x;exact Heap.lt_size e
 | dT kvs=>obtain ⟨_,_,_,_,o,_,_,e,_⟩:=x;exact Heap.lt_size e
 | set S n=>obtain ⟨o,_,_,_,e,_⟩:=x;exact Heap.lt_size e
 | ins C dx fs=>obtain ⟨_,_,_,e,_⟩:=x;exact Heap.lt_size e
 | own y=>obtain ⟨_,e⟩:=x;exact Heap.lt_size e
 | xd fs=>obtain ⟨_,⟨_,_,_,e,_⟩,_⟩:=x;exact Heap.lt_size e
 | rng lo hi=>obtain ⟨_,_,_,e⟩:=x;exact Heap.lt_size e
 | frz ob u=>obtain ⟨e,_⟩:=x;exact Heap.lt_size e
 | tbl ps=>exact Heap.lt_size (show h.get? a=some _ from x)
 | met f y=>exact Heap.lt_size (show h.get? a=some _ from x)
 | ext φ=>obtain ⟨_,⟨_,e⟩,_⟩:=x;exact Heap.lt_size e
theorem Paired.mapP {α β:Type} {F G:α→β→Prop}:∀ {l₁:List α} {l₂:List β},Paired F l₁ l₂→(∀ a b,F a b→G a b)→Paired G l₁ l₂
 | _,_,.nil,_=> .nil
 | _,_,.cons r t,f=> .cons (f _ _ r) (Paired.mapP t f)
theorem dB.stay (x:dB P w H h a o) (k:∀ b u,(b=a∨H b=some (.own a))→h.get? b=some u→h'.get? b=some u)
  (ho:∀ b,H b=some (.own a)→H' b=some (.own a)) (ht:∀ b xs,H b=some (.tup xs)→H' b=some (.tup xs)):dB P w H' h' a o:=by
 induction o with
 | lst xs=>obtain ⟨z,its,n,r,e⟩:=x;exact ⟨z,its,n,r,k _ _ (.inl rfl) e⟩
 | tup xs=>obtain ⟨z,its,r,ob,e,c⟩:=x;exact ⟨z,its,r,ob,k _ _ (.inl rfl) e,c⟩
 | dK kvs=>obtain ⟨z,y,vs,r,ob,es,ep,e,c⟩:=x;exact ⟨z,y,vs,r,ob,es,ep,k _ _ (.inl rfl) e,c⟩
 | dT kvs=>
   obtain ⟨z,y,xs,r,ob,es,ep,e,c⟩:=x
   exact ⟨z,y,xs,Paired.mapP r fun p q z=>⟨z.1,ht _ _ z.2.1,z.2.2⟩,ob,es,ep,k _ _ (.inl rfl) e,c⟩
 | set S n=>obtain ⟨ob,es,ep,t,e,c⟩:=x;exact ⟨ob,es,ep,t,k _ _ (.inl rfl) e,c⟩
 | ins C dx fs=>
   obtain ⟨d,z,ne,e,mA,⟨od,es,ep,e2,c⟩,r⟩:=x
   exact ⟨ho _ d,z,ne,k _ _ (.inl rfl) e,mA,⟨od,es,ep,k _ _ (.inr d) e2,c⟩,r⟩
 | own y=>obtain ⟨ob,e⟩:=x;exact ⟨ob,k _ _ (.inl rfl) e⟩
 | xd fs=>obtain ⟨mA,⟨od,es,ep,e,c⟩,r⟩:=x;exact ⟨mA,⟨od,es,ep,k _ _ (.inl rfl) e,c⟩,r⟩
 | rng lo hi=>obtain ⟨t,u,v,e⟩:=x;exact ⟨t,u,v,k _ _ (.inl rfl) e⟩
 | frz ob u ih=>obtain ⟨e,q⟩:=x;exact ⟨k _ _ (.inl rfl) e,ih q⟩
 | tbl ps=>
   have e:h.get? a=some {cls:= .none,data:= .fields ps}:=x
   show h'.get? a=some {cls:= .none,data:= .fields ps}
   exact k a _ (.inl rfl) e
 | met f y=>
   have e:h.get? a=some (PySem.W.methodObj (.ref f) (.ref y)):=x
   show h'.get? a=some (PySem.W.methodObj (.ref f) (.ref y))
   exact k a _ (.inl rfl) e
 | ext φ=>obtain ⟨p,⟨o,e⟩,st⟩:=x;exact ⟨st _ _ p fun o q=>k _ _ (.inl rfl) q,⟨o,k _ _ (.inl rfl) e⟩,st⟩
theorem HOk.lt (x:HOk P w H h) (e:H a=some o):a < h.objs.size:=(x a o e).lt
theorem HOk.fresh (x:HOk P w H h) (e:h.objs.size≤a):H a=none:=by
 cases q:H a with
 | none=>rfl
 | some u=>exact absurd (Nat.lt_of_lt_of_le (x.lt q) e) (Nat.lt_irrefl _)
theorem HOk.kept (x:HOk P w H h) (k:∀ b u,h.get? b=some u→h'.get? b=some u):HOk P w H h':=fun a o e=>
 (x a o e).stay (fun b u _ q=>k b u q) (fun _ q=>q) fun _ _ q=>q
theorem HOk.laid (x:HOk P w H h) (k:∀ b u,h.get? b=some u→h'.get? b=some u) (hp:h.objs.size≤a) (new:dB P w (upd H a o) h' a o):HOk P w (upd H a o) h':=fun b u e=>by
 have hn:=x.fresh hp
 by_cases hb:b=a
 ·subst hb;rw [av] at e;cases e;exact new
 ·rw [ar hb] at e
  exact (x b u e).stay (fun c v _ q=>k c v q) (fun c q=>by rw [ar (ah q hn)];exact q) fun c xs q=>by rw [ar (ah q hn)];exact q
end
noncomputable def Rd (H:Hp) (a:Addr) (u:HO):Prop:=H a=some u∨∃ o,H a=some (.frz o u)
theorem Rd.ok {P:Program} {w:World} {H:Hp} {h:Heap} {a:Addr} {u:HO} (r:Rd H a u) (x:HOk P w H h):dB P w H h a u:=by
 rcases r with r | ⟨o,r⟩
 ·exact x a u r
 ·obtain ⟨_,q⟩:=x a _ r
  exact q
noncomputable def Mut:Option HO→Prop
 | some (.lst _)=>True
 | some (.dK _)=>True
 | some (.dT _)=>True
 | some (.set _ _)=>True
 | some (.ins _ _ _)=>True
 | some (.ext _)=>True
 | _=>False
section
variable {P:Program} {w:World} {H:Hp} {h h':Heap} {x e:Addr} {o':HO}
theorem HOk.write (ok:HOk P w H h) (mu:Mut (H x)) (he:e=x∨H e=some (.own x)) (k:∀ b u,b≠e→h.get? b=some u→h'.get? b=some u) (heo:∃ u,h'.get? e=some u)
  (new:dB P w (upd H x o') h' x o'):HOk P w (upd H x o') h':=fun b u q=>by
 have nown:∀ c y,H c=some (.own y)→c≠x:=fun c y r z=>by subst z;rw [r] at mu;exact mu
 have ntup:∀ c xs,H c=some (.tup xs)→c≠x:=fun c xs r z=>by subst z;rw [r] at mu;exact mu
 by_cases hb:b=x
 ·subst hb;rw [av] at q;cases q;exact new
 ·rw [ar hb] at q
  by_cases hbe:b=e
  ·have q':H b=some (.own x):=by
    rcases he with z | z
    ·exact absurd (hbe.trans z) hb
    ·rw [hbe];exact z
   rw [q] at q';cases q'
   obtain ⟨v,hv⟩:=heo
   exact ⟨v,by rw [hbe];exact hv⟩
  ·refine (ok b u q).stay (fun c v hc r=>k c v ?_ r) (fun c r=>by rw [ar (nown c b r)];exact r) fun c xs r=>by rw [ar (ntup c xs r)];exact r
   rcases hc with rfl | hc
   ·exact hbe
   ·rintro rfl
    rcases he with z | z
    ·exact nown c b hc z
    ·rw [hc] at z;cases z;exact hb rfl
end
structure Un (fs ex:List Addr) (H H':Hp) (h h':Heap):Prop where
 keep:∀ b o,h.get? b=some o→H b=none→b∉fs→b∉ex→h'.get? b=some o
 slot:∀ b o,h.get? b=some o→H b=none→b∈fs→b∉ex→∃ sl,h'.get? b=some {o with slots:=sl}
 free:∀ b o,h.get? b=some o→H b=none→b∉ex→H' b=none
 there:∀ b o,h.get? b=some o→b∉ex→∃ o',h'.get? b=some o'
 tups:∀ b xs,H b=some (.tup xs)→H' b=some (.tup xs)
 frzs:∀ b o u,H b=some (.frz o u)→H' b=some (.frz o u)
 tbls:∀ b ps,H b=some (.tbl ps)→∃ more,H' b=some (.tbl (ps++more))
section
variable {fs fs' ex ex':List Addr} {H H1 H2:Hp} {h h1 h2 h':Heap} {a x e:Addr} {o:HO}
theorem Un.any (u:Un fs ex H H1 h h1) {b:Addr} {ob:Obj} (q:h.get? b=some ob) (n:H b=none) (hx:b∉ex):∃ sl,h1.get? b=some {ob with slots:=sl}:=by
 by_cases hb:b∈fs
 ·exact u.slot b ob q n hb hx
 ·exact ⟨ob.slots,u.keep b ob q n hb hx⟩
theorem Un.kept (k:∀ b u,h.get? b=some u→h'.get? b=some u):Un fs ex H H h h':=
 ⟨fun b ob q _ _ _=>k b ob q,fun b ob q _ _ _=>⟨ob.slots,k b ob q⟩,fun _ _ _ n _=>n,fun b ob q _=>⟨ob,k b ob q⟩,fun _ _ q=>q,fun _ _ _ q=>q,fun _ ps q=>⟨#[],by rw [q];simp⟩⟩
theorem Un.refl:Un fs ex H H h h:=Un.kept fun _ _ q=>q
theorem Un.laid (k:∀ b u,h.get? b=some u→h'.get? b=some u) (hp:h.objs.size≤a) (hn:H a=none):Un fs ex H (upd H a o) h h' where
 keep:=fun b u q _ _ _=>k b u q
 slot:=fun b u q _ _ _=>⟨u.slots,k b u q⟩
 free:=fun b u q n _=>by rw [ar (Nat.ne_of_lt (Nat.lt_of_lt_of_le (Heap.lt_size q) hp))];exact n
 there:=fun b u q _=>⟨u,k b u q⟩
 tups:=fun b xs q=>by rw [ar (ah q hn)];exact q
 frzs:=fun b u xs q=>by rw [ar (ah q hn)];exact q
 tbls:=fun b ps q=>⟨#[],by rw [ar (ah q hn),q];simp⟩
theorem Un.write (mu:Mut (H x)) (he:e=x∨H e=some (.own x)) (k:∀ b u,b≠e→h.get? b=some u→h'.get? b=some u) (heo:∃ u,h'.get? e=some u):Un fs ex H (upd H x o) h h':=by
 have hx:∀ b,H b=none→b≠x:=fun b n z=>by subst z;rw [n] at mu;exact mu
 have hb:∀ b,H b=none→b≠e:=fun b n z=>by
  subst z
  rcases he with r | r
  ·exact hx b n r
  ·rw [n] at r;cases r
 have hm:∀ b u,H b=some u→¬ Mut (some u)→b≠x:=fun b u q nm z=>by subst z;rw [q] at mu;exact nm mu
 refine ⟨fun b u q n _ _=>k b u (hb b n) q,fun b u q n _ _=>⟨u.slots,k b u (hb b n) q⟩,fun b u q n _=>by rw [ar (hx b n)];exact n,fun b u q _=>?_,
  fun b xs q=>by rw [ar (hm b _ q fun z=>z)];exact q,fun b u xs q=>by rw [ar (hm b _ q fun z=>z)];exact q,fun b ps q=>⟨#[],by rw [ar (hm b _ q fun z=>z),q];simp⟩⟩
 by_cases hbe:b=e
 ·subst hbe;exact heo
 ·exact ⟨u,k b u hbe q⟩
end
noncomputable def trk (h:Heap) (H:Hp):List Addr:=(List.range h.objs.size).filter fun a=>(H a).isSome
noncomputable def hidT (h:Heap) (H:Hp):Heap:=PySem.W.hideAll h (trk h H)
theorem HA (h:Heap) (H:Hp):(hidT h H).objs.size=h.objs.size:=PySem.W.hideAll_size _ _
theorem Km {h:Heap} {H:Hp} {b:Addr} {o:Obj} (e:h.get? b=some o) (n:H b=none):(hidT h H).get? b=some o:=
 PySem.W.hideAll_get _ e fun hm=>by
  have q:(H b).isSome=true:=(List.mem_filter.mp hm).2
  rw [n] at q;simp at q
theorem Mo {h:Heap} {H:Hp} {b:Addr} {o:Obj} (e:(hidT h H).get? b=some o):h.get? b=some o∧H b=none:=by
 have e':h.get? b=some o:=PySem.W.of_hideAll (trk h H) e
 refine ⟨e',?_⟩
 cases q:H b with
 | none=>rfl
 | some x=>
   have hm:b∈trk h H:=List.mem_filter.mpr ⟨List.mem_range.mpr (Heap.lt_size e'),by simp [q]⟩
   have z:(hidT h H).get? b=none:=PySem.W.hideAll_none (trk h H) hm
   rw [z] at e;cases e
noncomputable def MU (g h:Heap) (L:Addr):List (Addr×Obj):=(List.range h.objs.size).filterMap fun a=>if a=L∨(g.get? a).isSome=true then none else (h.get? a).map fun o=>(a,o)
noncomputable def rest (g h:Heap) (L d:Addr):List (Addr×Obj):=(MU g h L).filter fun p=>decide (p.1≠d)
structure Mod (K:PySem.W.Frag) (mg:Str→Option Value) (base:Heap):Prop where
 kin:K.In base
 glob:base.Ns mainGlobals mg
 blt:∃ mb,base.Ns builtinsNs mb∧∀ x:Str,x≠"__name__"→mb x=bootBuiltins x
 nolimit:base.NoLimit
structure Cx where
 prog:Program
 w:World
 K:PySem.W.Frag
 mg:Str→Option Value
 base:Heap
 A:Around
 N:List Str
 s₀:Shared
 H₀:Hp
 env:Env
 outer:List Env
 stack:List Env
 ex:List Addr
 fn:Str→Bool
 calm:Bool
 pn:List (Addr×Obj)
 xe:Value→Shared→Prop
noncomputable def frs (l:List Env):List Addr:=l.filterMap (·.frame)
noncomputable abbrev Cx.fs (X:Cx):List Addr:=frs X.outer
noncomputable def Vis (sc:Scope) (x:Str):Prop:=sc.names.lookup x=some .local∨sc.names.lookup x=some .cell∨sc.names.lookup x=some .free
noncomputable def Loc (sc:Scope) (x:Str):Prop:=sc.names.lookup x=some .local∨sc.names.lookup x=some .cell
noncomputable def Look (env:Env) (h:Heap) (m:Str→Option Value) (x:Str) (u:Value):Prop:=
 (env.kindOf x=some .local∧m x=some u)∨((env.kindOf x=some .cell∨env.kindOf x=some .free)∧∃ c,env.cells.lookup x=some c∧h.IsCell c (some u))
structure Cx.Ok (X:Cx):Prop where
 mod:Mod X.K X.mg X.base
 kind:X.env.scope.kind= .function
 glob:X.env.globals=mainGlobals
 blt:X.env.builtins=builtinsNs
 above:X.s₀.heap.objs.size≤X.env.locals
 inj:∀ x y c,X.env.cells.lookup x=some c→X.env.cells.lookup y=some c→x=y
 has:∀ x,(X.env.kindOf x=some .cell∨X.env.kindOf x=some .free)→∃ c,X.env.cells.lookup x=some c
 cab:∀ x c,X.fn x=true→X.env.cells.lookup x=some c→X.s₀.heap.objs.size≤c
 hd:X.calm=true→X.A.handled=none
 frames:X.A.frames=some X.stack
 stk:X.stack=X.outer∨(X.stack=X.env::X.outer∧X.env.frame=some X.env.locals)
 exf:∀ b∈X.ex,b≠X.env.locals∧∀ x c,X.env.cells.lookup x=some c→c≠b
 bs:∀ b o,X.base.get? b=some o→X.s₀.heap.get? b=some o∧X.H₀ b=none
 bsz:X.base.objs.size≤X.s₀.heap.objs.size
 noex:∀ b o,X.base.get? b=some o→b∉X.ex
 exfs:∀ b∈X.ex,b∉X.fs
 funs:X.s₀.heap.FunFrames X.base X.outer
 frf:∀ b∈X.fs,X.H₀ b=none
structure Inv (X:Cx) (pins:List (Addr×Obj)) (σ:List (Option V)) (H:Hp) (s:Shared):Prop where
 ok:X.Ok
 os:s.os=X.s₀.os
 bare:AllBare s.gens
 base:Un X.fs X.ex X.H₀ H X.s₀.heap s.heap
 loc:∃ m,s.heap.Ns X.env.locals m∧∀ (i:Nat) (x:Str) (v:V),X.N[i]? =some x→σ[i]? =some (some v)→Vis X.env.scope x→∃ u,RelV v u∧Look X.env s.heap m x u
 cell:∀ x c,X.env.cells.lookup x=some c→∃ v,s.heap.IsCell c v
 free:H X.env.locals=none
 freeC:∀ x c,X.env.cells.lookup x=some c→H c=none
 pin:∀ p∈X.pn++pins,s.heap.get? p.1=some p.2∧H p.1=none∧p.1≠X.env.locals∧p.1∉X.fs∧∀ v,p.2.data≠.cell v
 hok:HOk X.prog X.w H s.heap
 len:σ.length=X.N.length
section
variable {X:Cx} {pins:List (Addr×Obj)} {σ:List (Option V)} {H H':Hp} {s:Shared} {h':Heap}
theorem Cx.Ok.nofr (ok:X.Ok) {b:Addr} {o:Obj} (e:X.base.get? b=some o):b∉X.fs:=fun hb=>by
 have:=(ok.funs.mem hb).1
 rw [e] at this;cases this
theorem Inv.bs (I:Inv X pins σ H s):∀ b o,X.base.get? b=some o→s.heap.get? b=some o∧H b=none:=fun b o e=>
 ⟨I.base.keep b o (I.ok.bs b o e).1 (I.ok.bs b o e).2 (I.ok.nofr e) (I.ok.noex b o e),I.base.free b o (I.ok.bs b o e).1 (I.ok.bs b o e).2 (I.ok.noex b o e)⟩
theorem Inv.bk (I:Inv X pins σ H s):∀ b o,X.base.get? b=some o→s.heap.get? b=some o:=fun b o e=>(I.bs b o e).1
theorem Inv.mod (I:Inv X pins σ H s):Mod X.K X.mg X.base:=I.ok.mod
theorem Inv.kIn (I:Inv X pins σ H s):X.K.In s.heap:=I.ok.mod.kin.keeps I.bk
theorem Inv.lt (I:Inv X pins σ H s):X.env.locals < s.heap.objs.size:=let ⟨_,hn,_⟩:=I.loc;hn.lt
theorem Inv.sz (I:Inv X pins σ H s):X.s₀.heap.objs.size≤s.heap.objs.size:=Nat.le_trans I.ok.above (Nat.le_of_lt I.lt)
theorem Inv.nofs (I:Inv X pins σ H s) {a:Addr} (h:s.heap.objs.size≤a):a∉X.fs:=fun hb=>by
 obtain ⟨_,o,ho,_⟩:=I.ok.funs.mem hb
 exact absurd (Nat.lt_of_lt_of_le (Heap.lt_size ho) (Nat.le_trans I.sz h)) (Nat.lt_irrefl _)
theorem Inv.cne (I:Inv X pins σ H s):∀ x c,X.env.cells.lookup x=some c→c≠X.env.locals:=fun x c e z=>by
 obtain ⟨v,o,ho,hd⟩:=I.cell x c e
 obtain ⟨m,⟨o',es,ep,ho',hd',_⟩,_⟩:=I.loc
 rw [z,ho'] at ho;cases ho;rw [hd'] at hd;cases hd
theorem Inv.funs (I:Inv X pins σ H s):s.heap.FunFrames X.base X.outer:=by
 have all:∀ (l:List Env),(∀ b∈frs l,b∈X.fs)→X.s₀.heap.FunFrames X.base l→s.heap.FunFrames X.base l:=by
  intro l
  induction l with
  | nil=>intro _ _;trivial
  | cons env r ih=>
    intro hs hl
    obtain ⟨hk,⟨L,o,hf,hn,ho,hd⟩,hr⟩:=hl
    have hL:L∈X.fs:=hs L (by unfold frs;rw [List.filterMap_cons,hf];exact List.mem_cons_self)
    obtain ⟨sl,e⟩:=I.base.slot L o ho (I.ok.frf L hL) hL fun z=>I.ok.exfs L z hL
    exact ⟨hk,⟨L,_,hf,hn,e,hd⟩,ih (fun b hb=>hs b (by unfold frs;rw [List.filterMap_cons,hf];exact List.mem_cons_of_mem _ hb)) hr⟩
 exact all X.outer (fun _ hb=>hb) I.ok.funs
theorem Inv.stack (I:Inv X pins σ H s):s.heap.FunFrames X.base X.stack:=by
 rcases I.ok.stk with e | ⟨e,hf⟩
 ·rw [e];exact I.funs
 ·rw [e]
  obtain ⟨m,hn,_⟩:=I.loc
  refine .cons (by rw [I.ok.kind];decide) hf hn ?_ I.funs
  exact Heap.get?_none_of_le (Nat.le_trans I.ok.bsz I.ok.above)
theorem Inv.stkSub (I:Inv X pins σ H s):∀ b∈frs X.stack,b∈X.env.locals::X.fs:=fun b hb=>by
 rcases I.ok.stk with e | ⟨e,hf⟩
 ·rw [e] at hb;exact List.mem_cons_of_mem _ hb
 ·rw [e] at hb
  unfold frs at hb
  rw [List.filterMap_cons,hf] at hb
  exact hb
theorem Inv.stkFree (I:Inv X pins σ H s):∀ b∈frs X.stack,H b=none:=fun b hb=>by
 rcases List.mem_cons.mp (I.stkSub b hb) with e | hb
 ·rw [e];exact I.free
 ·obtain ⟨_,o,ho,_⟩:=I.ok.funs.mem hb
  exact I.base.free b o ho (I.ok.frf b hb) fun z=>I.ok.exfs b z hb
theorem Inv.step {g':Array GenState} {t':Nat} {d':Drawn} {ch:List Addr} (I:Inv X pins σ H s)
  (hch:∀ b∈ch,(b∈X.ex∨X.s₀.heap.objs.size≤b)∧b≠X.env.locals∧(∀ x c,X.env.cells.lookup x=some c→c≠b)∧∀ p∈X.pn++pins,p.1≠b)
  (keep:∀ b o,b≠X.env.locals→b∉X.fs→b∉ch→s.heap.get? b=some o→H b=none→h'.get? b=some o)
  (slot:∀ b o,b≠X.env.locals→b∈X.fs→b∉ch→s.heap.get? b=some o→H b=none→∃ sl,h'.get? b=some {o with slots:=sl}) (free:∀ b o,b∉ch→s.heap.get? b=some o→H b=none→H' b=none)
  (there:∀ b o,b∉ch→s.heap.get? b=some o→∃ o',h'.get? b=some o')
  (tups:∀ b xs,H b=some (.tup xs)→H' b=some (.tup xs)) (frzs:∀ b o u,H b=some (.frz o u)→H' b=some (.frz o u)) (tbls:∀ b ps,H b=some (.tbl ps)→∃ more,H' b=some (.tbl (ps++more)))
  (ns:∀ m,s.heap.Ns X.env.locals m→h'.Ns X.env.locals m) (hok:HOk X.prog X.w H' h') (hg:AllBare g'):
  Inv X pins σ H' {s with heap:=h',gens:=g',drawn:=d',toks:=t'}:=by
 have neL:∀ b o,X.s₀.heap.get? b=some o→b≠X.env.locals:=fun b o e=>Nat.ne_of_lt (Nat.lt_of_lt_of_le (Heap.lt_size e) I.ok.above)
 have neC:∀ b o,X.s₀.heap.get? b=some o→b∉X.ex→b∉ch:=fun b o e hx hb=>by
  rcases (hch b hb).1 with z | z
  ·exact hx z
  ·exact absurd (Nat.lt_of_lt_of_le (Heap.lt_size e) z) (Nat.lt_irrefl _)
 have cellK:∀ x c,X.env.cells.lookup x=some c→∀ v,s.heap.IsCell c v→h'.IsCell c v:=fun x c e v ⟨o,ho,hd⟩=>by
  have nch:c∉ch:=fun z=>(hch c z).2.2.1 x c e rfl
  by_cases hc:c∈X.fs
  ·obtain ⟨sl,q⟩:=slot c o (I.cne x c e) hc nch ho (I.freeC x c e)
   exact ⟨_,q,hd⟩
  ·exact ⟨o,keep c o (I.cne x c e) hc nch ho (I.freeC x c e),hd⟩
 refine ⟨I.ok,I.os,hg,⟨fun b o e n hb hx=>?_,fun b o e n hb hx=>?_,fun b o e n hx=>?_,fun b o e hx=>?_,fun b xs e=>tups b xs (I.base.tups b xs e),fun b o xs e=>frzs b o xs (I.base.frzs b o xs e),fun b ps e=>?_⟩,?_,fun x c e=>?_,?_,fun x c e=>?_,fun p hp=>?_,hok,I.len⟩
 ·exact keep b o (neL b o e) hb (neC b o e hx) (I.base.keep b o e n hb hx) (I.base.free b o e n hx)
 ·obtain ⟨sl,e1⟩:=I.base.slot b o e n hb hx
  obtain ⟨sl',e2⟩:=slot b _ (neL b o e) hb (neC b o e hx) e1 (I.base.free b o e n hx)
  exact ⟨sl',e2⟩
 ·obtain ⟨o',e1⟩:=I.base.there b o e hx
  exact free b o' (neC b o e hx) e1 (I.base.free b o e n hx)
 ·obtain ⟨o',e1⟩:=I.base.there b o e hx
  exact there b o' (neC b o e hx) e1
 ·obtain ⟨m1,e1⟩:=I.base.tbls b ps e
  obtain ⟨m2,e2⟩:=tbls b _ e1
  exact ⟨m1++m2,by rw [e2,Array.append_assoc]⟩
 ·obtain ⟨m,hn,hl⟩:=I.loc
  refine ⟨m,ns m hn,fun i x v e1 e2 e3=>?_⟩
  obtain ⟨u,r,l⟩:=hl i x v e1 e2 e3
  refine ⟨u,r,?_⟩
  rcases l with l | ⟨k,c,e,z⟩
  ·exact .inl l
  ·exact .inr ⟨k,c,e,cellK x c e _ z⟩
 ·obtain ⟨v,z⟩:=I.cell x c e
  exact ⟨v,cellK x c e v z⟩
 ·obtain ⟨m,⟨o,_,_,ho,_⟩,_⟩:=I.loc
  exact free _ o (fun z=>(hch _ z).2.1 rfl) ho I.free
 ·obtain ⟨v,o,ho,hd⟩:=I.cell x c e
  exact free c o (fun z=>(hch c z).2.2.1 x c e rfl) ho (I.freeC x c e)
 ·obtain ⟨e,n,ne,nf,d⟩:=I.pin p hp
  have nch:p.1∉ch:=fun z=>(hch p.1 z).2.2.2 p hp rfl
  exact ⟨keep p.1 p.2 ne nf nch e n,free p.1 p.2 nch e n,ne,nf,d⟩
theorem Inv.un {t':Nat} (I:Inv X pins σ H s) (u:Un X.fs [] H H' s.heap h') (hok:HOk X.prog X.w H' h'):Inv X pins σ H' {s with heap:=h',toks:=t'}:=by
 obtain ⟨m,⟨o,es,ep,ho,r⟩,_⟩:=id I.loc
 obtain ⟨sl,hL⟩:=u.any ho I.free (by simp)
 exact I.step (g':=s.gens) (d':=s.drawn) (ch:=[]) (fun _ z=>nomatch z) (fun b o _ hb _ e n=>u.keep b o e n hb (by simp)) (fun b o _ hb _ e n=>u.slot b o e n hb (by simp)) (fun b o _ e n=>u.free b o e n (by simp)) (fun b o _ e=>u.there b o e (by simp)) u.tups u.frzs u.tbls (fun m' hm=>by
  obtain ⟨o',es',ep',ho',r'⟩:=hm
  rw [ho] at ho';cases ho'
  exact ⟨_,es',ep',hL,r'⟩) hok I.bare
theorem Inv.call {g':Array GenState} {t':Nat} {d':Drawn} {ch:List Addr} (I:Inv X pins σ H s) (u:Un (frs X.stack) ch H H' s.heap h') (hok:HOk X.prog X.w H' h') (hg:AllBare g')
  (hch:∀ b∈ch,(b∈X.ex∨X.s₀.heap.objs.size≤b)∧b≠X.env.locals∧(∀ x c,X.env.cells.lookup x=some c→c≠b)∧∀ p∈X.pn++pins,p.1≠b):
  Inv X pins σ H' {s with heap:=h',gens:=g',drawn:=d',toks:=t'}:=by
 obtain ⟨m,⟨o,es,ep,ho,r⟩,_⟩:=id I.loc
 obtain ⟨sl,hL⟩:=u.any ho I.free fun z=>(hch _ z).2.1 rfl
 exact I.step (ch:=ch) hch (fun b o hL hb hc e n=>u.keep b o e n (fun z=>(List.mem_cons.mp (I.stkSub b z)).elim hL hb) hc) (fun b o _ _ hc e n=>u.any e n hc) (fun b o hc e n=>u.free b o e n hc) (fun b o hc e=>u.there b o e hc) u.tups u.frzs u.tbls (fun m' hm=>by
  obtain ⟨o',es',ep',ho',r'⟩:=hm
  rw [ho] at ho';cases ho'
  exact ⟨_,es',ep',hL,r'⟩) hok hg
theorem Inv.turned {t':Nat} {it:Addr} (I:Inv X pins σ H s) (k:∀ b o,b≠it→s.heap.get? b=some o→h'.get? b=some o) (hn:H it=none) (hL:it≠X.env.locals)
  (h1:it∈X.ex∨X.s₀.heap.objs.size≤it) (h2:∀ x c,X.env.cells.lookup x=some c→c≠it) (h3:∀ p∈X.pn++pins,p.1≠it):Inv X pins σ H {s with heap:=h',toks:=t'}:=by
 have nit:∀ b u,H b=some u→b≠it:=fun b u e z=>by rw [z,hn] at e;cases e
 refine I.step (g':=s.gens) (d':=s.drawn) (ch:=[it]) (fun b hb=>?_) (fun b o _ _ hc e _=>k b o (fun z=>hc (by simp [z])) e) (fun b o _ _ hc e _=>⟨o.slots,k b o (fun z=>hc (by simp [z])) e⟩) (fun _ _ _ _ n=>n)
  (fun b o hc e=>⟨o,k b o (fun z=>hc (by simp [z])) e⟩) (fun _ _ e=>e) (fun _ _ _ e=>e) (fun b ps e=>⟨#[],by rw [e];simp⟩) (fun m hm=>?_) (fun b u e=>?_) I.bare
 ·have e:b=it:=by simpa using hb
  subst e
  exact ⟨h1,hL,h2,h3⟩
 ·obtain ⟨o,es,ep,ho,r⟩:=hm
  exact ⟨o,es,ep,k _ o (Ne.symm hL) ho,r⟩
 ·refine (I.hok b u e).stay (fun c v hc q=>k c v ?_ q) (fun _ q=>q) fun _ _ q=>q
  rcases hc with z | z
  ·rw [z];exact nit b u e
  ·exact nit c _ z
theorem Inv.tok (I:Inv X pins σ H s) (t:Nat):Inv X pins σ H {s with toks:=t}:=I.un (h':=s.heap) (t':=t) Un.refl I.hok
theorem Inv.kept {t':Nat} (I:Inv X pins σ H s) (k:∀ b u,s.heap.get? b=some u→h'.get? b=some u):Inv X pins σ H {s with heap:=h',toks:=t'}:=I.un (Un.kept k) (I.hok.kept k)
theorem Inv.laid {a:Addr} {o:HO} {t':Nat} (I:Inv X pins σ H s) (k:∀ b u,s.heap.get? b=some u→h'.get? b=some u) (hp:s.heap.objs.size≤a) (new:dB X.prog X.w (upd H a o) h' a o):
  Inv X pins σ (upd H a o) {s with heap:=h',toks:=t'}:=I.un (Un.laid k hp (I.hok.fresh hp)) (I.hok.laid k hp new)
theorem Inv.write {x e:Addr} {o:HO} {t':Nat} (I:Inv X pins σ H s) (mu:Mut (H x)) (he:e=x∨H e=some (.own x)) (k:∀ b u,b≠e→s.heap.get? b=some u→h'.get? b=some u) (heo:∃ u,h'.get? e=some u)
  (new:dB X.prog X.w (upd H x o) h' x o):Inv X pins σ (upd H x o) {s with heap:=h',toks:=t'}:=I.un (Un.write mu he k heo) (I.hok.write mu he k heo new)
theorem Inv.weak {σ':List (Option V)} (I:Inv X pins σ H s) (hl:σ'.length=σ.length) (w:∀ (i:Nat) v,σ'[i]? =some (some v)→σ[i]? =some (some v)):Inv X pins σ' H s:=
 ⟨I.ok,I.os,I.bare,I.base,let ⟨m,hn,hl'⟩:=I.loc;⟨m,hn,fun i x v e1 e2 e3=>hl' i x v e1 (w i v e2) e3⟩,I.cell,I.free,I.freeC,I.pin,I.hok,hl.trans I.len⟩
theorem Inv.pins_of {pins':List (Addr×Obj)} (I:Inv X pins σ H s) (h:∀ p∈pins',s.heap.get? p.1=some p.2∧H p.1=none∧p.1≠X.env.locals∧p.1∉X.fs∧∀ v,p.2.data≠.cell v):Inv X pins' σ H s:=
 ⟨I.ok,I.os,I.bare,I.base,I.loc,I.cell,I.free,I.freeC,fun p hp=>(List.mem_append.mp hp).elim (fun z=>I.pin p (List.mem_append_left _ z)) (h p),I.hok,I.len⟩
theorem wL {N:List Str} (hN:N.Nodup) {i j:Nat} {x:Str} (a:N[i]? =some x) (b:N[j]? =some x):i=j:=by
 obtain ⟨h1,e1⟩:=List.getElem?_eq_some_iff.mp a
 obtain ⟨h2,e2⟩:=List.getElem?_eq_some_iff.mp b
 exact (List.getElem_inj hN).mp (e1.trans e2.symm)
theorem x9 {M:Model} {A:Around} {E:Value→Shared→Prop} {i:Nat} {x:Str} {v:V} {u:Value} {Q:Unit→Shared→Prop} (I:Inv X pins σ H s) (hN:X.N.Nodup) (hi:X.N[i]? =some x) (hx:Loc X.env.scope x) (r:RelV v u)
  (h:∀ s',Inv X pins (σ.set i (some v)) H s'→(∃ a,Heap.SameBut a s.heap s'.heap∧(a=X.env.locals∨X.env.cells.lookup x=some a))→Q () s') (hf:X.fn x=true∨X.env.scope.names.lookup x=some .local:=by first | exact .inl rfl | exact .inr rfl | assumption):wpAny M A (storeName X.env x u) Q E s:=by
 obtain ⟨m,hn,hl⟩:=id I.loc
 have hcls:(X.env.scope.kind == .class||(X.env.scope.kind == .module&&X.env.locals != X.env.globals))=false:=by rw [I.ok.kind];rfl
 have hiσ:i < σ.length:=by rw [I.len];exact (List.getElem?_eq_some_iff.mp hi).1
 have cne:=I.cne
 have tracked:∀ {a:Addr} {h':Heap},(∃ o,s.heap.get? a=some o∧H a=none)→Heap.SameBut a s.heap h'→HOk X.prog X.w H h':=fun {a h'} ha hs b ob e=>by
  obtain ⟨_,_,hfree⟩:=ha
  refine (I.hok b ob e).stay (fun c w' hc q=>(hs.2 c ?_).trans q) (fun _ q=>q) fun _ _ q=>q
  rintro rfl
  rcases hc with rfl | hc
  ·rw [hfree] at e;cases e
  ·rw [hfree] at hc;cases hc
 rcases hx with hk | hk
 ·refine wpAny_storeName_local hk hn (fun h' hn' hs=>?_) hcls
  obtain ⟨oL,_,_,hoL,_⟩:=id hn
  refine h _ ⟨I.ok,I.os,I.bare,⟨fun b o e n hb hx=>?_,fun b o e n hb hx=>?_,I.base.free,fun b o e hx=>?_,I.base.tups,I.base.frzs,I.base.tbls⟩,⟨_,hn',fun j y v' e1 e2 e3=>?_⟩,fun y c e=>?_,I.free,I.freeC,fun p hp=>?_,tracked ⟨oL,hoL,I.free⟩ hs,by simpa using I.len⟩ ⟨_,hs,.inl rfl⟩
  ·exact (hs.2 b (Nat.ne_of_lt (Nat.lt_of_lt_of_le (Heap.lt_size e) I.ok.above))).trans (I.base.keep b o e n hb hx)
  ·obtain ⟨sl,e1⟩:=I.base.slot b o e n hb hx
   exact ⟨sl,(hs.2 b (Nat.ne_of_lt (Nat.lt_of_lt_of_le (Heap.lt_size e) I.ok.above))).trans e1⟩
  ·obtain ⟨o',e1⟩:=I.base.there b o e hx
   exact ⟨o',(hs.2 b (Nat.ne_of_lt (Nat.lt_of_lt_of_le (Heap.lt_size e) I.ok.above))).trans e1⟩
  ·by_cases hj:j=i
   ·subst hj
    rw [hi] at e1;cases e1
    rw [List.getElem?_set_self hiσ] at e2
    cases e2
    exact ⟨u,r,.inl ⟨hk,by simp⟩⟩
   ·rw [List.getElem?_set_ne (Ne.symm hj)] at e2
    obtain ⟨u',r',q⟩:=hl j y v' e1 e2 e3
    refine ⟨u',r',?_⟩
    rcases q with ⟨k,e⟩ | ⟨k,c,e,z⟩
    ·refine .inl ⟨k,?_⟩
     have:y≠x:=fun e=>hj (wL hN e1 (e ▸ hi))
     simp [this,e]
    ·exact .inr ⟨k,c,e,z.sameBut hs (cne y c e)⟩
  ·obtain ⟨w',z⟩:=I.cell y c e
   exact ⟨w',z.sameBut hs (cne y c e)⟩
  ·obtain ⟨e,n,ne,nf,d⟩:=I.pin p hp
   exact ⟨(hs.2 p.1 ne).trans e,n,ne,nf,d⟩
 ·have hfn:X.fn x=true:=by
   rcases hf with z | z
   ·exact z
   ·rw [z] at hk;cases hk
  obtain ⟨c,hc⟩:=I.ok.has x (.inl hk)
  obtain ⟨w',z⟩:=I.cell x c hc
  refine wpAny_storeName_cell I.ok.kind hk hc z (fun h' hc' hs=>?_)
  obtain ⟨oc,hoc,hocd⟩:=id z
  refine h {s with heap:=h'} ⟨I.ok,I.os,I.bare,⟨fun b o e n hb hx=>?_,fun b o e n hb hx=>?_,I.base.free,fun b o e hx=>?_,I.base.tups,I.base.frzs,I.base.tbls⟩,⟨m,hn.sameBut hs (Ne.symm (cne x c hc)),fun j y v' e1 e2 e3=>?_⟩,fun y c' e=>?_,I.free,I.freeC,fun p hp=>?_,tracked ⟨oc,hoc,I.freeC x c hc⟩ hs,by simpa using I.len⟩ ⟨c,hs,.inr hc⟩
  ·exact (hs.2 b (Nat.ne_of_lt (Nat.lt_of_lt_of_le (Heap.lt_size e) (I.ok.cab x c hfn hc)))).trans (I.base.keep b o e n hb hx)
  ·obtain ⟨sl,e1⟩:=I.base.slot b o e n hb hx
   exact ⟨sl,(hs.2 b (Nat.ne_of_lt (Nat.lt_of_lt_of_le (Heap.lt_size e) (I.ok.cab x c hfn hc)))).trans e1⟩
  ·obtain ⟨o',e1⟩:=I.base.there b o e hx
   exact ⟨o',(hs.2 b (Nat.ne_of_lt (Nat.lt_of_lt_of_le (Heap.lt_size e) (I.ok.cab x c hfn hc)))).trans e1⟩
  ·by_cases hj:j=i
   ·subst hj
    rw [hi] at e1;cases e1
    rw [List.getElem?_set_self hiσ] at e2
    cases e2
    exact ⟨u,r,.inr ⟨.inl hk,c,hc,hc'⟩⟩
   ·rw [List.getElem?_set_ne (Ne.symm hj)] at e2
    obtain ⟨u',r',q⟩:=hl j y v' e1 e2 e3
    refine ⟨u',r',?_⟩
    rcases q with q | ⟨k,c',e,z'⟩
    ·exact .inl q
    ·refine .inr ⟨k,c',e,z'.sameBut hs ?_⟩
     rintro rfl
     exact hj (wL hN e1 (I.ok.inj _ _ _ e hc ▸ hi))
  ·by_cases hcc:c'=c
   ·subst hcc;exact ⟨_,hc'⟩
   ·obtain ⟨w2,z2⟩:=I.cell y c' e
    exact ⟨w2,z2.sameBut hs hcc⟩
  ·obtain ⟨e,n,ne,nf,d⟩:=I.pin p hp
   refine ⟨(hs.2 p.1 ?_).trans e,n,ne,nf,d⟩
   intro q
   rw [q,hoc] at e
   have q':oc=p.2:=Option.some.inj e
   exact d w' (by rw [← q'];exact hocd)
theorem vL {M:Model} {A:Around} {E:Value→Shared→Prop} {i:Nat} {x:Str} {v:V} {u:Value} {Q:Unit→Shared→Prop} (I:Inv X pins σ H s) (hN:X.N.Nodup) (hi:X.N[i]? =some x) (hx:Loc X.env.scope x) (r:RelV v u)
  (h:∀ s',Inv X pins (σ.set i (some v)) H s'→Q () s') (hf:X.fn x=true∨X.env.scope.names.lookup x=some .local:=by first | exact .inl rfl | exact .inr rfl | assumption):wpAny M A (storeName X.env x u) Q E s:=
 x9 I hN hi hx r (fun s' I' _=>h s' I') hf
theorem Inv.call' {s':Shared} {ch:List Addr} (I:Inv X pins σ H s) (ho:s'.os=s.os) (u:Un (frs X.stack) ch H H' s.heap s'.heap) (hok:HOk X.prog X.w H' s'.heap) (hg:AllBare s'.gens)
  (hch:∀ b∈ch,(b∈X.ex∨X.s₀.heap.objs.size≤b)∧b≠X.env.locals∧(∀ x c,X.env.cells.lookup x=some c→c≠b)∧∀ p∈X.pn++pins,p.1≠b):Inv X pins σ H' s':=by
 obtain ⟨h',g',d',t',o'⟩:=s'
 have e:o'=s.os:=ho
 subst e
 exact I.call (g':=g') (t':=t') (d':=d') u hok hg hch
end
noncomputable abbrev XK:=Value→Option Addr→Hp→Prop
noncomputable abbrev St:=List (Option V)
noncomputable abbrev VK:=V→Hp→Prop
noncomputable abbrev TE:=St→Hp→VK→Prop
noncomputable abbrev TT:=St→Hp→(Bool→Hp→Prop)→Prop
noncomputable abbrev TA:=St→Hp→(List V→Hp→Prop)→Prop
structure Ends where
 nx:St→Hp→Prop
 rt:VK
 bk:St→Hp→Prop:=fun _ _=>False
 ct:St→Hp→Prop:=fun _ _=>False
noncomputable abbrev TS:=Ends→St→Hp→Prop
noncomputable def EP (X:Cx) (pins:List (Addr×Obj)) (σ:St) (Q:VK) (u:Value) (s':Shared):Prop:=∃ v H',Inv X pins σ H' s'∧RelV v u∧Q v H'
noncomputable def TP (X:Cx) (pins:List (Addr×Obj)) (σ:St) (Q:Bool→Hp→Prop) (b:Bool) (s':Shared):Prop:=∃ H',Inv X pins σ H' s'∧Q b H'
noncomputable def AP (X:Cx) (pins:List (Addr×Obj)) (σ:St) (Q:List V→Hp→Prop) (us:List Value) (s':Shared):Prop:=∃ vs H',Inv X pins σ H' s'∧Vals vs us∧Q vs H'
noncomputable def SP (X:Cx) (pins:List (Addr×Obj)) (D:Ends) (f:Flow) (s':Shared):Prop:=
 match f with
 | .next=>∃ σ' H',Inv X pins σ' H' s'∧D.nx σ' H'
 | .brk=>∃ σ' H',Inv X pins σ' H' s'∧D.bk σ' H'
 | .cont=>∃ σ' H',Inv X pins σ' H' s'∧D.ct σ' H'
 | .ret u=>∃ v σ' H',Inv X pins σ' H' s'∧RelV v u∧D.rt v H'
noncomputable def PE (X:Cx) (e:Expr) (t:TE):Prop:=
 ∀ (pins:List (Addr×Obj)) (s:Shared) (σ:St) (H:Hp) (Q:VK),Inv X pins σ H s→t σ H Q→wpAny (model X.prog X.w) X.A (eval e X.env) (EP X pins σ Q) X.xe s
noncomputable def PT (X:Cx) (e:Expr) (t:TT):Prop:=
 ∀ (pins:List (Addr×Obj)) (s:Shared) (σ:St) (H:Hp) (Q:Bool→Hp→Prop),Inv X pins σ H s→t σ H Q→wpAny (model X.prog X.w) X.A (isTrue e X.env (eval e X.env)) (TP X pins σ Q) X.xe s
noncomputable def PW (X:Cx) (e:Expr) (t:TT):Prop:=
 ∀ (whole:Sem Value) (pins:List (Addr×Obj)) (s:Shared) (σ:St) (H:Hp) (Q:Bool→Hp→Prop),Inv X pins σ H s→t σ H Q→wpAny (model X.prog X.w) X.A (isTrue e X.env whole) (TP X pins σ Q) X.xe s
theorem PW.pt {X:Cx} {e:Expr} {t:TT} (h:PW X e t):PT X e t:=h _
noncomputable def PA (X:Cx) (es:List Expr) (t:TA):Prop:=
 ∀ (pos:Pos) (pins:List (Addr×Obj)) (s:Shared) (σ:St) (H:Hp) (Q:List V→Hp→Prop),Inv X pins σ H s→t σ H Q→wpAny (model X.prog X.w) X.A (spliced (backTo pos (starEach es X.env))) (AP X pins σ Q) X.xe s
noncomputable def PS (X:Cx) (st:Stmt) (t:TS):Prop:=
 ∀ (pins:List (Addr×Obj)) (s:Shared) (σ:St) (H:Hp) (D:Ends),Inv X pins σ H s→t D σ H→wpAny (model X.prog X.w) X.A (exec st X.env) (SP X pins D) X.xe s
noncomputable def PSs (X:Cx) (st:List Stmt) (t:TS):Prop:=
 ∀ (pins:List (Addr×Obj)) (s:Shared) (σ:St) (H:Hp) (D:Ends),Inv X pins σ H s→t D σ H→wpAny (model X.prog X.w) X.A (execs st X.env) (SP X pins D) X.xe s
theorem thn {α:Type} {t:Sem α} {Q Q':α→Shared→Prop} {M:Model} {A:Around} {E:Value→Shared→Prop} {s:Shared} (h:wpAny M A t Q E s) (hQ:∀ a s,Q a s→Q' a s):wpAny M A t Q' E s:=wpAny_mono h hQ fun _ _ x=>x
section
variable {X:Cx}
noncomputable def tVar (i:Nat):TE:=fun σ H Q=>∃ v,σ[i]? =some (some v)∧Q v H
noncomputable def tC (v:V):TE:=fun _ H Q=>Q v H
theorem On {i:Nat} {x:Str} {pos:Pos} (hN:X.N[i]? =some x) (hv:Vis X.env.scope x) (hd:(x == ("__debug__":Str))=false:=by decide) (hcd:(x == ("__classdict__":Str))=false:=by decide):PE X (.Name x pos) (tVar i):=by
 intro pins s σ H Q I h
 obtain ⟨v,e,h⟩:=h
 obtain ⟨m,hn,hl⟩:=I.loc
 obtain ⟨u,r,l⟩:=hl i x v hN e hv
 have fin:EP X pins σ Q u s:=⟨v,H,I,r,h⟩
 rcases l with ⟨hk,hm⟩ | ⟨hk,c,hc,hcell⟩
 ·exact wpAny_Name (wpAny_loadName_local I.ok.kind hk hn hm fin) hd
 ·rcases hk with hk | hk
  ·exact wpAny_Name (wpAny_loadName_cell I.ok.kind hk hc hcell fin) hd
  ·exact wpAny_Name (wpAny_loadName_free I.ok.kind hk hc hcell fin hcd) hd
theorem ak {i j pos}:PE X (.Constant (.int i) j pos) (tC (.int i)):=fun _ _ _ H _ I h=>wpAny_Constant_int ⟨.int i,H,I.tok _,⟨_,rfl⟩,h⟩
theorem An {b j pos}:PE X (.Constant (.bool b) j pos) (tC (.bl b)):=fun _ _ _ H _ I h=>Constant_bool ⟨.bl b,H,I,rfl,h⟩
theorem n9 {j pos}:PE X (.Constant .none j pos) (tC .non):=fun _ _ _ H _ I h=>Constant_none ⟨.non,H,I,rfl,h⟩
theorem bE {x j pos}:PE X (.Constant (.str x) j pos) (tC (.str x)):=fun _ _ _ H _ I h=>Calls.Constant_str ⟨.str x,H,I.tok _,⟨_,rfl⟩,h⟩
noncomputable def Gl (X:Cx) (x:Str):Prop:=X.env.kindOf x=some .globalImplicit
theorem gO {E:Value→Shared→Prop} {pins:List (Addr×Obj)} {s:Shared} {σ:St} {H:Hp} {x:Str} {u:Value} {pos:Pos} {Q:Value→Shared→Prop} (I:Inv X pins σ H s) (hg:Gl X x) (hm:X.mg x=some u) (h:Q u s)
  (hd:(x == ("__debug__":Str))=false:=by decide):wpAny (model X.prog X.w) X.A (eval (.Name x pos) X.env) Q E s:=
 Calls.Name_function_global I.ok.kind hg (Calls.loadGlobal_global (by rw [I.ok.glob];exact I.mod.glob.keeps I.bk) hm h) hd
theorem oq {E:Value→Shared→Prop} {pins:List (Addr×Obj)} {s:Shared} {σ:St} {H:Hp} {x:Str} {u:Value} {pos:Pos} {Q:Value→Shared→Prop} (I:Inv X pins σ H s) (hg:Gl X x) (hm:X.mg x=none) (hv:bootBuiltins x=some u) (h:Q u s)
  (hn:x≠"__name__":=by decide) (hd:(x == ("__debug__":Str))=false:=by decide):wpAny (model X.prog X.w) X.A (eval (.Name x pos) X.env) Q E s:=by
 obtain ⟨mb,h1,h2⟩:=I.mod.blt
 exact Calls.Name_function_global I.ok.kind hg (Calls.loadGlobal_builtin (by rw [I.ok.glob];exact I.mod.glob.keeps I.bk) hm (by rw [I.ok.blt];exact h1.keeps I.bk) ((h2 x hn).trans hv) h) hd
theorem ff {x:Str} {v:V} {u:Value} {pos:Pos} (hg:Gl X x) (hm:X.mg x=some u) (r:RelV v u) (hd:(x == ("__debug__":Str))=false:=by decide):PE X (.Name x pos) (tC v):=
 fun _ _ _ H _ I h=>gO I hg hm ⟨v,H,I,r,h⟩ hd
theorem i6 {x:Str} {v:V} {u:Value} {pos:Pos} (hg:Gl X x) (hm:X.mg x=none) (hv:bootBuiltins x=some u) (r:RelV v u) (hn:x≠"__name__":=by decide) (hd:(x == ("__debug__":Str))=false:=by decide):PE X (.Name x pos) (tC v):=
 fun _ _ _ H _ I h=>oq I hg hm hv ⟨v,H,I,r,h⟩ hn hd
variable {a b:Expr} {ta tb:TE} {pos:Pos}
noncomputable def PC (X:Cx) (op:CmpOp) (a b:Expr) (t:TE):Prop:=
 ∀ (pins:List (Addr×Obj)) (s:Shared) (σ:St) (H:Hp) (Q:VK),Inv X pins σ H s→t σ H Q→
  wpAny (model X.prog X.w) X.A (eval a X.env) (fun v s₁=>wpAny (model X.prog X.w) X.A (eval b X.env) (fun u s₂=>wpAny (model X.prog X.w) X.A (compareOp op v u) (EP X pins σ Q) X.xe s₂) X.xe s₁) X.xe s
noncomputable def tB (t:TE):TT:=fun σ H Q=>t σ H fun x H1=>∃ c,x= .bl c∧Q c H1
theorem Oq {op:CmpOp} {t:TE} (h:PC X op a b t) (h1:behindInMarks op b=false:=by first | exact nobehind _ (by decide) (by decide) | rfl):PE X (.Compare a [op] [b] pos) t:=fun pins s σ H Q I hw=>wpAny_Compare1 (h pins s σ H Q I hw) h1
theorem K8 {op:CmpOp} {t:TE} (h:PC X op a b t) (h1:behindInMarks op b=false:=by first | exact nobehind _ (by decide) (by decide) | rfl):PT X (.Compare a [op] [b] pos) (tB t):=by
 intro pins s σ H Q I hw
 refine wpAny_isTrue_Compare1 (thn (h pins s σ H _ I hw) fun v s1 h1=>thn h1 fun u s2 h2=>thn h2 fun c s3 ⟨x,H1,I1,r1,q1⟩=>?_) h1
 obtain ⟨d,rfl,q⟩:=q1
 cases r1
 exact wpAny_truthy_bool ⟨H1,I1,q⟩
theorem eS {e:Expr} {t:TE} (h:PE X e t) (he:∀ whole,isTrue e X.env whole=(do let v ← whole;standAt e.pos;holding [v] (truthy v)):=by intro _;rfl):PT X e (tB t):=by
 intro pins s σ H Q I hw
 refine isTrue_plain (thn (h pins s σ H _ I hw) fun v s1 ⟨x,H1,I1,r1,q1⟩=>?_) (he _)
 obtain ⟨d,rfl,q⟩:=q1
 cases r1
 exact wpAny_truthy_bool ⟨H1,I1,q⟩
variable {tA tB':TT} {rest:List Expr}
noncomputable def tAnd (t u:TT):TT:=fun σ H Q=>t σ H fun c H1=>if c=true then u σ H1 Q else Q false H1
noncomputable def tOr (t u:TT):TT:=fun σ H Q=>t σ H fun c H1=>if c=true then Q true H1 else u σ H1 Q
noncomputable def tNot (t:TT):TT:=fun σ H Q=>t σ H fun c H1=>Q (!c) H1
theorem vZ (ha:PT X a tA):PW X (.BoolOp .And [a] pos) tA:=by
 intro wh pins s σ H Q I h
 refine isTrue_and (thn (ha pins s σ H Q I h) fun c s1 e=>?_)
 cases c with
 | true=>exact isTrue_and_nil e
 | false=>exact e
theorem ym (ha:PT X a tA):PW X (.BoolOp .Or [a] pos) tA:=by
 intro wh pins s σ H Q I h
 refine isTrue_or (thn (ha pins s σ H Q I h) fun c s1 e=>?_)
 cases c with
 | false=>exact isTrue_or_nil e
 | true=>exact e
theorem BY (ha:PT X a tA) (hb:PW X (.BoolOp .And (b::rest) pos) tB'):PW X (.BoolOp .And (a::b::rest) pos) (tAnd tA tB'):=by
 intro wh pins s σ H Q I h
 refine isTrue_and (thn (ha pins s σ H _ I h) fun c s1 ⟨H1,I1,q1⟩=>?_)
 cases c with
 | true=>exact hb wh pins s1 σ H1 Q I1 q1
 | false=>exact ⟨H1,I1,q1⟩
theorem vY (ha:PT X a tA) (hb:PW X (.BoolOp .Or (b::rest) pos) tB'):PW X (.BoolOp .Or (a::b::rest) pos) (tOr tA tB'):=by
 intro wh pins s σ H Q I h
 refine isTrue_or (thn (ha pins s σ H _ I h) fun c s1 ⟨H1,I1,q1⟩=>?_)
 cases c with
 | true=>exact ⟨H1,I1,q1⟩
 | false=>exact hb wh pins s1 σ H1 Q I1 q1
theorem jY (ha:PT X a tA):PT X (.UnaryOp .Not a pos) (tNot tA):=by
 intro pins s σ H Q I h
 exact isTrue_not (ha pins s σ H (fun c H1=>Q (!c) H1) I h)
noncomputable def Nr (ta tb:TE):TE:=fun σ H Q=>ta σ H fun x H1=>∃ c,x= .bl c∧if c=true then tb σ H1 Q else Q (.bl false) H1
theorem Oo {op} {t:TE} (h:PE X a t):PE X (.BoolOp op [a] pos) t:=fun pins s σ H Q I hw=>BoolOp_one (h pins s σ H Q I hw)
theorem Os (ha:PE X a ta) (hb:PE X (.BoolOp .And (b::rest) pos) tb):PE X (.BoolOp .And (a::b::rest) pos) (Nr ta tb):=by
 intro pins s σ H Q I h
 refine BoolOp_and (thn (ha pins s σ H _ I h) fun v s1 ⟨x,H1,I1,r1,q1⟩=>?_)
 obtain ⟨c,rfl,q1⟩:=q1
 cases r1
 refine wpAny_truthy_bool ?_
 cases c with
 | true=>exact hb pins s1 σ H1 Q I1 q1
 | false=>exact ⟨.bl false,H1,I1,rfl,q1⟩
noncomputable def tIf (t:TT) (ta tb:TE):TE:=fun σ H Q=>t σ H fun c H1=>if c=true then ta σ H1 Q else tb σ H1 Q
theorem JP {c:Expr} (hc:PT X c tA) (ha:PE X a ta) (hb:PE X b tb):PE X (.IfExp c a b pos) (tIf tA ta tb):=by
 intro pins s σ H Q I h
 refine wpAny_IfExp (thn (hc pins s σ H _ I h) fun d s1 ⟨H1,I1,q1⟩=>?_)
 cases d with
 | true=>exact ha pins s1 σ H1 Q I1 q1
 | false=>exact hb pins s1 σ H1 Q I1 q1
end
noncomputable def SqL (K:PySem.W.Frag) (H:Hp) (a:Addr) (xs:List V):Prop:=
 Rd H a (.lst xs)∨
  ∃ (o:Obj) (its:Array Value) (n:Nat),K.lookup a=some o∧o.cls= .type "list"∧o.dict=none∧o.data= .seq its n∧its.size≤sizeLine∧Vals xs its.toList
noncomputable def SqT (K:PySem.W.Frag) (H:Hp) (a:Addr) (xs:List V):Prop:=
 Rd H a (.tup xs)∨
  ∃ (o:Obj) (its:Array Value) (n:Nat),K.lookup a=some o∧o.cls= .type "tuple"∧o.data= .seq its n∧its.size≤sizeLine∧Vals xs its.toList
noncomputable def absV:Value→Option V
 | .none=>some .non
 | .bool b=>some (.bl b)
 | .int i _=>some (.int i)
 | .str x _=>some (.str x)
 | .bytes b _=>some (.byt b)
 | .float b _=>some (.flt b)
 | .ref a=>some (.ref a)
 | .type n=>some (.ty n)
 | _=>none
theorem RelV.abs {x:V} {u:Value} (r:RelV x u):absV u=some x:=by
 cases x with
 | non=>cases r;rfl
 | bl _=>cases r;rfl
 | int _=>obtain ⟨t,rfl⟩:=r;rfl
 | str _=>obtain ⟨t,rfl⟩:=r;rfl
 | byt _=>obtain ⟨t,rfl⟩:=r;rfl
 | flt _=>obtain ⟨t,rfl⟩:=r;rfl
 | ref _=>cases r;rfl
 | ty _=>cases r;rfl
theorem RelV.inj {x y:V} {u:Value} (r:RelV x u) (q:RelV y u):x=y:=Option.some.inj (r.abs.symm.trans q.abs)
theorem Vals.inj:∀ {xs ys:List V} {us:List Value},Vals xs us→Vals ys us→xs=ys
 | _,_,_,.nil,.nil=>rfl
 | _,_,_,.cons r t,.cons r' t'=>by rw [r.inj r',Vals.inj t t']
section
variable {X:Cx} {pins:List (Addr×Obj)} {σ:St} {H:Hp} {s:Shared} {a:Addr} {xs ys:List V}
theorem SqL.of {K:PySem.W.Frag} (h:H a=some (.lst xs)):SqL K H a xs:= .inl (.inl h)
theorem SqT.of {K:PySem.W.Frag} (h:H a=some (.tup xs)):SqT K H a xs:= .inl (.inl h)
theorem Inv.list (I:Inv X pins σ H s) (h:SqL X.K H a xs):∃ its:List Value,Vals xs its∧PlainL s.heap a its.toArray∧xs.length≤sizeLine:=by
 rcases h with h | ⟨o,its,n,hk,hc,hd,hs,hz,r⟩
 ·obtain ⟨z,its,n,r,e⟩:=h.ok I.hok
  exact ⟨its,r,⟨_,n,e,rfl,rfl,rfl⟩,z⟩
 ·refine ⟨its.toList,r,⟨o,n,I.kIn a o hk,hc,hd,by simpa using hs⟩,?_⟩
  have e:=r.length
  simp only [Array.length_toList] at e
  omega
theorem Inv.tuple (I:Inv X pins σ H s) (h:SqT X.K H a xs):∃ its:List Value,Vals xs its∧IsTup s.heap a its.toArray∧xs.length≤sizeLine:=by
 rcases h with h | ⟨o,its,n,hk,hc,hs,hz,r⟩
 ·obtain ⟨z,its,r,p⟩:=h.ok I.hok
  exact ⟨its,r,p,z⟩
 ·refine ⟨its.toList,r,⟨o,I.kIn a o hk,hc,n,by simpa using hs⟩,?_⟩
  have e:=r.length
  simp only [Array.length_toList] at e
  omega
theorem Inv.list_inj (I:Inv X pins σ H s) (h:SqL X.K H a xs) (h':SqL X.K H a ys):xs=ys:=by
 obtain ⟨its,r,⟨o,n,e,_,_,d⟩,_⟩:=I.list h
 obtain ⟨its',r',⟨o',n',e',_,_,d'⟩,_⟩:=I.list h'
 rw [e] at e';cases e'
 rw [d] at d'
 injection d' with d1 _
 have:its=its':=by simpa using congrArg Array.toList d1
 subst this
 exact r.inj r'
theorem Inv.tuple_inj (I:Inv X pins σ H s) (h:SqT X.K H a xs) (h':SqT X.K H a ys):xs=ys:=by
 obtain ⟨its,r,⟨o,e,_,n,d⟩,_⟩:=I.tuple h
 obtain ⟨its',r',⟨o',e',_,n',d'⟩,_⟩:=I.tuple h'
 rw [e] at e';cases e'
 rw [d] at d'
 injection d' with d1 _
 have:its=its':=by simpa using congrArg Array.toList d1
 subst this
 exact r.inj r'
end
noncomputable abbrev Cx.wish (X:Cx) (E:Value→Shared→Prop):Cx:={X with xe:=E}
noncomputable abbrev Cx.nox (X:Cx):Cx:=X.wish fun _ _=>False
theorem Cx.Ok.wish {X:Cx} (ok:X.Ok) (E:Value→Shared→Prop):(X.wish E).Ok:=
 ⟨ok.mod,ok.kind,ok.glob,ok.blt,ok.above,ok.inj,ok.has,ok.cab,ok.hd,ok.frames,ok.stk,ok.exf,ok.bs,ok.bsz,ok.noex,ok.exfs,ok.funs,ok.frf⟩
theorem Cx.Ok.unwish {X:Cx} {E:Value→Shared→Prop} (ok:(X.wish E).Ok):X.Ok:=
 ⟨ok.mod,ok.kind,ok.glob,ok.blt,ok.above,ok.inj,ok.has,ok.cab,ok.hd,ok.frames,ok.stk,ok.exf,ok.bs,ok.bsz,ok.noex,ok.exfs,ok.funs,ok.frf⟩
section
variable {X:Cx} {pins:List (Addr×Obj)} {σ:St} {H:Hp} {s:Shared} {E:Value→Shared→Prop}
theorem Inv.wish (I:Inv X pins σ H s) (E:Value→Shared→Prop):Inv (X.wish E) pins σ H s:=⟨I.ok.wish E,I.os,I.bare,I.base,I.loc,I.cell,I.free,I.freeC,I.pin,I.hok,I.len⟩
theorem Inv.unwish (I:Inv (X.wish E) pins σ H s):Inv X pins σ H s:=⟨I.ok.unwish,I.os,I.bare,I.base,I.loc,I.cell,I.free,I.freeC,I.pin,I.hok,I.len⟩
theorem SP.unwish {D:Ends} {f:Flow} {s':Shared} (h:SP (X.wish E) pins D f s'):SP X pins D f s':=by
 cases f with
 | next=>obtain ⟨σ',H',I,q⟩:=h;exact ⟨σ',H',I.unwish,q⟩
 | brk=>obtain ⟨σ',H',I,q⟩:=h;exact ⟨σ',H',I.unwish,q⟩
 | cont=>obtain ⟨σ',H',I,q⟩:=h;exact ⟨σ',H',I.unwish,q⟩
 | ret u=>obtain ⟨v,σ',H',I,r,q⟩:=h;exact ⟨v,σ',H',I.unwish,r,q⟩
theorem PSs.nox {st:List Stmt} {t:TS} (h:PSs X.nox st t):PSs X st t:=fun pins s σ H D I hw=>
 wpAny_mono (h pins s σ H D (I.wish _) hw) (fun _ _ q=>q.unwish) fun _ _ z=>False.elim z
end
section
variable {X:Cx} {st:Stmt} {rest:List Stmt} {t u:TS} {e:Expr} {te:TE} {pos:Pos}
noncomputable def Nj:TS:=fun D σ H=>D.nx σ H
noncomputable def tSeq (t u:TS):TS:=fun D σ H=>t {D with nx:=u D} σ H
theorem aR:PSs X [] Nj:=fun _ _ σ H _ I h=>wpAny_execs_nil ⟨σ,H,I,h⟩
theorem af (h1:PS X st t) (h2:PSs X rest u):PSs X (st::rest) (tSeq t u):=by
 intro pins s σ H D I h
 refine wpAny_execs_cons (thn (h1 pins s σ H {D with nx:=u D} I h) fun f s1 q=>?_)
 cases f with
 | next=>
   obtain ⟨σ',H',I',q⟩:=q
   exact h2 pins s1 σ' H' D I' q
 | ret v=>exact q
 | brk=>exact q
 | cont=>exact q
theorem al (h1:PS X st t):PSs X [st] t:=by
 intro pins s σ H D I h
 refine wpAny_execs_cons (thn (h1 pins s σ H D I h) fun f s1 q=>?_)
 cases f with
 | next=>exact wpAny_execs_nil q
 | ret v=>exact q
 | brk=>exact q
 | cont=>exact q
theorem Inv.quiet {pins:List (Addr×Obj)} {σ:St} {H:Hp} {s:Shared} (I:Inv X pins σ H s):interactive X.env=false:=by simp [interactive,I.ok.kind]
noncomputable def No (te:TE):TS:=fun D σ H=>te σ H fun _ H1=>D.nx σ H1
theorem bY (he:PE X e te) (hs:swapsWith e none pos.line X.env=pure false:=by rfl):PS X (.Expr e pos) (No te):=by
 intro pins s σ H D I h
 exact wpAny_Expr_any (thn (he pins s σ H _ I h) fun v s1 ⟨x,H1,I1,r1,q1⟩=>⟨σ,H1,I1,q1⟩) I.quiet hs
noncomputable def tRet (te:TE):TS:=fun D σ H=>te σ H D.rt
theorem a9 (he:PE X e te):PS X (.Return (some e) pos) (tRet te):=by
 intro pins s σ H D I h
 exact wpAny_Return_some (thn (he pins s σ H _ I h) fun v s1 ⟨x,H1,I1,r1,q1⟩=>⟨x,σ,H1,I1,r1,q1⟩)
noncomputable def tIfS (c:TT) (t u:TS):TS:=fun D σ H=>c σ H fun b H1=>if b=true then t D σ H1 else u D σ H1
theorem cw {c:Expr} {a b:List Stmt} {tc:TT} (hc:PT X c tc) (ha:PSs X a t) (hb:PSs X b u):PS X (.If c a b pos) (tIfS tc t u):=by
 intro pins s σ H D I h
 refine wpAny_If (thn (hc pins s σ H _ I h) fun d s1 ⟨H1,I1,q1⟩=>?_)
 cases d with
 | true=>exact ha pins s1 σ H1 D I1 q1
 | false=>exact hb pins s1 σ H1 D I1 q1
end
noncomputable abbrev TG:=V→St→Hp→(St→Hp→Prop)→Prop
noncomputable abbrev TGs:=List V→St→Hp→(St→Hp→Prop)→Prop
noncomputable def PG (X:Cx) (target:Expr) (t:TG):Prop:=
 ∀ (pins:List (Addr×Obj)) (s:Shared) (σ:St) (H:Hp) (v:V) (u:Value) (Q:St→Hp→Prop),Inv X pins σ H s→RelV v u→t v σ H Q→
  wpAny (model X.prog X.w) X.A (assign target X.env u) (fun _ s'=>∃ σ' H',Inv X pins σ' H' s'∧Q σ' H') X.xe s
noncomputable def PGs (X:Cx) (ts:List Expr) (t:TGs):Prop:=
 ∀ (pins:List (Addr×Obj)) (s:Shared) (σ:St) (H:Hp) (vs:List V) (us:List Value) (Q:St→Hp→Prop),Inv X pins σ H s→Vals vs us→t vs σ H Q→
  wpAny (model X.prog X.w) X.A (assignInOrder ((assignEach ts X.env).map (·.2)) us) (fun _ s'=>∃ σ' H',Inv X pins σ' H' s'∧Q σ' H') X.xe s
section
variable {X:Cx} {pos:Pos}
noncomputable def HK (i:Nat):TG:=fun v σ H Q=>Q (σ.set i (some v)) H
theorem az {i:Nat} {x:Str} (hN:X.N.Nodup) (hi:X.N[i]? =some x) (hx:Loc X.env.scope x) (hf:X.fn x=true∨X.env.scope.names.lookup x=some .local:=by first | exact .inl rfl | exact .inr rfl | assumption):PG X (.Name x pos) (HK i):=by
 intro pins s σ H v u Q I r h
 exact wpAny_assign_Name (vL I hN hi hx r (fun s' I'=>⟨_,H,I',h⟩) hf)
noncomputable def gNil:TGs:=fun vs σ H Q=>vs=[]∧Q σ H
noncomputable def MJ (t:TG) (u:TGs):TGs:=fun vs σ H Q=>∃ v r,vs=v::r∧t v σ H fun σ' H'=>u r σ' H' Q
theorem gL:PGs X [] gNil:=by
 intro pins s σ H vs us Q I r h
 obtain ⟨e,h⟩:=h
 subst e
 cases r
 exact assignInOrder_nil ⟨σ,H,I,h⟩
theorem bu {e:Expr} {es:List Expr} {t:TG} {u:TGs} (h1:PG X e t) (h2:PGs X es u)
  (hs:(assignEach (e::es) X.env).map (·.2)=assign e X.env::(assignEach es X.env).map (·.2):=by rfl):PGs X (e::es) (MJ t u):=by
 intro pins s σ H vs us Q I r h
 obtain ⟨v,vr,e1,h⟩:=h
 subst e1
 cases r with
 | cons r rr=>
   rw [hs]
   refine assignInOrder_cons (thn (h1 pins s σ H _ _ _ I r h) fun _ s1 ⟨σ1,H1,I1,q1⟩=>?_)
   exact h2 pins s1 σ1 H1 _ _ Q I1 rr q1
noncomputable def gTup (K:PySem.W.Frag) (n:Nat) (t:TGs):TG:=fun v σ H Q=>∃ a xs,v= .ref a∧SqT K H a xs∧xs.length=n∧t xs σ H Q
theorem yr {es:List Expr} {k:Nat} {t:TGs} {n:Nat} (hc:X.calm=true) (h:PGs X es t)
  (hn:(assignEach es X.env).length=n:=by rfl) (hst:(assignEach es X.env).findIdx? (·.1)=none:=by rfl):PG X (.Tuple es k pos) (gTup X.K n t):=by
 intro pins s σ H v u Q I r hw
 obtain ⟨a,xs,e1,hq,hl,hw⟩:=hw
 subst e1
 cases r
 obtain ⟨its,rv,ht,hz⟩:=I.tuple hq
 refine assign_Tuple_tuple (I.ok.hd hc) ht (by simp [hn,← hl,rv.length]) hst fun h' hx=>?_
 have I1:Inv X pins σ H {s with heap:=h'}:=I.kept (t':=s.toks) fun b o e=>hx b o (Nat.ne_of_lt (Heap.lt_size e)) e
 exact h pins _ σ H xs _ Q I1 (by simpa using rv) hw
noncomputable def tAsg (te:TE) (g:TG):TS:=fun D σ H=>te σ H fun x H1=>g x σ H1 D.nx
theorem GP {tg e:Expr} {te:TE} {g:TG} (he:PE X e te) (hg:PG X tg g) (hs:swapsWithSole [tg] e pos.line X.env=pure false:=by rfl) (hw:swappedStores [tg] e X.env=pure none:=by rfl)
  (h1:(assignEach [tg] X.env).map (·.2)=[assign tg X.env]:=by rfl):PS X (.Assign [tg] e pos) (tAsg te g):=by
 intro pins s σ H D I h
 refine wpAny_Assign_stores (thn (he pins s σ H _ I h) fun v s1 ⟨x,H1,I1,r1,q1⟩=>?_) hs hw
 rw [h1]
 exact thn (hg pins s1 σ H1 x v _ I1 r1 q1) fun _ s2 q=>q
theorem bf {i:Nat} {x:Str} {e:Expr} {te:TE} {pos':Pos} (hN:X.N.Nodup) (hi:X.N[i]? =some x) (hx:Loc X.env.scope x) (he:PE X e te) (hs:swapsWith e (some (.Name x pos')) pos.line X.env=pure false:=by rfl) (hf:X.fn x=true∨X.env.scope.names.lookup x=some .local:=by first | exact .inl rfl | exact .inr rfl | assumption):
  PS X (.Assign [.Name x pos'] e pos) (tAsg te (HK i)):=by
 intro pins s σ H D I h
 refine wpAny_Assign_Name (thn (he pins s σ H _ I h) fun v s1 ⟨y,H1,I1,r1,q1⟩=>?_) hs
 exact vL I1 hN hi hx r1 (fun s2 I2=>⟨_,H1,I2,q1⟩) hf
end
section
variable {X:Cx} {pos:Pos}
noncomputable def Ng (c:TT) (tb:TS):TS:=fun D σ H=>∃ W:Nat→St→Hp→Prop,(∃ m,W m σ H)∧∀ m σ H,W m σ H→
 c σ H fun b H1=>if b=true then ∃ N:St→Hp→Prop,(∀ σ' H',N σ' H'→∃ m',m' < m∧W m' σ' H')∧tb {D with nx:=N,ct:=N,bk:=D.nx} σ H1 else D.nx σ H1
theorem JL {c:Expr} {body:List Stmt} {tc:TT} {tb:TS} (hp:PassesOwn (model X.prog X.w) X.A X.env X.xe) (hc:PT X c tc) (hb:PSs X body tb):PS X (.While c body [] pos) (Ng tc tb):=by
 intro pins s σ H D I h
 obtain ⟨W,⟨m0,w0⟩,turn⟩:=h
 refine wpAny_While (codeAny_whileLoop (fun n s'=>∃ σ' H',Inv X pins σ' H' s'∧W n σ' H') ?_ m0 ⟨σ,H,I,w0⟩)
 rintro n s1 ⟨σ1,H1,I1,w1⟩
 refine wpAny_passesOwn hp (thn (hc pins s1 σ1 H1 _ I1 (turn n σ1 H1 w1)) fun b s2 ⟨H2,I2,q2⟩=>?_)
 cases b with
 | true=>
   obtain ⟨N,hN,q2⟩:=q2
   rw [if_pos rfl]
   refine wpAny_passesOwn hp (thn (hb pins s2 σ1 H2 _ I2 q2) fun f s3 q3=>?_)
   cases f with
   | next=>
     obtain ⟨σ3,H3,I3,n3⟩:=q3
     obtain ⟨m',hm,w3⟩:=hN σ3 H3 n3
     exact ⟨m',hm,σ3,H3,I3,w3⟩
   | cont=>
     obtain ⟨σ3,H3,I3,n3⟩:=q3
     obtain ⟨m',hm,w3⟩:=hN σ3 H3 n3
     exact ⟨m',hm,σ3,H3,I3,w3⟩
   | brk=>exact q3
   | ret v=>exact q3
 | false=>
   rw [if_neg Bool.false_ne_true]
   exact wpAny_execs_nil ⟨σ1,H2,I2,q2⟩
end
structure It where
 go:Nat→Hp→Prop
 yld:Nat→Hp→V→Hp→Prop
 stop:Nat→Hp→Prop
noncomputable def FpOk (X:Cx) (pins:List (Addr×Obj)) (H:Hp) (b:Addr):Prop:=
 H b=none∧b≠X.env.locals∧b∉X.fs∧(b∈X.ex∨X.s₀.heap.objs.size≤b)∧(∀ x c,X.env.cells.lookup x=some c→c≠b)∧∀ p∈X.pn++pins,p.1≠b
theorem Inv.fpOk {X:Cx} {pins:List (Addr×Obj)} {σ:St} {H H':Hp} {s:Shared} {b:Addr} (I:Inv X pins σ H s) (hb:s.heap.objs.size≤b) (hn:H' b=none):FpOk X pins H' b:=by
 refine ⟨hn,Nat.ne_of_gt (Nat.lt_of_lt_of_le I.lt hb),I.nofs hb,.inr (Nat.le_trans I.sz hb),fun x c e z=>?_,fun p hp z=>?_⟩
 ·obtain ⟨v,q⟩:=I.cell x c e
  exact absurd (Nat.lt_of_lt_of_le q.lt (by rw [z];exact hb)) (Nat.lt_irrefl _)
 ·exact absurd (Nat.lt_of_lt_of_le (Heap.lt_size (I.pin p hp).1) (by rw [z];exact hb)) (Nat.lt_irrefl _)
structure Turn (P:Program) (w:World) (K:PySem.W.Frag) (tg:Expr) (J:It) (fp:List Addr) (it:Addr) (tn:Nat→Heap→Prop):Prop where
 mem:it∈fp
 obj:∀ i h,tn i h→∀ b∈fp,∃ o,h.get? b=some o∧∀ v,o.data≠.cell v
 keep:∀ i h h',tn i h→(∀ b∈fp,∀ o,h.get? b=some o→h'.get? b=some o)→tn i h'
 item:∀ (X:Cx),X.prog=P→X.w=w→X.K=K→X.calm=true→∀ (i:Nat) (pins:List (Addr×Obj)) (s:Shared) (σ:St) (H:Hp) (E:Value→Shared→Prop),Inv X pins σ H s→(∀ b∈fp,FpOk X pins H b)→tn i s.heap→J.go i H→
  wpAny (model P w) X.A (pyNext (.ref it)) (fun r s1=>∃ u,r=some u∧
   wpAny (model P w) X.A (letOwnedTupleGo tg (.ref it) u) (fun _ s2=>∃ x H',Inv X pins σ H' s2∧RelV x u∧J.yld i H x H'∧tn (i + 1) s2.heap∧∀ b∈fp,H' b=none) E s1) E s
 done:∀ (X:Cx),X.prog=P→X.w=w→X.K=K→X.calm=true→∀ (i:Nat) (pins:List (Addr×Obj)) (s:Shared) (σ:St) (H:Hp) (E:Value→Shared→Prop),Inv X pins σ H s→(∀ b∈fp,FpOk X pins H b)→tn i s.heap→J.stop i H→
  wpAny (model P w) X.A (pyNext (.ref it)) (fun r s1=>r=none∧Inv X pins σ H s1) E s
 self:∀ (A:Around) (i:Nat) (s:Shared) (Q:Value→Shared→Prop) (E:Value→Shared→Prop),tn i s.heap→Q (.ref it) s→wpAny (model P w) A (pyIter (.ref it)) Q E s
noncomputable abbrev TI:=St→Hp→(It→Hp→Prop)→Prop
noncomputable def PIE (X:Cx) (pins:List (Addr×Obj)) (σ:St) (tg:Expr) (R:It→Hp→Prop) (itv:Value) (s2:Shared):Prop:=
 ∃ (it:Addr) (fp:List Addr) (tn:Nat→Heap→Prop) (J:It) (H':Hp),itv= .ref it∧Inv X pins σ H' s2∧Turn X.prog X.w X.K tg J fp it tn∧tn 0 s2.heap∧(∀ b∈fp,FpOk X pins H' b)∧R J H'
noncomputable def PI (X:Cx) (tg iter:Expr) (wi:TI):Prop:=
 ∀ (pins:List (Addr×Obj)) (s:Shared) (σ:St) (H:Hp) (R:It→Hp→Prop),Inv X pins σ H s→wi σ H R→
  wpAny (model X.prog X.w) X.A (eval iter X.env) (fun v s1=>wpAny (model X.prog X.w) X.A (pyIter v) (PIE X pins σ tg R) X.xe s1) X.xe s
theorem Ko {M:Model} {A:Around} {E:Value→Shared→Prop} {s:Shared} {tg:Expr} {it:Addr} {u:Value} {o:Obj} {n:String} {vs:Array Value} {Q:Unit→Shared→Prop} (ho:s.heap.get? it=some o) (hc:o.cls= .type n) (hd:o.data= .fields vs)
  (hn:["enumerate","zip","dict_itemiterator","dict_reverseitemiterator","odict_iterator","itertools.zip_longest","itertools.pairwise"].contains n=false) (hQ:Q () s):wpAny M A (letOwnedTupleGo tg (.ref it) u) Q E s:=by
 unfold letOwnedTupleGo
 cases tg<;>first
  | exact wpAny_pure hQ
  | (cases u<;>first
    | exact wpAny_pure hQ
    | (refine wpAny_bind (wpAny_load ho ?_)
       rw [hc,hd]
       show wpAny M A (if (["enumerate","zip","dict_itemiterator","dict_reverseitemiterator","odict_iterator","itertools.zip_longest","itertools.pairwise"].contains n&&vs[0]? == some (rawInt _))=true then _ else _) Q E s
       rw [if_neg (by intro h;rw [hn,Bool.false_and] at h;cases h)]
       exact wpAny_pure hQ))
noncomputable def Itl (K:PySem.W.Frag) (a:Addr):It:=
 ⟨fun i H=>∃ xs x,SqL K H a xs∧xs[i]? =some x,fun i H x H'=>H'=H∧∀ xs,SqL K H a xs→xs[i]? =some x,fun i H=>∃ xs,SqL K H a xs∧xs.length≤i⟩
noncomputable def Itt (K:PySem.W.Frag) (a:Addr):It:=
 ⟨fun i H=>∃ xs x,SqT K H a xs∧xs[i]? =some x,fun i H x H'=>H'=H∧∀ xs,SqT K H a xs→xs[i]? =some x,fun i H=>∃ xs,SqT K H a xs∧xs.length≤i⟩
noncomputable def Itr (lo:Int) (n:Nat):It:=⟨fun i _=>i < n,fun i H x H'=>H'=H∧x= .int (lo + i),fun i _=>n≤i⟩
theorem x8 {P:Program} {w:World} {K:PySem.W.Frag} {tg:Expr} (a it:Addr):Turn P w K tg (Itl K a) [it] it (fun i h=>h.IsListIter it a i) where
 mem:=by simp
 obj:=fun i h st b hb=>by
  have e:b=it:=by simpa using hb
  subst e
  obtain ⟨o,e,c,d⟩:=st
  exact ⟨o,e,fun v z=>by rw [d] at z;cases z⟩
 keep:=fun i h h' st k=>st.at fun o e=>k it (by simp) o e
 item:=by
  intro X hP hw hK hc i pins s σ H E I hf st hg
  subst hP hw hK
  obtain ⟨xs,x,hq,hx⟩:=hg
  obtain ⟨its,rv,p,hz⟩:=I.list hq
  obtain ⟨u,hu,ru⟩:=rv.get hx
  obtain ⟨f0,f1,f2,f3,f4,f5⟩:=hf it (by simp)
  refine wpAny_pyNext_list_item st p.isList (x:=u) (by simpa using hu) fun h' st' sb=>?_
  have I1:Inv X pins σ H {s with heap:=h'}:=I.turned (t':=s.toks) (fun b o hb e=>(sb.2 b hb).trans e) f0 f1 f3 f4 f5
  obtain ⟨o,e,c,d⟩:=id st'
  exact ⟨u,rfl,Ko (s:={s with heap:=h'}) e c d (by decide) ⟨x,H,I1,ru,⟨rfl,fun ys hy=>by rw [I.list_inj hy hq];exact hx⟩,st',fun b hb=>(hf b hb).1⟩⟩
 done:=by
  intro X hP hw hK hc i pins s σ H E I hf st hg
  subst hP hw hK
  obtain ⟨xs,hq,hx⟩:=hg
  obtain ⟨its,rv,p,hz⟩:=I.list hq
  obtain ⟨f0,f1,f2,f3,f4,f5⟩:=hf it (by simp)
  have hl:=rv.length
  exact wpAny_pyNext_list_end (I.ok.hd hc) st p.isList (by simp;omega) fun h' eb=>⟨rfl,I.turned (t':=s.toks) (fun b o hb e=>eb b o hb e) f0 f1 f3 f4 f5⟩
 self:=fun _ _ _ _ _ st h=>wpAny_pyIter_listiter st h
theorem va {P:Program} {w:World} {K:PySem.W.Frag} {tg:Expr} (a it:Addr):Turn P w K tg (Itt K a) [it] it (fun i h=>h.IsTupleIter it a i) where
 mem:=by simp
 obj:=fun i h st b hb=>by
  have e:b=it:=by simpa using hb
  subst e
  obtain ⟨o,e,c,d⟩:=st
  exact ⟨o,e,fun v z=>by rw [d] at z;cases z⟩
 keep:=fun i h h' st k=>st.at fun o e=>k it (by simp) o e
 item:=by
  intro X hP hw hK hc i pins s σ H E I hf st hg
  subst hP hw hK
  obtain ⟨xs,x,hq,hx⟩:=hg
  obtain ⟨its,rv,p,hz⟩:=I.tuple hq
  obtain ⟨u,hu,ru⟩:=rv.get hx
  obtain ⟨f0,f1,f2,f3,f4,f5⟩:=hf it (by simp)
  refine wpAny_pyNext_tuple_item st (show s.heap.IsTuple a its.toArray from p) (x:=u) (by simpa using hu) fun h' st' sb=>?_
  have I1:Inv X pins σ H {s with heap:=h'}:=I.turned (t':=s.toks) (fun b o hb e=>(sb.2 b hb).trans e) f0 f1 f3 f4 f5
  obtain ⟨o,e,c,d⟩:=id st'
  exact ⟨u,rfl,Ko (s:={s with heap:=h'}) e c d (by decide) ⟨x,H,I1,ru,⟨rfl,fun ys hy=>by rw [I.tuple_inj hy hq];exact hx⟩,st',fun b hb=>(hf b hb).1⟩⟩
 done:=by
  intro X hP hw hK hc i pins s σ H E I hf st hg
  subst hP hw hK
  obtain ⟨xs,hq,hx⟩:=hg
  obtain ⟨its,rv,p,hz⟩:=I.tuple hq
  obtain ⟨f0,f1,f2,f3,f4,f5⟩:=hf it (by simp)
  have hl:=rv.length
  exact wpAny_pyNext_tuple_end (I.ok.hd hc) st (show s.heap.IsTuple a its.toArray from p) (by simp;omega) fun h' eb=>⟨rfl,I.turned (t':=s.toks) (fun b o hb e=>eb b o hb e) f0 f1 f3 f4 f5⟩
 self:=fun _ _ _ _ _ st h=>wpAny_pyIter_tupleiter st h
theorem C1 {P:Program} {w:World} {K:PySem.W.Frag} {tg:Expr} (it:Addr) (lo:Int) (n:Nat):Turn P w K tg (Itr lo n) [it] it (fun i h=>IsRangeIter h it (lo + (i:Nat) * 1) ((n:Int) - (i:Nat)) 1) where
 mem:=by simp
 obj:=fun i h st b hb=>by
  have e:b=it:=by simpa using hb
  subst e
  exact ⟨_,st,fun v z=>by
   have z':Data.fields _=Data.cell v:=z
   cases z'⟩
 keep:=fun i h h' st k=>k it (by simp) _ st
 item:=by
  intro X hP hw hK hc i pins s σ H E I hf st hg
  subst hP hw hK
  obtain ⟨f0,f1,f2,f3,f4,f5⟩:=hf it (by simp)
  have W:=Walks.range (prog:=X.prog) (w:=X.w) (I.ok.hd hc) it lo 1 n
  refine W.item i s _ _ hg st fun v h' tk hv st' kk=>?_
  obtain ⟨t,rfl⟩:=hv
  have I1:Inv X pins σ H {s with heap:=h',toks:=tk}:=I.turned (fun b o hb e=>kk b o (by simpa using hb) e) f0 f1 f3 f4 f5
  refine ⟨_,rfl,Ko (s:={s with heap:=h',toks:=tk}) (n:="range_iterator") st' rfl rfl (by decide) ⟨.int (lo + i),H,I1,⟨t,?_⟩,⟨rfl,rfl⟩,st',fun b hb=>(hf b hb).1⟩⟩
  rw [Int.mul_one]
 done:=by
  intro X hP hw hK hc i pins s σ H E I hf st hg
  subst hP hw hK
  obtain ⟨f0,f1,f2,f3,f4,f5⟩:=hf it (by simp)
  exact wpAny_pyNext_range_end (I.ok.hd hc) st (by have:n≤i:=hg;omega) fun h' eb=>⟨rfl,I.turned (t':=s.toks) (fun b o hb e=>eb b o hb e) f0 f1 f3 f4 f5⟩
 self:=fun _ _ _ _ _ st h=>wpAny_pyIter_rangeiter st h
section
variable {X:Cx} {tg:Expr}
noncomputable def MG (K:PySem.W.Frag) (tl:TE):TI:=fun σ H R=>tl σ H fun x H1=>∃ a,x= .ref a∧(∃ xs,SqL K H1 a xs)∧R (Itl K a) H1
noncomputable def iTup (K:PySem.W.Frag) (tl:TE):TI:=fun σ H R=>tl σ H fun x H1=>∃ a,x= .ref a∧(∃ xs,SqT K H1 a xs)∧R (Itt K a) H1
theorem Mg {l:Expr} {tl:TE} (hl:PE X l tl):PI X tg l (MG X.K tl):=by
 intro pins s σ H R I h
 refine thn (hl pins s σ H _ I h) fun v s1 ⟨x,H1,I1,r1,q1⟩=>?_
 obtain ⟨a,e,⟨xs,hq⟩,q⟩:=q1
 subst e
 cases r1
 obtain ⟨its,rv,p,hz⟩:=I1.list hq
 refine wpAny_pyIter_list p.isList ?_
 refine ⟨s1.heap.objs.size,[s1.heap.objs.size],_,_,H1,rfl,I1.kept (t':=s1.toks) fun b o e=>Heap.get?_push_of_some _ e,x8 a _,⟨_,Heap.get?_push_size _ rfl,rfl,rfl⟩,fun b hb=>?_,q⟩
 have e:b=s1.heap.objs.size:=by simpa using hb
 subst e
 exact I1.fpOk (Nat.le_refl _) (I1.hok.fresh (Nat.le_refl _))
theorem Ol {l:Expr} {tl:TE} (hl:PE X l tl):PI X tg l (iTup X.K tl):=by
 intro pins s σ H R I h
 refine thn (hl pins s σ H _ I h) fun v s1 ⟨x,H1,I1,r1,q1⟩=>?_
 obtain ⟨a,e,⟨xs,hq⟩,q⟩:=q1
 subst e
 cases r1
 obtain ⟨its,rv,p,hz⟩:=I1.tuple hq
 refine wpAny_pyIter_tuple (show s1.heap.IsTuple a its.toArray from p) ?_
 refine ⟨s1.heap.objs.size,[s1.heap.objs.size],_,_,H1,rfl,I1.kept (t':=s1.toks) fun b o e=>Heap.get?_push_of_some _ e,va a _,⟨_,Heap.get?_push_size _ rfl,rfl,rfl⟩,fun b hb=>?_,q⟩
 have e:b=s1.heap.objs.size:=by simpa using hb
 subst e
 exact I1.fpOk (Nat.le_refl _) (I1.hok.fresh (Nat.le_refl _))
theorem JJ {pins:List (Addr×Obj)} {σ:St} {H:Hp} {s:Shared} {R:It→Hp→Prop} {E:Value→Shared→Prop} {lo hi:Int} {t u v:Tok} {tk:Nat} (I:Inv X pins σ H s) (h1: -(2 ^ 62)≤lo) (h2:lo < 2 ^ 62) (h3: -(2 ^ 62)≤hi) (h4:hi < 2 ^ 62)
  (q:R (Itr lo (hi - lo).toNat) H):wpAny (model X.prog X.w) X.A (pyIter (.ref s.heap.objs.size)) (PIE X pins σ tg R) E {s with heap:=s.heap.push {cls:= .type "range",data:= .fields #[.int lo t,.int hi u,.int 1 v]},toks:=tk}:=by
 refine wpAny_pyIter_range (IsRange.new ..) (small_one h1 h2 h3 h4) ?_
 have I1:Inv X pins σ H {s with heap:=s.heap.push {cls:= .type "range",data:= .fields #[.int lo t,.int hi u,.int 1 v]},toks:=tk}:=I.kept fun b o e=>Heap.get?_push_of_some _ e
 refine ⟨(s.heap.push {cls:= .type "range",data:= .fields #[.int lo t,.int hi u,.int 1 v]}).objs.size,[(s.heap.push {cls:= .type "range",data:= .fields #[.int lo t,.int hi u,.int 1 v]}).objs.size],_,_,H,rfl,
  I1.kept (t':=tk) fun b o e=>Heap.get?_push_of_some _ e,C1 _ lo (hi - lo).toNat,?_,fun b hb=>?_,q⟩
 ·have e1:lo + ((0:Nat):Int) * 1=lo:=by simp
  have e2:(((hi - lo).toNat:Nat):Int) - ((0:Nat):Int)=Builtin.Range.rangeSize lo hi 1:=by rw [rangeSize_one];split<;>omega
  show IsRangeIter _ _ (lo + ((0:Nat):Int) * 1) ((((hi - lo).toNat:Nat):Int) - ((0:Nat):Int)) 1
  rw [e1,e2]
  exact Heap.get?_push_size _ rfl
 ·have e:b=(s.heap.push {cls:= .type "range",data:= .fields #[.int lo t,.int hi u,.int 1 v]}).objs.size:=by simpa using hb
  subst e
  exact I1.fpOk (Nat.le_refl _) (I1.hok.fresh (Nat.le_refl _))
noncomputable def OR (ta:TA):TI:=fun σ H R=>ta σ H fun vs H1=>∃ j:Int,vs=[.int j]∧-(2 ^ 62)≤j∧j < 2 ^ 62∧R (Itr 0 j.toNat) H1
theorem fU {a:Expr} {ta:TA} {p pos:Pos} (hg:Gl X "range") (hm:X.mg "range"=none) (ha:PA X [a] ta) (hs:starEach [a] X.env=[(false,eval a X.env)]:=by rfl):PI X tg (.Call (.Name "range" p) [a] [] pos) (OR ta):=by
 intro pins s σ H R I h
 refine Call_ (oq I hg hm boot_range (PyProof.Rows.callWith_type1 (thn (ha pos pins s σ H _ I h) fun us s1 ⟨vs,H1,I1,r1,q1⟩=>?_) hs rfl))
 obtain ⟨j,e,q1,q2,q⟩:=q1
 subst e
 cases r1 with
 | cons r rr=>
   cases rr
   obtain ⟨t,rfl⟩:=r
   exact call_range_1 (JJ I1 (by omega) (by omega) q1 q2 (by simpa using q))
noncomputable def tFor (wi:TI) (g:TG) (tb:TS):TS:=fun D σ H=>wi σ H fun J H1=>∃ W:Nat→Nat→St→Hp→Prop,(∃ m,W 0 m σ H1)∧∀ i m σ H,W i m σ H→
 (J.stop i H∧D.nx σ H)∨(J.go i H∧∃ N:St→Hp→Prop,(∀ σ' H',N σ' H'→∃ m',m' < m∧W (i + 1) m' σ' H')∧∀ x H',J.yld i H x H'→g x σ H' fun σ2 H2=>tb {D with nx:=N,ct:=N,bk:=D.nx} σ2 H2)
noncomputable def yq (fp:List Addr) (h:Heap):List (Addr×Obj):=fp.filterMap fun b=>(h.get? b).map fun o=>(b,o)
theorem jJ {fp:List Addr} {h:Heap} {b:Addr} {o:Obj} (hb:b∈fp) (e:h.get? b=some o):(b,o)∈yq fp h:=List.mem_filterMap.mpr ⟨b,hb,by rw [e];rfl⟩
theorem GW {fp:List Addr} {h:Heap} {p:Addr×Obj} (hp:p∈yq fp h):p.1∈fp∧h.get? p.1=some p.2:=by
 obtain ⟨b,hb,e⟩:=List.mem_filterMap.mp hp
 cases q:h.get? b with
 | none=>rw [q] at e;cases e
 | some o=>
   rw [q] at e
   have e':(b,o)=p:=Option.some.inj e
   subst e'
   exact ⟨hb,q⟩
theorem Inv.pinned {pins:List (Addr×Obj)} {σ:St} {H:Hp} {s:Shared} {fp:List Addr} (I:Inv X pins σ H s) (hf:∀ b∈fp,FpOk X pins H b) (ho:∀ b∈fp,∃ o,s.heap.get? b=some o∧∀ v,o.data≠.cell v):Inv X (pins++yq fp s.heap) σ H s:=
 I.pins_of fun p hp=>(List.mem_append.mp hp).elim (fun z=>I.pin p (List.mem_append_right _ z)) fun z=>by
  obtain ⟨hb,e⟩:=GW z
  obtain ⟨f0,f1,f2,_⟩:=hf p.1 hb
  obtain ⟨o,e',d⟩:=ho p.1 hb
  rw [e] at e';cases e'
  exact ⟨e,f0,f1,f2,d⟩
theorem Inv.unpinned {pins pl:List (Addr×Obj)} {σ:St} {H:Hp} {s:Shared} (I:Inv X (pins++pl) σ H s):Inv X pins σ H s:=I.pins_of fun p hp=>I.pin p (List.mem_append_right _ (List.mem_append_left _ hp))
theorem jZ {iter:Expr} {body:List Stmt} {wi:TI} {g:TG} {tb:TS} {pos:Pos} (hp:PassesOwn (model X.prog X.w) X.A X.env X.xe) (hc:X.calm=true) (hi:PI X tg iter wi) (hg:PG X tg g) (hb:PSs X body tb)
  (hs:∀ x,foldedSetIterable iter X.env x=pure x:=by intro _;rfl):PS X (.For tg iter body [] pos) (tFor wi g tb):=by
 intro pins s σ H D I h
 refine wpAny_For (thn (hi pins s σ H _ I h) fun v s1 h1=>thn h1 fun itv s2 h2=>?_) hs
 obtain ⟨it,fp,tn,J,H2,e,I2,T,st2,f2,W,⟨m0,w0⟩,turn⟩:=h2
 subst e
 have stat:∀ {H':Hp},(∀ b∈fp,H' b=none)→∀ b∈fp,FpOk X pins H' b:=fun hn b hb=>⟨hn b hb,(f2 b hb).2⟩
 refine codeAny_forLoop_any (fun n s'=>∃ i σ' H',Inv X pins σ' H' s'∧tn i s'.heap∧(∀ b∈fp,H' b=none)∧W i n σ' H') ?_ m0 ⟨0,σ,H2,I2,st2,fun b hb=>(f2 b hb).1,w0⟩
 rintro n s3 ⟨i,σ3,H3,I3,st3,fr3,w3⟩
 rcases turn i n σ3 H3 w3 with ⟨stop,qn⟩ | ⟨go,N,hN,step⟩
 ·refine wpAny_passesOwn hp (thn (T.done X rfl rfl rfl hc i pins s3 σ3 H3 X.xe I3 (stat fr3) st3 stop) fun r s4 ⟨hr,I4⟩=>?_)
  subst hr
  exact wpAny_execs_nil ⟨σ3,H3,I4,qn⟩
 ·refine wpAny_passesOwn hp (thn (T.item X rfl rfl rfl hc i pins s3 σ3 H3 X.xe I3 (stat fr3) st3 go) fun r s4 ⟨u,hr,h4⟩=>?_)
  subst hr
  refine wpAny_passesOwn hp (thn h4 fun _ s5 ⟨x,H5,I5,r5,y5,st5,fr5⟩=>?_)
  have I5':=I5.pinned (stat fr5) (T.obj _ _ st5)
  refine wpAny_passesOwn hp (thn (hg _ s5 σ3 H5 x u _ I5' r5 (step x H5 y5)) fun _ s6 ⟨σ6,H6,I6,q6⟩=>?_)
  refine wpAny_passesOwn hp (thn (hb _ s6 σ6 H6 _ I6 q6) fun f s7 q7=>?_)
  have again:∀ {σ7:St} {H7:Hp},Inv X (pins++yq fp s5.heap) σ7 H7 s7→N σ7 H7→∃ m,m < n∧∃ i σ' H',Inv X pins σ' H' s7∧tn i s7.heap∧(∀ b∈fp,H' b=none)∧W i m σ' H':=fun {σ7 H7} I7 n7=>by
   obtain ⟨m',hm,w7⟩:=hN σ7 H7 n7
   refine ⟨m',hm,i + 1,σ7,H7,I7.unpinned,T.keep _ _ _ st5 fun b hb o e=>(I7.pin (b,o) (List.mem_append_right _ (List.mem_append_right _ (jJ hb e)))).1,fun b hb=>?_,w7⟩
   obtain ⟨o,e,d⟩:=T.obj _ _ st5 b hb
   exact (I7.pin (b,o) (List.mem_append_right _ (List.mem_append_right _ (jJ hb e)))).2.1
  cases f with
  | next=>obtain ⟨σ7,H7,I7,n7⟩:=q7;exact again I7 n7
  | cont=>obtain ⟨σ7,H7,I7,n7⟩:=q7;exact again I7 n7
  | brk=>obtain ⟨σ7,H7,I7,q7⟩:=q7;exact ⟨σ7,H7,I7.unpinned,q7⟩
  | ret v=>obtain ⟨x7,σ7,H7,I7,r7,q7⟩:=q7;exact ⟨x7,σ7,H7,I7.unpinned,r7,q7⟩
end
theorem Cj {K:PySem.W.Frag} {a:Addr} {xs:List V} {g:TG} {tb:TS} {D:Ends} {σ:St} {H:Hp} (Pv:Nat→St→Hp→Prop) (h0:Pv 0 σ H) (hl:∀ i σ H,i≤xs.length→Pv i σ H→SqL K H a xs)
  (hs:∀ i x σ H,xs[i]? =some x→Pv i σ H→g x σ H fun σ2 H2=>tb {D with nx:=Pv (i + 1),ct:=Pv (i + 1),bk:=D.nx} σ2 H2) (hd:∀ σ H,Pv xs.length σ H→D.nx σ H):
  ∃ W:Nat→Nat→St→Hp→Prop,(∃ m,W 0 m σ H)∧∀ i m σ H,W i m σ H→
    ((Itl K a).stop i H∧D.nx σ H)∨((Itl K a).go i H∧∃ N:St→Hp→Prop,(∀ σ' H',N σ' H'→∃ m',m' < m∧W (i + 1) m' σ' H')∧∀ x H',(Itl K a).yld i H x H'→g x σ H' fun σ2 H2=>tb {D with nx:=N,ct:=N,bk:=D.nx} σ2 H2):=by
 refine ⟨fun i m σ H=>m=xs.length - i∧i≤xs.length∧Pv i σ H,⟨xs.length,by simp,Nat.zero_le _,h0⟩,?_⟩
 rintro i m σ H ⟨rfl,hi,p⟩
 have q:=hl i σ H hi p
 by_cases hlt:i < xs.length
 ·refine .inr ⟨⟨xs,xs[i],q,by simp [hlt]⟩,Pv (i + 1),fun σ' H' p'=>⟨xs.length - (i + 1),by omega,rfl,hlt,p'⟩,fun x H' y=>?_⟩
  obtain ⟨e,y⟩:=y
  subst e
  exact hs i x σ _ (y xs q) p
 ·have e:i=xs.length:=by omega
  subst e
  exact .inl ⟨⟨xs,q,Nat.le_refl _⟩,hd σ H p⟩
theorem rS {K:PySem.W.Frag} {a:Addr} {xs:List V} {g:TG} {tb:TS} {D:Ends} {σ:St} {H:Hp} (Pv:Nat→St→Hp→Prop) (h0:Pv 0 σ H) (hl:∀ i σ H,i≤xs.length→Pv i σ H→SqT K H a xs)
  (hs:∀ i x σ H,xs[i]? =some x→Pv i σ H→g x σ H fun σ2 H2=>tb {D with nx:=Pv (i + 1),ct:=Pv (i + 1),bk:=D.nx} σ2 H2) (hd:∀ σ H,Pv xs.length σ H→D.nx σ H):
  ∃ W:Nat→Nat→St→Hp→Prop,(∃ m,W 0 m σ H)∧∀ i m σ H,W i m σ H→
    ((Itt K a).stop i H∧D.nx σ H)∨((Itt K a).go i H∧∃ N:St→Hp→Prop,(∀ σ' H',N σ' H'→∃ m',m' < m∧W (i + 1) m' σ' H')∧∀ x H',(Itt K a).yld i H x H'→g x σ H' fun σ2 H2=>tb {D with nx:=N,ct:=N,bk:=D.nx} σ2 H2):=by
 refine ⟨fun i m σ H=>m=xs.length - i∧i≤xs.length∧Pv i σ H,⟨xs.length,by simp,Nat.zero_le _,h0⟩,?_⟩
 rintro i m σ H ⟨rfl,hi,p⟩
 have q:=hl i σ H hi p
 by_cases hlt:i < xs.length
 ·refine .inr ⟨⟨xs,xs[i],q,by simp [hlt]⟩,Pv (i + 1),fun σ' H' p'=>⟨xs.length - (i + 1),by omega,rfl,hlt,p'⟩,fun x H' y=>?_⟩
  obtain ⟨e,y⟩:=y
  subst e
  exact hs i x σ _ (y xs q) p
 ·have e:i=xs.length:=by omega
  subst e
  exact .inl ⟨⟨xs,q,Nat.le_refl _⟩,hd σ H p⟩
theorem zb {lo:Int} {n:Nat} {g:TG} {tb:TS} {D:Ends} {σ:St} {H:Hp} (Pv:Nat→St→Hp→Prop) (h0:Pv 0 σ H)
  (hs:∀ i σ H,i < n→Pv i σ H→g (.int (lo + i)) σ H fun σ2 H2=>tb {D with nx:=Pv (i + 1),ct:=Pv (i + 1),bk:=D.nx} σ2 H2) (hd:∀ σ H,Pv n σ H→D.nx σ H):
  ∃ W:Nat→Nat→St→Hp→Prop,(∃ m,W 0 m σ H)∧∀ i m σ H,W i m σ H→
    ((Itr lo n).stop i H∧D.nx σ H)∨((Itr lo n).go i H∧∃ N:St→Hp→Prop,(∀ σ' H',N σ' H'→∃ m',m' < m∧W (i + 1) m' σ' H')∧∀ x H',(Itr lo n).yld i H x H'→g x σ H' fun σ2 H2=>tb {D with nx:=N,ct:=N,bk:=D.nx} σ2 H2):=by
 refine ⟨fun i m σ H=>m=n - i∧i≤n∧Pv i σ H,⟨n,by simp,Nat.zero_le _,h0⟩,?_⟩
 rintro i m σ H ⟨rfl,hi,p⟩
 by_cases hlt:i < n
 ·refine .inr ⟨hlt,Pv (i + 1),fun σ' H' p'=>⟨n - (i + 1),by omega,rfl,hlt,p'⟩,fun x H' y=>?_⟩
  obtain ⟨e,y⟩:=y
  subst e y
  exact hs i σ _ hlt p
 ·have e:i=n:=by omega
  subst e
  exact .inl ⟨Nat.le_refl _,hd σ H p⟩
noncomputable abbrev R2:=V→V→Hp→VK→Prop
noncomputable def OpR (X:Cx) (f:Value→Value→Sem Value) (r:R2):Prop:=
 ∀ (pins:List (Addr×Obj)) (s:Shared) (σ:St) (H:Hp) (x y:V) (v u:Value) (Q:VK),Inv X pins σ H s→RelV x v→RelV y u→r x y H Q→
  wpAny (model X.prog X.w) X.A (f v u) (EP X pins σ Q) X.xe s
noncomputable def jH (X:Cx) (f:Value) (r:List V→Hp→VK→Prop):Prop:=
 ∀ (pins:List (Addr×Obj)) (s:Shared) (σ:St) (H:Hp) (xs:List V) (us:List Value) (Q:VK),Inv X pins σ H s→Vals xs us→r xs H Q→
  wpAny (model X.prog X.w) X.A (call f us) (EP X pins σ Q) X.xe s
noncomputable def tOp (r:R2) (ta tb:TE):TE:=fun σ H Q=>ta σ H fun x H1=>tb σ H1 fun y H2=>r x y H2 Q
noncomputable def rI (C:Int→Int→Prop) (g:Int→Int→V):R2:=fun x y H Q=>∃ i j,x= .int i∧y= .int j∧C i j∧Q (g i j) H
noncomputable def rI0 (g:Int→Int→V):R2:=fun x y H Q=>∃ i j,x= .int i∧y= .int j∧Q (g i j) H
section
variable {X:Cx} {a b c:Expr} {ta tb tc:TE} {pos:Pos}
theorem binT (ha:PE X a ta) (hb:PE X b tb) {pins:List (Addr×Obj)} {s:Shared} {σ:St} {H:Hp} {R:V→V→Hp→Prop} (I:Inv X pins σ H s)
  (h:ta σ H fun x H1=>tb σ H1 fun y H2=>R x y H2) {Q:Value→Shared→Prop} {f:Value→Value→Sem Value}
  (hf:∀ v u s2 x y H2,Inv X pins σ H2 s2→RelV x v→RelV y u→R x y H2→wpAny (model X.prog X.w) X.A (f v u) Q X.xe s2):
  wpAny (model X.prog X.w) X.A (eval a X.env) (fun v s₁=>wpAny (model X.prog X.w) X.A (eval b X.env) (fun u s₂=>wpAny (model X.prog X.w) X.A (f v u) Q X.xe s₂) X.xe s₁) X.xe s:=by
 refine thn (ha pins s σ H _ I h) fun v s1 ⟨x,H1,I1,r1,q1⟩=>?_
 refine thn (hb pins s1 σ H1 _ I1 q1) fun u s2 ⟨y,H2,I2,r2,q2⟩=>?_
 exact hf v u s2 x y H2 I2 r1 r2 q2
theorem aC {op:Operator} {r:R2} (ho:OpR X (binaryOp op) r) (ha:PE X a ta) (hb:PE X b tb):PE X (.BinOp a op b pos) (tOp r ta tb):=by
 intro pins s σ H Q I h
 exact wpAny_BinOp (binT ha hb I h fun v u s2 x y H2 I2 rx ry q=>ho pins s2 σ H2 x y v u Q I2 rx ry q)
theorem opI {f:Value→Value→Sem Value} {C:Int→Int→Prop} {g:Int→Int→Int}
  (rule:∀ (i j:Int) (t u:Tok) (s:Shared) (Q:Value→Shared→Prop) (E:Value→Shared→Prop),C i j→Q (.int (g i j) s.toks) {s with toks:=s.toks + 1}→wpAny (model X.prog X.w) X.A (f (.int i t) (.int j u)) Q E s):
  OpR X f (rI C fun i j=> .int (g i j)):=by
 intro pins s σ H x y v u Q I rx ry h
 obtain ⟨i,j,rfl,rfl,hc,q⟩:=h
 obtain ⟨t,rfl⟩:=rx
 obtain ⟨t',rfl⟩:=ry
 exact rule i j t t' s _ _ hc ⟨.int (g i j),H,I.tok _,⟨_,rfl⟩,q⟩
theorem opI0 {f:Value→Value→Sem Value} {g:Int→Int→Int}
  (rule:∀ (i j:Int) (t u:Tok) (s:Shared) (Q:Value→Shared→Prop) (E:Value→Shared→Prop),Q (.int (g i j) s.toks) {s with toks:=s.toks + 1}→wpAny (model X.prog X.w) X.A (f (.int i t) (.int j u)) Q E s):
  OpR X f (rI0 fun i j=> .int (g i j)):=by
 intro pins s σ H x y v u Q I rx ry h
 obtain ⟨i,j,rfl,rfl,q⟩:=h
 obtain ⟨t,rfl⟩:=rx
 obtain ⟨t',rfl⟩:=ry
 exact rule i j t t' s _ _ ⟨.int (g i j),H,I.tok _,⟨_,rfl⟩,q⟩
theorem opB0 {f:Value→Value→Sem Value} {g:Int→Int→Bool}
  (rule:∀ (i j:Int) (t u:Tok) (s:Shared) (Q:Value→Shared→Prop) (E:Value→Shared→Prop),Q (.bool (g i j)) s→wpAny (model X.prog X.w) X.A (f (.int i t) (.int j u)) Q E s):
  OpR X f (rI0 fun i j=> .bl (g i j)):=by
 intro pins s σ H x y v u Q I rx ry h
 obtain ⟨i,j,rfl,rfl,q⟩:=h
 obtain ⟨t,rfl⟩:=rx
 obtain ⟨t',rfl⟩:=ry
 exact rule i j t t' s _ _ ⟨.bl (g i j),H,I,rfl,q⟩
noncomputable def CDiv (i j:Int):Prop:=0 < j∧j < 1073741824
noncomputable def Qq (i j:Int):Prop:=j≠0∧j.natAbs < 1073741824
noncomputable def CPow (i j:Int):Prop:=0≤j∧j≤1000000∧i.natAbs < 2 ^ 64
noncomputable def CMul (i j:Int):Prop:=(-(2 ^ 64) < i∧i < 2 ^ 64)∨(-(2 ^ 64) < j∧j < 2 ^ 64)
theorem CMul.ok {i j:Int} (h:CMul i j):IntMulOk i j:=by
 rcases h with ⟨h1,h2⟩ | ⟨h1,h2⟩
 ·exact .of_left (intBits_le_64 h1 h2)
 ·exact .of_right (intBits_le_64 h1 h2)
theorem cy:OpR X (binaryOp .Add) (rI0 fun i j=> .int (i + j)):=opI0 fun _ _ _ _ _ _ _ q=>add_int q
theorem vn:OpR X (binaryOp .Sub) (rI0 fun i j=> .int (i - j)):=opI0 fun _ _ _ _ _ _ _ q=>sub_int q
theorem oi:OpR X (binaryOp .Mult) (rI CMul fun i j=> .int (i * j)):=opI fun _ _ _ _ _ _ _ hc q=>mul_int q hc.ok
theorem qt:OpR X (binaryOp .FloorDiv) (rI CDiv fun i j=> .int (i / j)):=opI fun i j _ _ _ _ _ hc q=>by
 have h1:(0:Int) < j:=hc.1
 have h2:j < 1073741824:=hc.2
 exact floordiv_int (by omega) (by rw [Int.fdiv_eq_ediv_of_nonneg i (by omega)];exact q) (.inl (PyProof.noPylong_small (by omega)))
theorem bK:OpR X (binaryOp .Mod) (rI (fun _ j=>0 < j) fun i j=> .int (i % j)):=opI fun i j _ _ _ _ _ hc q=>by
 have h1:(0:Int) < j:=hc
 exact mod_int' (by omega) (by rw [Int.fmod_eq_emod_of_nonneg i (by omega)];exact q)
theorem Ov:OpR X (binaryOp .Pow) (rI CPow fun i j=> .int (i ^ j.toNat)):=opI fun _ _ _ _ _ _ _ hc q=>pow_int_small hc.1 hc.2.1 hc.2.2 q
end
noncomputable def scal:V→V→Bool
 | .non,.non=>true | .non,.int _=>true | .int _,.non=>true | .non,.bl _=>true | .bl _,.non=>true | .non,.str _=>true | .str _,.non=>true
 | .int _,.int _=>true | .bl _,.bl _=>true | .str _,.str _=>true | .byt _,.byt _=>true
 | .int _,.str _=>true | .str _,.int _=>true | .bl _,.str _=>true | .str _,.bl _=>true
 | _,_=>false
noncomputable def rEq:R2:=fun x y H Q=>scal x y=true∧Q (.bl (decide (x=y))) H
noncomputable def rNe:R2:=fun x y H Q=>scal x y=true∧Q (.bl (!decide (x=y))) H
theorem Ia {i j:Int}:decide (V.int i=V.int j)=(i == j):=by
 rw [Bool.eq_iff_iff]
 simp
theorem Ll {i j:Bool}:decide (V.bl i=V.bl j)=(i == j):=by
 rw [Bool.eq_iff_iff]
 simp
theorem HZ {i j:Str}:decide (V.str i=V.str j)=(i == j):=by
 rw [Bool.eq_iff_iff]
 simp
theorem Ib {i j:Array UInt8}:decide (V.byt i=V.byt j)=(i.toList == j.toList):=by
 rw [Bool.eq_iff_iff]
 cases i
 cases j
 simp
section
variable {X:Cx} {a b c:Expr} {ta tb tc:TE} {pos:Pos}
theorem bQ {pins:List (Addr×Obj)} {σ:St} {H:Hp} {s:Shared} {Q:VK} {k k':Bool} (I:Inv X pins σ H s) (q:Q (.bl k) H) (e:k=k'):EP X pins σ Q (.bool k') s:=by
 subst e
 exact ⟨.bl k,H,I,rfl,q⟩
theorem mW:OpR X (compareOp .Eq) rEq:=by
 intro pins s σ H x y v u Q I rx ry h
 obtain ⟨hs,q⟩:=h
 cases x with
 | non=>
   cases rx
   cases y with
   | non=>cases ry;exact PySem.EqNone.eq_none_none (bQ I q (by simp))
   | bl j=>cases ry;exact PySem.EqNone.eq_none_bool (bQ I q (by simp))
   | int j=>obtain ⟨t',rfl⟩:=ry;exact PySem.EqNone.eq_none_int (bQ I q (by simp))
   | str j=>obtain ⟨t',rfl⟩:=ry;exact PySem.EqNone.eq_none_str (bQ I q (by simp))
   | _=>exact absurd (show false=true from hs) Bool.false_ne_true
 | bl i=>
   cases rx
   cases y with
   | non=>cases ry;exact PySem.EqNone.eq_bool_none (bQ I q (by simp))
   | bl j=>cases ry;exact eq_bool (bQ I q Ll)
   | str j=>obtain ⟨t',rfl⟩:=ry;exact PySem.EqMixed.eq_bool_str (bQ I q (by simp))
   | _=>exact absurd (show false=true from hs) Bool.false_ne_true
 | int i=>
   obtain ⟨t,rfl⟩:=rx
   cases y with
   | non=>cases ry;exact PySem.EqNone.eq_int_none (bQ I q (by simp))
   | int j=>obtain ⟨t',rfl⟩:=ry;exact eq_int (bQ I q Ia)
   | str j=>obtain ⟨t',rfl⟩:=ry;exact PySem.EqMixed.eq_int_str (bQ I q (by simp))
   | _=>exact absurd (show false=true from hs) Bool.false_ne_true
 | str i=>
   obtain ⟨t,rfl⟩:=rx
   cases y with
   | non=>cases ry;exact PySem.EqNone.eq_str_none (bQ I q (by simp))
   | bl j=>cases ry;exact PySem.EqMixed.eq_str_bool (bQ I q (by simp))
   | int j=>obtain ⟨t',rfl⟩:=ry;exact PySem.EqMixed.eq_str_int (bQ I q (by simp))
   | str j=>obtain ⟨t',rfl⟩:=ry;exact eq_str (bQ I q HZ)
   | _=>exact absurd (show false=true from hs) Bool.false_ne_true
 | byt i=>
   obtain ⟨t,rfl⟩:=rx
   cases y with
   | byt j=>obtain ⟨t',rfl⟩:=ry;exact PySem.W.eq_bytes (bQ I q Ib)
   | _=>exact absurd (show false=true from hs) Bool.false_ne_true
 | _=>cases y<;>exact absurd (show false=true from hs) Bool.false_ne_true
theorem Qb:OpR X (compareOp .NotEq) rNe:=by
 intro pins s σ H x y v u Q I rx ry h
 obtain ⟨hs,q⟩:=h
 cases x with
 | non=>
   cases rx
   cases y with
   | non=>cases ry;exact PySem.EqNone.ne_none_none (bQ I q (by simp))
   | bl j=>cases ry;exact PySem.EqNone.ne_none_bool (bQ I q (by simp))
   | int j=>obtain ⟨t',rfl⟩:=ry;exact PySem.EqNone.ne_none_int (bQ I q (by simp))
   | str j=>obtain ⟨t',rfl⟩:=ry;exact PySem.EqNone.ne_none_str (bQ I q (by simp))
   | _=>exact absurd (show false=true from hs) Bool.false_ne_true
 | bl i=>
   cases rx
   cases y with
   | non=>cases ry;exact PySem.EqNone.ne_bool_none (bQ I q (by simp))
   | bl j=>cases ry;exact ne_bool (bQ I q (congrArg not Ll))
   | str j=>obtain ⟨t',rfl⟩:=ry;exact PySem.EqMixed.ne_bool_str (bQ I q (by simp))
   | _=>exact absurd (show false=true from hs) Bool.false_ne_true
 | int i=>
   obtain ⟨t,rfl⟩:=rx
   cases y with
   | non=>cases ry;exact PySem.EqNone.ne_int_none (bQ I q (by simp))
   | int j=>obtain ⟨t',rfl⟩:=ry;exact ne_int (bQ I q (congrArg not Ia))
   | str j=>obtain ⟨t',rfl⟩:=ry;exact PySem.EqMixed.ne_int_str (bQ I q (by simp))
   | _=>exact absurd (show false=true from hs) Bool.false_ne_true
 | str i=>
   obtain ⟨t,rfl⟩:=rx
   cases y with
   | non=>cases ry;exact PySem.EqNone.ne_str_none (bQ I q (by simp))
   | bl j=>cases ry;exact PySem.EqMixed.ne_str_bool (bQ I q (by simp))
   | int j=>obtain ⟨t',rfl⟩:=ry;exact PySem.EqMixed.ne_str_int (bQ I q (by simp))
   | str j=>obtain ⟨t',rfl⟩:=ry;exact ne_str (bQ I q (congrArg not HZ))
   | _=>exact absurd (show false=true from hs) Bool.false_ne_true
 | byt i=>
   obtain ⟨t,rfl⟩:=rx
   cases y with
   | byt j=>obtain ⟨t',rfl⟩:=ry;exact PySem.W.ne_bytes (bQ I q (congrArg not Ib))
   | _=>exact absurd (show false=true from hs) Bool.false_ne_true
 | _=>cases y<;>exact absurd (show false=true from hs) Bool.false_ne_true
theorem JR:OpR X (compareOp .Lt) (rI0 fun i j=> .bl (decide (i < j))):=opB0 fun _ _ _ _ _ _ _ q=>lt_int q
theorem qr:OpR X (compareOp .Gt) (rI0 fun i j=> .bl (decide (j < i))):=opB0 fun _ _ _ _ _ _ _ q=>gt_int q
theorem yw:OpR X (compareOp .In) (fun x y H Q=>∃ i j,x= .str i∧y= .str j∧Q (.bl (!(Builtin.Str.occurrences j i 0 j.length 1).isEmpty)) H):=by
 intro pins s σ H x y v u Q I rx ry h
 obtain ⟨i,j,rfl,rfl,q⟩:=h
 obtain ⟨t,rfl⟩:=rx
 obtain ⟨t',rfl⟩:=ry
 exact in_str (bQ I q rfl)
theorem Lc:OpR X (compareOp .Is) (fun x y H Q=>y= .non∧Q (.bl (decide (x= .non))) H):=by
 intro pins s σ H x y v u Q I rx ry h
 obtain ⟨rfl,q⟩:=h
 cases ry
 refine is_none_gen (bQ I q ?_)
 cases x<;>first
  | (cases rx;rfl)
  | (obtain ⟨t,rfl⟩:=rx;rfl)
theorem Mj:OpR X (compareOp .IsNot) (fun x y H Q=>y= .non∧Q (.bl (!decide (x= .non))) H):=by
 intro pins s σ H x y v u Q I rx ry h
 obtain ⟨rfl,q⟩:=h
 cases ry
 refine isnot_none_gen (bQ I q ?_)
 cases x<;>first
  | (cases rx;rfl)
  | (obtain ⟨t,rfl⟩:=rx;rfl)
theorem bx (b:Expr) {op:CmpOp} (h:op≠.In:=by decide) (h2:op≠.NotIn:=by decide):behindInMarks op b=false:=by
 have e1:(op == CmpOp.In)=false:=by cases op<;>first | rfl | exact absurd rfl h
 have e2:(op == CmpOp.NotIn)=false:=by cases op<;>first | rfl | exact absurd rfl h2
 cases b<;>simp [behindInMarks,e1,e2]
theorem kE {op:CmpOp} {r:R2} (ho:OpR X (compareOp op) r) (ha:PE X a ta) (hb:PE X b tb) (hm:behindInMarks op b=false):PE X (.Compare a [op] [b] pos) (tOp r ta tb):=by
 intro pins s σ H Q I h
 exact wpAny_Compare1 (binT ha hb I h fun v u s2 x y H2 I2 rx ry q=>ho pins s2 σ H2 x y v u Q I2 rx ry q) hm
noncomputable def LD (t:TE):TT:=fun σ H Q=>t σ H fun x H'=>∃ k,x= .bl k∧Q k H'
theorem aZ {op:CmpOp} {r:R2} (ho:OpR X (compareOp op) r) (ha:PE X a ta) (hb:PE X b tb) (hm:behindInMarks op b=false):PT X (.Compare a [op] [b] pos) (LD (tOp r ta tb)):=by
 intro pins s σ H Q I h
 refine wpAny_isTrue_Compare1 (thn (ha pins s σ H _ I h) fun v s1 ⟨x,H1,I1,r1,q1⟩=>thn (hb pins s1 σ H1 _ I1 q1) fun u s2 ⟨y,H2,I2,r2,q2⟩=>
  thn (ho pins s2 σ H2 x y v u _ I2 r1 r2 q2) fun c s3 ⟨z,H3,I3,r3,k,e,q3⟩=>?_) hm
 subst e
 cases r3
 exact wpAny_truthy_bool ⟨H3,I3,q3⟩
noncomputable def KW (r r':R2) (ta tb tc:TE):TE:=fun σ H Q=>ta σ H fun x H1=>tb σ H1 fun y H2=>r x y H2 fun z H3=>∃ k,z= .bl k∧
 (if k=true then tc σ H3 fun w' H4=>r' y w' H4 Q else Q (.bl false) H3)
theorem v6 {op op':CmpOp} {r r':R2} (ho:OpR X (compareOp op) r) (ho':OpR X (compareOp op') r') (ha:PE X a ta) (hb:PE X b tb) (hc:PE X c tc)
  (hm:lastMarks [op,op'] [b,c]=false:=by with_unfolding_all rfl):PT X (.Compare a [op,op'] [b,c] pos) (LD (KW r r' ta tb tc)):=by
 intro pins s σ H Q I h
 refine isTrue_chain (thn (ha pins s σ H _ I h) fun v s1 ⟨x,H1,I1,r1,q1⟩=>test_link (thn (hb pins s1 σ H1 _ I1 q1) fun u s2 ⟨y,H2,I2,r2,q2⟩=>
  thn (ho pins s2 σ H2 x y v u _ I2 r1 r2 q2) fun d s3 ⟨z,H3,I3,r3,k,e,q3⟩=>?_)) hm
 subst e
 cases r3
 refine wpAny_truthy_bool ?_
 cases k with
 | false=>
   obtain ⟨k',e',q'⟩:=q3
   cases e'
   exact ite_ff ⟨H3,I3,q'⟩
 | true=>
   refine ite_tt (test_last (thn (hc pins s3 σ H3 _ I3 q3) fun w' s4 ⟨z',H4,I4,r4,q4⟩=>thn (ho' pins s4 σ H4 y z' u w' _ I4 r2 r4 q4) fun d' s5 ⟨z2,H5,I5,r5,k2,e2,q5⟩=>?_))
   subst e2
   cases r5
   exact wpAny_truthy_bool ⟨H5,I5,q5⟩
theorem Cb:(sizeLine:Nat) < 2 ^ 63:=by rw [sizeLine_eq];decide
theorem fK:OpR X (binaryOp .Add) (fun x y H Q=>∃ i j,x= .str i∧y= .str j∧i.length + j.length≤sizeLine∧Q (.str (i++j)) H):=by
 intro pins s σ H x y v u Q I rx ry h
 obtain ⟨i,j,rfl,rfl,hz,q⟩:=h
 obtain ⟨t,rfl⟩:=rx
 obtain ⟨t',rfl⟩:=ry
 exact add_str (fun t' tk=>⟨.str (i++j),H,I.tok _,⟨_,rfl⟩,q⟩) hz
theorem vK {x:V} {us:List Value} (r:Vals [x] us):∃ u,us=[u]∧RelV x u:=by
 cases r with
 | cons r1 r2=>cases r2;exact ⟨_,rfl,r1⟩
theorem Jn {x y:V} {us:List Value} (r:Vals [x,y] us):∃ u w',us=[u,w']∧RelV x u∧RelV y w':=by
 cases r with
 | cons r1 r2=>
   cases r2 with
   | cons r3 r4=>cases r4;exact ⟨_,_,rfl,r1,r3⟩
theorem jz:jH X (.type "str") (fun xs H Q=>∃ i,xs=[.int i]∧i.natAbs.log2 < 1920∧Q (.str (toString i)) H):=by
 intro pins s σ H xs us Q I r h
 obtain ⟨i,rfl,hz,q⟩:=h
 obtain ⟨u,rfl,t,rfl⟩:=vK r
 exact PySem.P.str_of_int hz ⟨.str _,H,I.tok _,⟨_,rfl⟩,q⟩
noncomputable def LenV (K:PySem.W.Frag) (x:V) (H:Hp) (n:Nat):Prop:=
 match x with
 | .str y=>y.length≤sizeLine∧n=y.length
 | .byt y=>y.size≤sizeLine∧n=y.size
 | .ref p=>(∃ xs,SqL K H p xs∧n=xs.length)∨∃ xs,SqT K H p xs∧n=xs.length
 | _=>False
theorem KD:jH X (.builtin "len") (fun xs H Q=>∃ x n,xs=[x]∧LenV X.K x H n∧Q (.int n) H):=by
 intro pins s σ H xs us Q I r h
 obtain ⟨x,n,rfl,e,q⟩:=h
 obtain ⟨u,rfl,rx⟩:=vK r
 have hl:=Cb
 have hs:sizeLine=16777216:=sizeLine_eq
 cases x with
 | str y=>
   obtain ⟨t,rfl⟩:=rx
   obtain ⟨hy,e'⟩:y.length≤sizeLine∧n=y.length:=e
   subst e'
   exact len_str (by omega) ⟨.int _,H,I.tok _,⟨_,rfl⟩,q⟩
 | byt y=>
   obtain ⟨t,rfl⟩:=rx
   obtain ⟨hy,e'⟩:y.size≤sizeLine∧n=y.size:=e
   subst e'
   exact PySem.W.len_bytes (by omega) ⟨.int _,H,I.tok _,⟨_,rfl⟩,q⟩
 | ref p=>
   cases rx
   have e':(∃ xs,SqL X.K H p xs∧n=xs.length)∨∃ xs,SqT X.K H p xs∧n=xs.length:=e
   rcases e' with ⟨xs,hx,e'⟩ | ⟨xs,hx,e'⟩
   ·subst e'
    obtain ⟨its,r',pl,hz⟩:=I.list hx
    have hlen:=r'.length
    exact Calls.call_len_list pl.isList (by simp only [List.size_toArray];omega) ⟨.int xs.length,H,I.tok _,⟨_,by simp only [List.size_toArray];rw [hlen]⟩,q⟩
   ·subst e'
    obtain ⟨its,r',pl,hz⟩:=I.tuple hx
    have hlen:=r'.length
    exact len_tuple pl (by simp only [List.size_toArray];omega) ⟨.int xs.length,H,I.tok _,⟨_,by simp only [List.size_toArray];rw [hlen]⟩,q⟩
 | _=>exact (show False from e).elim
end
structure ObjM (h:Heap) (x dx C:Addr) (mA:Str→Option Value):Prop where
 obj:h.get? x=some (PySem.W.instObj C dx)
 ns:h.Ns1 dx mA
 ne:dx≠x
theorem rj {h:Heap} {dx:Addr} {mA:Str→Option Value} (n:h.Ns1 dx mA):∃ od,h.get? dx=some od∧∀ name,PySem.W.lookIn name od=some (mA name):=by
 obtain ⟨o,es,ep,ho,hd,hk,_,hm⟩:=n
 refine ⟨o,ho,fun name=>?_⟩
 have e:=hm name
 unfold nsFind findBy at e
 rw [← Array.find?_toList] at e
 unfold PySem.W.lookIn
 rw [hd]
 dsimp only
 split
 ·rename_i y q
  rw [q] at e
  exact congrArg some e
 ·rename_i q
  rw [q] at e
  have a:es.toList.any (·.refKey)=false:=by
   rw [List.any_eq_false]
   intro y hy
   obtain ⟨z,t,hkey⟩:=hk y (Array.mem_toList_iff.mp hy)
   simp [DictEntry.refKey,hkey]
  have a':¬ es.toList.any (·.refKey)=true:=by rw [a];exact Bool.false_ne_true
  rw [if_neg a']
  exact congrArg some e
theorem ObjM.look {h:Heap} {x dx C:Addr} {mA:Str→Option Value} (I:ObjM h x dx C mA):∃ od,PySem.W.InstAt h x (PySem.W.instObj C dx) C (some od)∧∀ name,PySem.W.lookIn name od=some (mA name):=
 let ⟨od,ho,hl⟩:=rj I.ns
 ⟨od,⟨I.obj,rfl,rfl,ho⟩,hl⟩
section
variable {prog:Program} {w:World} {A:Around} {E:Value→Shared→Prop} {s:Shared} {K:PySem.W.Frag} {x dx C f:Addr} {mA:Str→Option Value} {name:Str} {v:Value}
theorem bi {expr:Bool} {Q:Value→Shared→Prop} (X:K.In s.heap) (I:ObjM s.heap x dx C mA) (hg:PySem.W.plainGet K C name=true) (hh:PySem.W.hasDictIn K C=true)
  (ha:PySem.W.findIn K (.ref C) name=some none) (hv:mA name=some v) (hv':PySem.W.handedIn v=true) (h:Q v {s with toks:=s.toks + 1}):
  wpAny (model prog w) A (getAttr (.ref x) name expr) Q E s:=by
 obtain ⟨od,J,hl⟩:=I.look
 exact PySem.W.get_value X J (PySem.W.plainGet_of hg).1 (PySem.W.findObj_own hh ha rfl (by rw [hl,hv])) hv' h
theorem Kp {pl:Sem Bool} {Q:Value×List Value→Shared→Prop} (X:K.In s.heap) (I:ObjM s.heap x dx C mA) (hg:PySem.W.plainGet K C name=true)
  (hf:PySem.W.findIn K (.ref C) name=some (some (.ref f))) (ht:PySem.W.isFn K (.ref f)=true) (hv:mA name=none) (h:Q (.ref f,[.ref x]) s):
  wpAny (model prog w) A (getMethod (.ref x) name pl) Q E s:=by
 obtain ⟨od,J,hl⟩:=I.look
 exact PySem.W.method_fn X J (PySem.W.plainGet_of hg).1 (PySem.W.plainGet_of hg).2 hf (beq_iff_eq.mp ht) (by show (PySem.W.lookIn name od).map (·.isSome)=some false;rw [hl,hv];rfl) h
theorem LO {ns:List Str} {Q:Unit→Shared→Prop} (X:K.In s.heap) (I:ObjM s.heap x dx C mA)
  (hs:PySem.W.findIn K (.ref C) "__setattr__"=some (some (.builtin "object.__setattr__"))) (hp:PySem.W.plainOver K C=true) (ht:PySem.W.takerIn K C name=some none) (hh:PySem.W.hasDictIn K C=true)
  (hw:PySem.Within mA ns) (hsz:ns.length≤sizeLine)
  (h:∀ h',ObjM h' x dx C (fun y=>if y=name then some v else mA y)→Heap.SameBut dx s.heap h'→Q () {s with heap:=h',toks:=s.toks + 2}):
  wpAny (model prog w) A (setAttr (.ref x) name v) Q E s:=by
 obtain ⟨od,J,hl⟩:=I.look
 refine PySem.W.set_plain X J hs (PySem.W.osa_open (s:={s with toks:=s.toks + 1}) (r:=none) X J hp ht fun b=>?_)
 obtain ⟨cd,hc,hd'⟩:=PySem.W.any_some hh
 have hx:s.heap.get? x=some ⟨.ref C,some dx,.plain,#[]⟩:=I.obj
 refine wpAny_bind (wpAny_pure (wpAny_bind (wpAny_bind (wpAny_loadPart hx (wpAny_bind (PySem.W.Looks.here (s:={s with toks:=s.toks + 1}) (PySem.W.looks_clsIn X hc) ?_))))))
 rw [hd']
 refine wpAny_pure (a:=some dx) (wpAny_bind (wpAny_pure (wpAny_bind ?_)))
 refine wpAny_nsSet1 (s:={s with toks:=s.toks + 1}) I.ns fun h' hn2 hs2=>?_
 obtain ⟨oD,esD,epD,hoD,hdD,hcD⟩:=hn2.count (PySem.Within.cons name v hw)
 refine wpAny_bind (wpAny_lookBehind hoD (by rw [hdD];exact pastItsLine_dict (Nat.le_trans hcD (by rw [List.length_cons];omega))) ?_)
 exact wpAny_pure (h _ ⟨(hs2.2 _ (Ne.symm I.ne)).trans I.obj,hn2,I.ne⟩ hs2)
theorem Ca {R:Result→Shared→Prop} {vs:List Value} {kw:List (Str×Value)} (X:K.In s.heap) (hm:PySem.W.makesIn K C=true)
  (hi:PySem.W.findIn K (.ref C) "__init__"=some (some (.ref f))) (hf:PySem.W.typeIn K (.ref f)=some (.type "function"))
  (h:codeAny (model prog w) (A.under (.builtin "type.__call__" ⟨.ref C::vs,kw⟩)) (.call (.ref f) ⟨.ref (s.heap.objs.size + 1)::vs,kw⟩) (PySem.W.InitBack (s.heap.objs.size + 1) R)
   {s with heap:=(s.heap.push PySem.W.emptyDict).push (PySem.W.instObj C s.heap.objs.size)}):
  codeAny (model prog w) A (.call (.ref C) ⟨vs,kw⟩) R s:=by
 obtain ⟨hh,g,d,t,os⟩:=s
 exact PySem.W.make_core (PySem.W.makes_of X hm) (PySem.W.looks_findIn X hi) (fun self=>PySem.W.bind_fn X self hf) (.inl rfl) h
end
noncomputable def putF (f:Str) (v:V):List (Str×V)→List (Str×V)
 | []=>[(f,v)]
 | (g,x)::r=>if g=f then (g,v)::r else (g,x)::putF f v r
theorem ri (f g:Str) (v:V):∀ fs:List (Str×V),(putF f v fs).lookup g=if g=f then some v else fs.lookup g
 | []=>by
   show List.lookup g [(f,v)]=_
   by_cases h:g=f
   ·have hb:(g == f)=true:=beq_iff_eq.mpr h
    simp only [List.lookup,hb,if_pos h]
   ·have hb:(g == f)=false:=beq_eq_false_iff_ne.mpr h
    simp only [List.lookup,hb,if_neg h]
 | (k,x)::r=>by
   have ih:=ri f g v r
   rw [show putF f v ((k,x)::r)=(if k=f then (k,v)::r else (k,x)::putF f v r) from rfl]
   by_cases hk:k=f
   ·rw [if_pos hk]
    by_cases h:g=k
    ·have hb:(g == k)=true:=beq_iff_eq.mpr h
     simp only [List.lookup,hb,if_pos (h.trans hk)]
    ·have hb:(g == k)=false:=beq_eq_false_iff_ne.mpr h
     simp only [List.lookup,hb,if_neg (fun e:g=f=>h (e.trans hk.symm))]
   ·rw [if_neg hk]
    by_cases h:g=k
    ·have hb:(g == k)=true:=beq_iff_eq.mpr h
     simp only [List.lookup,hb,if_neg (fun e:g=f=>hk (h.symm.trans e))]
    ·have hb:(g == k)=false:=beq_eq_false_iff_ne.mpr h
     simp only [List.lookup,hb]
     exact ih
theorem rF (f:Str) (v:V):∀ fs:List (Str×V),f∈(putF f v fs).map (·.1)∧∀ g,g∈fs.map (·.1)→g∈(putF f v fs).map (·.1)
 | []=>⟨by simp [putF],fun g h=>by simp at h⟩
 | (k,x)::r=>by
   obtain ⟨i1,i2⟩:=rF f v r
   rw [show putF f v ((k,x)::r)=(if k=f then (k,v)::r else (k,x)::putF f v r) from rfl]
   by_cases hk:k=f
   ·rw [if_pos hk]
    subst hk
    exact ⟨by simp,fun g h=>by simpa using h⟩
   ·rw [if_neg hk]
    refine ⟨?_,fun g h=>?_⟩
    ·rw [List.map_cons]
     exact List.mem_cons_of_mem _ i1
    ·rw [List.map_cons] at h ⊢
     rcases List.mem_cons.mp h with e | e
     ·exact List.mem_cons.mpr (.inl e)
     ·exact List.mem_cons_of_mem _ (i2 g e)
theorem rn (f:Str) (v:V):∀ fs:List (Str×V),(putF f v fs).length≤fs.length + 1
 | []=>by simp [putF]
 | (k,x)::r=>by
   have ih:=rn f v r
   rw [show putF f v ((k,x)::r)=(if k=f then (k,v)::r else (k,x)::putF f v r) from rfl]
   by_cases hk:k=f
   ·rw [if_pos hk,List.length_cons,List.length_cons];omega
   ·rw [if_neg hk,List.length_cons,List.length_cons];omega
theorem RelO.some_of {v:V} {o:Option Value} (r:RelO (some v) o):∃ u,o=some u∧RelV v u:=by
 cases o with
 | none=>exact (show False from r).elim
 | some u=>exact ⟨u,rfl,r⟩
theorem RelO.none_of {o:Option Value} (r:RelO none o):o=none:=by
 cases o with
 | none=>rfl
 | some u=>exact (show False from r).elim
theorem yZ {v:V} {u:Value} (r:RelV v u):PySem.W.handedIn u=true:=by
 cases v with
 | non=>cases (show u=Value.none from r);rfl
 | bl b=>cases (show u=Value.bool b from r);rfl
 | int i=>obtain ⟨t,e⟩:=(show ∃ t,u=Value.int i t from r);cases e;rfl
 | str x=>obtain ⟨t,e⟩:=(show ∃ t,u=Value.str x t from r);cases e;rfl
 | byt b=>obtain ⟨t,e⟩:=(show ∃ t,u=Value.bytes b t from r);cases e;rfl
 | flt b=>obtain ⟨t,e⟩:=(show ∃ t,u=Value.float b t from r);cases e;rfl
 | ref a=>cases (show u=Value.ref a from r);rfl
 | ty n=>cases (show u=Value.type n from r);rfl
section
variable {P:Program} {w:World} {H H':Hp} {h h':Heap} {a C dx:Addr} {fs fs':List (Str×V)}
theorem A4 (hok:HOk P w H h) (e:H a=some (.ins C dx fs)):∃ mA,ObjM h a dx C mA∧(∀ f,RelO (fs.lookup f) (mA f))∧PySem.Within mA (fs.map (·.1))∧fs.length≤1000∧H dx=some (.own a):=by
 obtain ⟨d,z,ne,ob,mA,n,r,q⟩:=(show dB P w H h a (.ins C dx fs) from hok a _ e)
 exact ⟨mA,⟨ob,n,ne⟩,r,q,z,d⟩
end
structure Cls (K:PySem.W.Frag) (C:Addr):Prop where
 pg:PySem.W.plainGet K C Str.empty=true
 hd:PySem.W.hasDictIn K C=true
 po:PySem.W.plainOver K C=true
 sa:PySem.W.findIn K (.ref C) "__setattr__"=some (some (.builtin "object.__setattr__"))
theorem Cls.get {K:PySem.W.Frag} {C:Addr} (c:Cls K C) (f:Str):PySem.W.plainGet K C f=true:=c.pg
noncomputable def aq (K:PySem.W.Frag) (C:Addr) (f:Str):Prop:=PySem.W.findIn K (.ref C) f=some none
theorem aq.taker {K:PySem.W.Frag} {C:Addr} {f:Str} (n:aq K C f):PySem.W.takerIn K C f=some none:=by
 unfold PySem.W.takerIn
 rw [show PySem.W.findIn K (.ref C) f=some none from n]
 rfl
structure Con (K:PySem.W.Frag) (C:Addr) (f:Str) (v:V) (u:Value):Prop where
 at_:PySem.W.findIn K (.ref C) f=some (some u)
 rel:RelV v u
 get:PySem.W.specialIn K u "__get__"=some none
 cp:PySem.W.copiedNames.contains f=false
structure Meth (K:PySem.W.Frag) (C:Addr) (m:Str) (f:Addr):Prop where
 at_:PySem.W.findIn K (.ref C) m=some (some (.ref f))
 fn:PySem.W.isFn K (.ref f)=true
 kp:PySem.W.keepIn K (.ref f)=true
section
variable {X:Cx} {pins:List (Addr×Obj)} {σ:St} {H:Hp} {s:Shared} {a C dx:Addr} {fs:List (Str×V)} {f:Str} {v:V} {A:Around} {E:Value→Shared→Prop}
theorem ES {b:Bool} {Q:Value→Shared→Prop} (I:Inv X pins σ H s) (e:H a=some (.ins C dx fs)) (c:Cls X.K C) (n:aq X.K C f) (l:fs.lookup f=some v)
  (h:∀ u s',Inv X pins σ H s'→RelV v u→Q u s'):wpAny (model X.prog X.w) A (getAttr (.ref a) f b) Q E s:=by
 obtain ⟨mA,O,r,_,_,_⟩:=A4 I.hok e
 obtain ⟨u,hu,ru⟩:=RelO.some_of (v:=v) (o:=mA f) (by rw [← l];exact r f)
 exact bi I.kIn O (c.get f) c.hd n hu (yZ ru) (h u _ (I.tok _) ru)
theorem vx {m:Str} {g:Addr} {pl:Sem Bool} {Q:Value×List Value→Shared→Prop} (I:Inv X pins σ H s) (e:H a=some (.ins C dx fs)) (c:Cls X.K C) (k:Meth X.K C m g) (l:fs.lookup m=none)
  (h:Q (.ref g,[.ref a]) s):wpAny (model X.prog X.w) A (getMethod (.ref a) m pl) Q E s:=by
 obtain ⟨mA,O,r,_,_,_⟩:=A4 I.hok e
 have hn:mA m=none:=RelO.none_of (by rw [← l];exact r m)
 exact Kp I.kIn O (c.get m) k.at_ k.fn hn h
theorem Dz {y:V} {u:Value} {Q:Unit→Shared→Prop} (I:Inv X pins σ H s) (e:H a=some (.ins C dx fs)) (c:Cls X.K C) (n:aq X.K C f) (hl:fs.length < 1000) (ry:RelV y u)
  (h:∀ s',Inv X pins σ (upd H a (.ins C dx (putF f y fs))) s'→Q () s'):wpAny (model X.prog X.w) A (setAttr (.ref a) f u) Q E s:=by
 obtain ⟨mA,O,r,wi,_,ho⟩:=A4 I.hok e
 have hz:(fs.map (·.1)).length≤sizeLine:=by rw [List.length_map,sizeLine_eq];omega
 refine LO I.kIn O c.sa c.po n.taker c.hd wi hz fun h' O' sb=>h _ ?_
 have hd:∃ o,h'.get? dx=some o:=let ⟨o,_,_,e',_⟩:=O'.ns;⟨o,e'⟩
 refine I.write (x:=a) (e:=dx) (by rw [e];exact True.intro) (.inr ho) (fun b q hb z=>(sb.2 b hb).trans z) hd ?_
 refine ⟨by rw [ar O.ne];exact ho,?_,O.ne,O'.obj,_,O'.ns,fun g=>?_,fun g hg=>?_⟩
 ·have:=rn f y fs;omega
 ·show RelO ((putF f y fs).lookup g) (if g=f then some u else mA g)
  rw [ri]
  by_cases q:g=f
  ·rw [if_pos q,if_pos q];exact ry
  ·rw [if_neg q,if_neg q];exact r g
 ·by_cases q:g=f
  ·rw [q];exact (rF f y fs).1
  ·refine (rF f y fs).2 g (wi g fun z=>hg ?_)
   show (if g=f then some u else mA g)=none
   rw [if_neg q];exact z
theorem Inv.made (I:Inv X pins σ H s):Inv X pins σ (upd (upd H s.heap.objs.size (.own (s.heap.objs.size + 1))) (s.heap.objs.size + 1) (.ins C s.heap.objs.size []))
  {s with heap:=(s.heap.push PySem.W.emptyDict).push (PySem.W.instObj C s.heap.objs.size)}:=by
 have e1:(s.heap.push PySem.W.emptyDict).get? s.heap.objs.size=some PySem.W.emptyDict:=Heap.get?_push_size s.heap rfl
 have e2:((s.heap.push PySem.W.emptyDict).push (PySem.W.instObj C s.heap.objs.size)).get? (s.heap.objs.size + 1)=some (PySem.W.instObj C s.heap.objs.size):=by
  have:=Heap.get?_push_size (s.heap.push PySem.W.emptyDict) (o:=PySem.W.instObj C s.heap.objs.size) rfl
  rwa [Heap.size_push] at this
 have e3:(s.heap.push PySem.W.emptyDict).Ns s.heap.objs.size (fun _=>none):=⟨PySem.W.emptyDict,#[],_,e1,rfl,(fun e he=>absurd he (by simp)),fun _=>rfl⟩
 have I1:=I.laid (a:=s.heap.objs.size) (o:= .own (s.heap.objs.size + 1)) (h':=s.heap.push PySem.W.emptyDict) (t':=s.toks) (fun b u q=>Heap.get?_push_of_some _ q) (Nat.le_refl _) ⟨_,e1⟩
 refine I1.laid (a:=s.heap.objs.size + 1) (o:= .ins C s.heap.objs.size []) (t':=s.toks) (fun b u q=>Heap.get?_push_of_some _ q) (Nat.le_of_eq (Heap.size_push _ _)) ?_
 have ne:s.heap.objs.size≠s.heap.objs.size + 1:=Nat.ne_of_lt (Nat.lt_succ_self _)
 refine ⟨by rw [ar ne,av],Nat.zero_le _,ne,e2,fun _=>none,(Heap.Ns1.of_empty e3).at fun o q=>Heap.get?_push_of_some _ q,fun _=>True.intro,fun y hy=>absurd rfl hy⟩
theorem Iu {prog:Program} {w:World} {env:Env} {e:Expr} {f:Str} {pos:Pos} {s:Shared} {Q:Value→Shared→Prop} (hb:attributeBase e f env (eval e env)=eval e env)
  (h:wpAny (model prog w) A (eval e env) (fun o s₁=>wpAny (model prog w) A (getAttr o f true) Q E s₁) E s):wpAny (model prog w) A (eval (.Attribute e f pos) env) Q E s:=
 Attribute_any_ h (by rw [arm_eval_Attribute,hb])
end
noncomputable def tFld (K:PySem.W.Frag) (ta:TE) (f:Str):TE:=fun σ H Q=>ta σ H fun x H1=>∃ a C dx fs v,x= .ref a∧H1 a=some (.ins C dx fs)∧Cls K C∧aq K C f∧fs.lookup f=some v∧Q v H1
noncomputable def sFld (K:PySem.W.Frag) (ta tv:TE) (f:Str):TS:=fun D σ H=>tv σ H fun y H1=>ta σ H1 fun x H2=>∃ a C dx fs,x= .ref a∧H2 a=some (.ins C dx fs)∧Cls K C∧aq K C f∧fs.length < 1000∧
 D.nx σ (upd H2 a (.ins C dx (putF f y fs)))
section
variable {X:Cx} {o e value:Expr} {f:Str} {pos pos' tpos:Pos} {ta tv:TE}
theorem Op (he:PE X e ta) (hb:attributeBase e f X.env (eval e X.env)=eval e X.env):PE X (.Attribute e f pos) (tFld X.K ta f):=by
 intro pins s σ H Q I h
 refine Iu hb (thn (he pins s σ H _ I h) fun u s1 ⟨x,H1,I1,rx,a,C,dx,fs,v,ex,ea,c,n,l,q⟩=>?_)
 subst ex
 obtain rfl:u=Value.ref a:=rx
 exact ES I1 ea c n l fun u' s2 I2 ru=>⟨v,H1,I2,ru,q⟩
theorem Oh (ha:PE X o ta) (hv:PE X value tv) (hs:swapsWith value (some (.Attribute o f pos')) pos.line X.env=pure false):PS X (.Assign [.Attribute o f pos'] value pos) (sFld X.K ta tv f):=by
 intro pins s σ H D I h
 refine plainObj_wpAny_Assign_Attribute (thn (hv pins s σ H _ I h) fun u s1 ⟨y,H1,I1,ry,q⟩=>thn (ha pins s1 σ H1 _ I1 q) fun ov s2 ⟨x,H2,I2,rx,a,C,dx,fs,ex,ea,c,n,l,q2⟩=>?_) hs
 subst ex
 obtain rfl:ov=Value.ref a:=rx
 exact Dz I2 ea c n l ry fun s3 I3=>⟨σ,_,I3,q2⟩
end
section
variable {X:Cx} {pins:List (Addr×Obj)} {σ:St} {H:Hp} {s:Shared} {A:Around} {E:Value→Shared→Prop} {Q:Value→Shared→Prop} {c:Value} {b:Bool}
inductive TyOf (K:PySem.W.Frag) (H:Hp):V→Value→Prop where
 | non:TyOf K H .non (.type "NoneType")
 | bl (x:Bool):TyOf K H (.bl x) (.type "bool")
 | int (i:Int):TyOf K H (.int i) (.type "int")
 | str (x:Str):TyOf K H (.str x) (.type "str")
 | flt (x:UInt64):TyOf K H (.flt x) (.type "float")
 | lst {a:Addr} {xs:List V} (e:H a=some (.lst xs)):TyOf K H (.ref a) (.type "list")
 | frz {a:Addr} {o:Obj} {xs:List V} (e:H a=some (.frz o (.lst xs))):TyOf K H (.ref a) (.type "list")
 | tup {a:Addr} {xs:List V} (e:H a=some (.tup xs)):TyOf K H (.ref a) (.type "tuple")
 | dK {a:Addr} {kvs:List (Key×V)} (e:H a=some (.dK kvs)):TyOf K H (.ref a) (.type "dict")
 | dT {a:Addr} {kvs:List (List Key×V)} (e:H a=some (.dT kvs)):TyOf K H (.ref a) (.type "dict")
 | ins {a C dx:Addr} {fs:List (Str×V)} (e:H a=some (.ins C dx fs)) (cl:Cls K C) (ha:PySem.W.findIn K (.ref C) "__class__"=some (some (.builtin "object.__class__")))
   (hn:PySem.W.specialIn K (.builtin "object.__class__") "__get__"=some (some (.builtin "getset_descriptor.__get__"))) (htk:PySem.W.takesIn K (.builtin "object.__class__")=some true)
   (hm:PySem.W.mroIn K C (.type "object")=some true):TyOf K H (.ref a) (.ref C)
end
structure Room (k:Nat) (A:Around):Prop where
 hd:A.handled=none
 dp:A.depth + 3 * k + 5 < recursionLimit
 un:A.units + 16 * k + 200 < cLine
theorem Room.mono {j k:Nat} {A:Around} (r:Room k A) (h:j≤k):Room j A:=⟨r.hd,by have:=r.dp;omega,by have:=r.un;omega⟩
theorem Room.deeper {k:Nat} {A:Around} (r:Room (k + 1) A) (env:Env):Room k (A.deeper env):=
 ⟨r.hd,by have:=r.dp;show A.depth + 1 + 3 * k + 5 < _;omega,by have:=r.un;show A.units + 3 + 16 * k + 200 < _;omega⟩
theorem Ek {A:Around} {C:Addr} {us:List Value} {kw:List (Str×Value)}:(A.under (.builtin "type.__call__" ⟨.ref C::us,kw⟩)).depth=A.depth + 1:=by
 first | rfl | simp [Around.under,Code.weight,Code.isCreation,Code.isGuard,Code.isCaller,Code.frames,Code.isFrame,guardIds]
theorem Ej {A:Around} {C:Addr} {us:List Value} {kw:List (Str×Value)}:(A.under (.builtin "type.__call__" ⟨.ref C::us,kw⟩)).units=A.units + 1:=by
 first | rfl | simp [Around.under,Code.cUnits,Code.frames,Code.isFrame]
theorem Room.make {k:Nat} {A:Around} (r:Room (k + 1) A) (C:Addr) (us:List Value) (kw:List (Str×Value)):Room k (A.under (.builtin "type.__call__" ⟨.ref C::us,kw⟩)):=
 ⟨r.hd,by have:=r.dp;rw [Ek];omega,by have:=r.un;rw [Ej];omega⟩
theorem Room.depth {k:Nat} {A:Around} (r:Room k A):A.depth < recursionLimit:=by have:=r.dp;omega
theorem Room.units {k:Nat} {A:Around} (r:Room k A):A.units + 64 < cLine:=by have:=r.un;omega
noncomputable def tNil:TA:=fun _ H Q=>Q [] H
noncomputable def Nq (ta:TE) (tr:TA):TA:=fun σ H Q=>ta σ H fun x H1=>tr σ H1 fun xs H2=>Q (x::xs) H2
section
variable {X:Cx} {e:Expr} {es:List Expr} {te:TE} {t:TA} {pos:Pos}
theorem ad:PA X [] tNil:=fun _ _ _ _ H Q I h=>Calls.spliced_nil ⟨[],H,I,.nil,h⟩
theorem aa (ha:PE X e te) (hr:PA X es t) (hs:starEach (e::es) X.env=(false,eval e X.env)::starEach es X.env:=by rfl):PA X (e::es) (Nq te t):=by
 intro pos pins s σ H Q I h
 rw [hs]
 show wpAny _ _ (spliced ((false,eval e X.env)::backTo pos (starEach es X.env))) _ _ s
 refine Calls.spliced_cons (thn (ha pins s σ H _ I h) fun u s1 ⟨x,H1,I1,r1,q1⟩=>?_)
 exact thn (hr pos pins s1 σ H1 _ I1 q1) fun us s2 ⟨xs,H2,I2,r2,q2⟩=>⟨x::xs,H2,I2,.cons r1 r2,q2⟩
noncomputable def tTup (t:TA):TE:=fun σ H Q=>t σ H fun xs H1=>xs.length≤sizeLine∧∀ p,H1 p=none→Q (.ref p) (upd H1 p (.tup xs))
noncomputable def tLst (t:TA):TE:=fun σ H Q=>t σ H fun xs H1=>xs.length≤sizeLine∧∀ p,H1 p=none→Q (.ref p) (upd H1 p (.lst xs))
theorem dH {x1} (h:PA X es t):PE X (.Tuple es x1 pos) (tTup t):=by
 intro pins s σ H Q I hq
 refine wpAny_Tuple_spliced (thn (h pos pins s σ H _ I hq) fun us s1 ⟨xs,H1,I1,r,z,q⟩=>⟨by rw [← r.length];exact z,?_⟩)
 have hf:H1 s1.heap.objs.size=none:=I1.hok.fresh (Nat.le_refl _)
 refine ⟨.ref s1.heap.objs.size,upd H1 s1.heap.objs.size (.tup xs),I1.laid (t':=s1.toks) (fun b u e=>Heap.get?_push_of_some _ e) (Nat.le_refl _) ?_,rfl,q _ hf⟩
 exact ⟨z,us,r,⟨_,Heap.get?_push_size _ rfl,rfl,_,rfl⟩⟩
theorem bV (h:PA X es t):PE X (.List es pos) (tLst t):=by
 intro pins s σ H Q I hq
 refine wpAny_List_spliced (thn (h pos pins s σ H _ I hq) fun us s1 ⟨xs,H1,I1,r,z,q⟩=>⟨by rw [← r.length];exact z,?_⟩)
 have hf:H1 s1.heap.objs.size=none:=I1.hok.fresh (Nat.le_refl _)
 refine ⟨.ref s1.heap.objs.size,upd H1 s1.heap.objs.size (.lst xs),I1.laid (t':=s1.toks) (fun b u e=>Heap.get?_push_of_some _ e) (Nat.le_refl _) ?_,rfl,q _ hf⟩
 exact ⟨z,us,0,r,Heap.get?_push_size _ rfl⟩
end
noncomputable abbrev Sp:=List V→Hp→VK→XK→Prop
noncomputable abbrev CXT:=List Env→Hp→Shared→XK→Value→Shared→Prop
structure Env0 (P:Program) (w:World) (K:PySem.W.Frag) (mg:Str→Option Value) (base:Heap) (A:Around) (outer:List Env) (s:Shared) (H:Hp):Prop where
 frames:A.frames=some outer
 mod:Mod K mg base
 bs:∀ b o,base.get? b=some o→s.heap.get? b=some o∧H b=none
 bsz:base.objs.size≤s.heap.objs.size
 funs:s.heap.FunFrames base outer
 frf:∀ b∈frs outer,H b=none
 hok:HOk P w H s.heap
 bare:AllBare s.gens
noncomputable def CE (outer:List Env) (P:Program) (w:World) (H:Hp) (s:Shared) (Q:VK) (u:Value) (s':Shared):Prop:=
 ∃ v H',s'.os=s.os∧AllBare s'.gens∧Un (frs outer) [] H H' s.heap s'.heap∧HOk P w H' s'.heap∧RelV v u∧Q v H'
noncomputable def CR (CX:CXT) (outer:List Env) (P:Program) (w:World) (H:Hp) (s:Shared) (Q:VK) (E:XK) (r:Result) (s':Shared):Prop:=
 match r with
 | .ok (.ret u)=>CE outer P w H s Q u s'
 | .ok _=>False
 | .error e=>CX outer H s E e s'
structure FnOk (P:Program) (w:World) (K:PySem.W.Frag) (mg:Str→Option Value) (base:Heap) (CX:CXT) (k:Nat) (f:Addr) (fd:FuncData) (ps:List Str) (sp:Sp):Prop where
 len:∀ vs H Q E,sp vs H Q E→vs.length=ps.length
 run:∀ (A:Around) (outer:List Env) (s:Shared) (H:Hp) (args:Args) (us:List Value) (vs:List V) (Q:VK) (E:XK),Room k A→Env0 P w K mg base A outer s H→BindsTo s fd args (ps.zip us)→Vals vs us→sp vs H Q E→
  codeAny (model P w) A (.call (.ref f) args) (CR CX outer P w H s Q E) s
theorem Env0.make {P:Program} {w:World} {K:PySem.W.Frag} {mg:Str→Option Value} {base:Heap} {A:Around} {outer:List Env} {s:Shared} {H:Hp} (e:Env0 P w K mg base A outer s H) (C:Addr) (us:List Value) (kw:List (Str×Value)):
  Env0 P w K mg base (A.under (.builtin "type.__call__" ⟨.ref C::us,kw⟩)) outer s H:=⟨by first | exact e.frames | (simpa [Around.under,Code.envs,Code.isFrame,pushEnvs] using e.frames),e.mod,e.bs,e.bsz,e.funs,e.frf,e.hok,e.bare⟩
section
variable {X:Cx} {pins:List (Addr×Obj)} {σ:St} {H:Hp} {s s':Shared}
theorem Inv.env0 (I:Inv X pins σ H s):Env0 X.prog X.w X.K X.mg X.base X.A X.stack s H:=
 ⟨I.ok.frames,I.ok.mod,I.bs,Nat.le_trans I.ok.bsz I.sz,I.stack,I.stkFree,I.hok,I.bare⟩
theorem Inv.after {Q:VK} {u:Value} (I:Inv X pins σ H s) (h:CE X.stack X.prog X.w H s Q u s'):EP X pins σ Q u s':=by
 obtain ⟨v,H',os,bare,un,hok,r,q⟩:=h
 obtain ⟨hh,g,d,t,os'⟩:=s'
 obtain rfl:os'=s.os:=os
 exact ⟨v,H',I.call (h':=hh) (g':=g) (d':=d) (t':=t) (ch:=[]) un hok bare (fun b z=>absurd z (by simp)),r,q⟩
end
noncomputable def Jr (sp:Sp) (dvs:List V) (E:XK) (t:TA):TE:=fun σ H Q=>t σ H fun vs H1=>sp (vs++dvs) H1 Q E
noncomputable def Nk (C:Addr) (m:Str) (sp:Sp) (dvs:List V) (E:XK) (ta:TE) (t:TA):TE:=fun σ H Q=>ta σ H fun x H1=>∃ a dx fs,x= .ref a∧H1 a=some (.ins C dx fs)∧fs.lookup m=none∧
 t σ H1 fun vs H2=>sp (x::(vs++dvs)) H2 Q E
noncomputable def Nl (C:Addr) (sp:Sp) (dvs:List V) (E:XK) (t:TA):TE:=fun σ H Q=>t σ H fun vs H1=>∀ x dx,H1 x=none→H1 dx=none→dx≠x→
 sp (.ref x::(vs++dvs)) (upd (upd H1 dx (.own x)) x (.ins C dx [])) (fun v H2=>v= .non∧Q (.ref x) H2) E
noncomputable def bM (K:PySem.W.Frag) (fd:FuncData) (ps:List Str) (ds:List Value):Prop:=
 ∀ (s:Shared) (us:List Value),K.In s.heap→(us++ds).length=ps.length→BindsTo s fd ⟨us,[]⟩ (ps.zip (us++ds))
theorem bM.all {K:PySem.W.Frag} {fd:FuncData} {ps:List Str} (h:∀ us:List Value,us.length=ps.length→bindArgs fd ⟨us,[]⟩=pure (ps.zip us)):bM K fd ps []:=fun s us _ hl=>by
 rw [List.append_nil] at hl ⊢
 exact .of_eq (h us hl)
noncomputable def oA (CX:CXT) (X:Cx) (E:XK):Prop:=∀ (pins:List (Addr×Obj)) (σ:St) (H:Hp) (s:Shared) (e:Value) (s':Shared),Inv X pins σ H s→CX X.stack H s E e s'→X.xe e s'
section
variable {X:Cx} {CX:CXT} {k:Nat} {f C:Addr} {fd:FuncData} {ps:List Str} {sp:Sp} {dvs:List V} {ds:List Value} {E:XK} {x m:Str} {p pos apos:Pos} {e o:Expr} {es:List Expr} {ta:TE} {t:TA}
theorem GD {pins:List (Addr×Obj)} {σ:St} {H:Hp} {s:Shared} {Q:VK} {us:List Value} {vs:List V} (F:FnOk X.prog X.w X.K X.mg X.base CX k f fd ps sp) (hr:Room k X.A) (hb:bM X.K fd ps ds) (hd:Vals dvs ds) (hx:oA CX X E)
  (I:Inv X pins σ H s) (r:Vals vs us) (h:sp (vs++dvs) H Q E):wpAny (model X.prog X.w) X.A (call (.ref f) us) (EP X pins σ Q) X.xe s:=by
 have r2:Vals (vs++dvs) (us++ds):=r.append hd
 have hl:(us++ds).length=ps.length:=by rw [← r2.length];exact F.len _ _ _ _ h
 refine wpAny_call (codeAny_mono (F.run X.A X.stack s H ⟨us,[]⟩ (us++ds) (vs++dvs) Q E hr I.env0 (hb s us I.kIn hl) r2 h) fun r s' hq=>?_)
 cases r with
 | error e=>exact hx pins σ H s e s' I hq
 | ok fl=>
   cases fl with
   | ret u=>exact I.after hq
   | next=>exact False.elim hq
   | brk=>exact False.elim hq
   | cont=>exact False.elim hq
theorem ax (F:FnOk X.prog X.w X.K X.mg X.base CX k f fd ps sp) (hr:Room k X.A) (hg:Gl X x) (hm:X.mg x=some (.ref f)) (hk:PySem.W.keepIn X.K (.ref f)=true) (hb:bM X.K fd ps ds) (hd:Vals dvs ds) (hx:oA CX X E)
  (ha:PA X (e::es) t) (hdb:(x == ("__debug__":Str))=false:=by decide) (he:starEach (e::es) X.env=(false,eval e X.env)::starEach es X.env:=by rfl) (hpl:(backTo pos (starEach es X.env)).any (·.1)=false:=by rfl):
  PE X (.Call (.Name x p) (e::es) [] pos) (Jr sp dvs E t):=by
 intro pins s σ H Q I h
 refine wpAny_Call_Name_kw (gO I hg hm ?_ hdb)
 refine PySem.W.callWith_K (h₀:=X.base) I.ok.mod.kin hk (thn (ha pos pins s σ H _ I h) fun us s1 ⟨vs,H1,I1,r,q⟩=>⟨I1.kIn,?_⟩) he hpl
 exact GD F hr hb hd hx I1 r q
theorem dI {pl:Sem Bool} (he:PE X o ta) (c:Cls X.K C) (hm:Meth X.K C m f) (F:FnOk X.prog X.w X.K X.mg X.base CX k f fd ps sp) (hr:Room k X.A) (hb:bM X.K fd ps ds) (hd:Vals dvs ds) (hx:oA CX X E)
  (ht:eval (.Call (.Attribute o m apos) [] [] pos) X.env=(do
   let ov ← eval o X.env
   standAt apos.atName
   let (f,first) ← holding [ov] (getMethod ov m pl)
   callWith pos f first (backTo pos (starEach [] X.env)) (backToKw pos (keywordEach [] X.env))):=by rfl):
  PE X (.Call (.Attribute o m apos) [] [] pos) (Nk C m sp dvs E ta tNil):=by
 intro pins s σ H Q I h
 refine PySem.W.methodCall_KW (pl:=pl) (thn (he pins s σ H _ I h) fun u s1 ⟨x,H1,I1,rx,a,dx,fs,ex,ea,l,q⟩=>?_) ht
 subst ex
 obtain rfl:u=Value.ref a:=rx
 refine vx I1 ea c hm l ?_
 exact PySem.W.callWith_K0 (first:=[.ref a]) I1.kIn hm.kp (GD (us:=[.ref a]) (vs:=[.ref a]) F hr hb hd hx I1 (.cons rfl .nil) q)
structure Mk (K:PySem.W.Frag) (C f:Addr):Prop where
 makes:PySem.W.makesIn K C=true
 init:PySem.W.findIn K (.ref C) "__init__"=some (some (.ref f))
 fn:PySem.W.isFn K (.ref f)=true
 kp:PySem.W.keepIn K (.ref C)=true
theorem JF {pins:List (Addr×Obj)} {σ:St} {H:Hp} {s:Shared} {Q:VK} {us:List Value} {vs:List V} (M:Mk X.K C f) (F:FnOk X.prog X.w X.K X.mg X.base CX k f fd ps sp) (hr:Room (k + 1) X.A) (hb:bM X.K fd ps ds) (hd:Vals dvs ds)
  (hx:oA CX X E) (I:Inv X pins σ H s) (r:Vals vs us)
  (h:∀ x dx,H x=none→H dx=none→dx≠x→sp (.ref x::(vs++dvs)) (upd (upd H dx (.own x)) x (.ins C dx [])) (fun v H2=>v= .non∧Q (.ref x) H2) E):
  wpAny (model X.prog X.w) X.A (call (.ref C) us) (EP X pins σ Q) X.xe s:=by
 have hq:=h (s.heap.objs.size + 1) s.heap.objs.size (I.hok.fresh (Nat.le_succ _)) (I.hok.fresh (Nat.le_refl _)) (Nat.ne_of_lt (Nat.lt_succ_self _))
 have I2:=Inv.made (C:=C) I
 have r2:Vals (V.ref (s.heap.objs.size + 1)::(vs++dvs)) (Value.ref (s.heap.objs.size + 1)::(us++ds)):= .cons rfl (r.append hd)
 have hl:(Value.ref (s.heap.objs.size + 1)::us++ds).length=ps.length:=by
  have e:=r2.length
  rw [F.len _ _ _ _ hq] at e
  exact e.symm
 refine wpAny_call (Ca (f:=f) I.kIn M.makes M.init (beq_iff_eq.mp M.fn) (codeAny_mono (F.run _ X.stack _ _ ⟨Value.ref (s.heap.objs.size + 1)::us,[]⟩ (Value.ref (s.heap.objs.size + 1)::(us++ds)) _ _ E (hr.make C us [])
  (I2.env0.make C us []) (hb _ (Value.ref (s.heap.objs.size + 1)::us) I2.kIn hl) r2 hq) fun r s' hq'=>?_))
 cases r with
 | error e=>exact hx pins σ _ _ e s' I2 hq'
 | ok fl=>
   cases fl with
   | ret u=>
     obtain ⟨v,H',I3,rv,ev,q3⟩:=I2.after hq'
     subst ev
     exact ⟨rv,⟨V.ref (s.heap.objs.size + 1),H',I3,rfl,q3⟩⟩
   | next=>exact False.elim hq'
   | brk=>exact False.elim hq'
   | cont=>exact False.elim hq'
theorem Al (M:Mk X.K C f) (F:FnOk X.prog X.w X.K X.mg X.base CX k f fd ps sp) (hr:Room (k + 1) X.A) (hg:Gl X x) (hm:X.mg x=some (.ref C)) (hb:bM X.K fd ps ds) (hd:Vals dvs ds) (hx:oA CX X E)
  (ha:PA X (e::es) t) (hdb:(x == ("__debug__":Str))=false:=by decide) (he:starEach (e::es) X.env=(false,eval e X.env)::starEach es X.env:=by rfl) (hpl:(backTo pos (starEach es X.env)).any (·.1)=false:=by rfl):
  PE X (.Call (.Name x p) (e::es) [] pos) (Nl C sp dvs E t):=by
 intro pins s σ H Q I h
 refine wpAny_Call_Name_kw (gO I hg hm ?_ hdb)
 refine PySem.W.callWith_K (h₀:=X.base) I.ok.mod.kin M.kp (thn (ha pos pins s σ H _ I h) fun us s1 ⟨vs,H1,I1,r,q⟩=>⟨I1.kIn,?_⟩) he hpl
 exact JF M F hr hb hd hx I1 r q
end
section
variable {X:Cx} {CX:CXT} {k:Nat} {f C:Addr} {fd:FuncData} {ps ks:List Str} {sp:Sp} {E:XK} {x m:Str} {p pos apos kpos:Pos} {e o:Expr} {es:List Expr} {kws:List Keyword} {te ta:TE} {t tk:TA} {nm:Option Str}
structure Qr (K:PySem.W.Frag) (fd:FuncData) (ps ks:List Str) (g:List Value→List Value→List Value) (gV:List V→List V→List V):Prop where
 to:∀ (s:Shared) (us ws:List Value),K.In s.heap→(g us ws).length=ps.length→BindsTo s fd ⟨us,ks.zip ws⟩ (ps.zip (g us ws))
 rel:∀ {vs:List V} {us:List Value} {zs:List V} {ws:List Value},Vals vs us→Vals zs ws→Vals (gV vs zs) (g us ws)
variable {g:List Value→List Value→List Value} {gV:List V→List V→List V}
end
structure aI (N P:List Str) (sc:Scope):Prop where
 kind:sc.kind= .function
 co:sc.isCoroutine=false
 gen:sc.isGenerator=false
 nd:N.Nodup
 pre:N.take P.length=P
 par:∀ x∈P,sc.names.lookup x=some .local∨sc.names.lookup x=some .cell
 nofree:∀ y∈sc.names,y.2≠.free
theorem zD {kindOf:Str→Option NameKind} {x:Str}:∀ {binds:List (Str×Value)} {m:Str→Option Value},(∀ v,(x,v)∉binds)→bindL kindOf binds m x=m x
 | [],_,_=>rfl
 | (n,v)::r,m,h=>by
   unfold bindL
   rw [zD fun w hw=>h w (List.mem_cons_of_mem _ hw)]
   split
   ·have:x≠n:=by rintro rfl;exact h v List.mem_cons_self
    simp [this]
   ·rfl
theorem zF {kindOf:Str→Option NameKind} {x:Str}:∀ {binds:List (Str×Value)} {m:Str→Option Value},(∀ v,(x,v)∉binds)→bindC kindOf binds m x=m x
 | [],_,_=>rfl
 | (n,v)::r,m,h=>by
   unfold bindC
   rw [zF fun w hw=>h w (List.mem_cons_of_mem _ hw)]
   split
   ·rfl
   ·have:x≠n:=by rintro rfl;exact h v List.mem_cons_self
    simp [this]
theorem zE {kindOf:Str→Option NameKind} {x:Str} {v:Value}:∀ {P:List Str} {vs:List Value} {i:Nat} {m:Str→Option Value},P.Nodup→P[i]? =some x→vs[i]? =some v→kindOf x=some .local→
  bindL kindOf (P.zip vs) m x=some v
 | [],_,_,_,_,h,_,_=>by simp at h
 | _::_,[],_,_,_,_,h,_=>by simp at h
 | p::P,w::vs,0,m,nd,h1,h2,hk=>by
   simp at h1 h2;subst h1;subst h2
   show bindL kindOf ((p,w)::P.zip vs) m p=_
   unfold bindL
   rw [zD fun v hv=>(List.nodup_cons.mp nd).1 (List.of_mem_zip hv).1,if_pos hk]
   simp
 | p::P,w::vs,i + 1,m,nd,h1,h2,hk=>by
   show bindL kindOf ((p,w)::P.zip vs) m x=_
   unfold bindL
   exact zE (i:=i) (List.nodup_cons.mp nd).2 (by simpa using h1) (by simpa using h2) hk
theorem zG {kindOf:Str→Option NameKind} {x:Str} {v:Value}:∀ {P:List Str} {vs:List Value} {i:Nat} {m:Str→Option Value},P.Nodup→P[i]? =some x→vs[i]? =some v→kindOf x≠some .local→
  bindC kindOf (P.zip vs) m x=some v
 | [],_,_,_,_,h,_,_=>by simp at h
 | _::_,[],_,_,_,_,h,_=>by simp at h
 | p::P,w::vs,0,m,nd,h1,h2,hk=>by
   simp at h1 h2;subst h1;subst h2
   show bindC kindOf ((p,w)::P.zip vs) m p=_
   unfold bindC
   rw [zF fun v hv=>(List.nodup_cons.mp nd).1 (List.of_mem_zip hv).1,if_neg hk]
   simp
 | p::P,w::vs,i + 1,m,nd,h1,h2,hk=>by
   show bindC kindOf ((p,w)::P.zip vs) m x=_
   unfold bindC
   exact zG (i:=i) (List.nodup_cons.mp nd).2 (by simpa using h1) (by simpa using h2) hk
noncomputable def start (N:List Str) (vs:List V):St:=vs.map some++List.replicate (N.length - vs.length) none
noncomputable def cxOf (CX:CXT) (P:Program) (w:World) (K:PySem.W.Frag) (mg:Str→Option Value) (base:Heap) (N:List Str) (qual:Str) (scope:Scope) (f:Addr) (cd:Value) (A:Around) (outer:List Env) (s:Shared) (H:Hp) (E:XK):Cx where
 prog:=P
 w:=w
 K:=K
 mg:=mg
 base:=base
 A:=A.deeper (envOfC qual scope s.heap.objs.size f cd)
 N:=N
 s₀:=s
 H₀:=H
 env:=envOfC qual scope s.heap.objs.size f cd
 outer:=outer
 stack:=envOfC qual scope s.heap.objs.size f cd::outer
 ex:=[]
 calm:=true
 fn:=fun _=>true
 pn:=[]
 xe:=fun e s'=>wpAny (model P w) (A.deeper (envOfC qual scope s.heap.objs.size f cd)) (leaving (envOfC qual scope s.heap.objs.size f cd) e) (fun _ s''=>CX outer H s E e s'') (fun e' s''=>CX outer H s E e' s'') s'
theorem Cu {sc:Scope} {n:Nat} {x:Str} (h:sc.names.lookup x=some .cell):∃ c,(cellsFrom n sc.names []).lookup x=some c:=by
 have q:=PySem.W.cellsFrom_some sc.names n [] (.inl h)
 exact Option.isSome_iff_exists.mp q
theorem Hw {CX:CXT} {P:Program} {w:World} {K:PySem.W.Frag} {mg:Str→Option Value} {base:Heap} {N ps:List Str} {qual:Str} {scope:Scope} {f:Addr} {cd:Value} {A:Around} {outer:List Env} {s s1:Shared} {H:Hp} {E:XK} {us:List Value} {vs:List V}
  (S:aI N ps scope) (hd:A.handled=none) (e0:Env0 P w K mg base A outer s H) (hl:vs.length=ps.length) (r:Vals vs us)
  (x:InCallC s s.heap.objs.size (bindL (envOfC qual scope s.heap.objs.size f cd).kindOf (ps.zip us) fun _=>none) (cellsFrom (s.heap.objs.size + 1) scope.names []) (bindC (envOfC qual scope s.heap.objs.size f cd).kindOf (ps.zip us) fun _=>none) s1):
  Inv (cxOf CX P w K mg base N qual scope f cd A outer s H E) [] (start N vs) H s1:=by
 have hpl:ps.length≤N.length:=by have:=congrArg List.length S.pre;rw [List.length_take] at this;omega
 obtain ⟨h1,tk,rfl,hk⟩:=x.done
 have noA:∀ b:Addr,b∉(cxOf CX P w K mg base N qual scope f cd A outer s H E).ex:=fun b z=>absurd (show b∈([]:List Addr) from z) (by simp)
 refine ⟨⟨e0.mod,S.kind,rfl,rfl,Nat.le_refl _,fun y z c h1 h2=>?_,fun y hy=>?_,fun y c _ h=>?_,fun _=>hd,Around.frames_deeper e0.frames,.inr ⟨rfl,rfl⟩,fun b z=>absurd z (noA b),e0.bs,e0.bsz,fun b _ _=>noA b,fun b z=>absurd z (noA b),e0.funs,e0.frf⟩,
  rfl,e0.bare,Un.kept hk,⟨_,x.toInCall.ns,fun i y v h1 h2 h3=>?_⟩,fun y c h=>⟨_,x.cell y c h⟩,e0.hok.fresh (Nat.le_refl _),fun y c h=>?_,fun p hp=>absurd (show p∈([]:List (Addr×Obj)) from hp) (by simp),e0.hok.kept hk,?_⟩
 ·exact name_of_addr x.apart (PySem.mem_of_lookup h1) (PySem.mem_of_lookup h2)
 ·have hy:scope.names.lookup y=some .cell∨scope.names.lookup y=some .free:=hy
  rcases hy with hy | hy
  ·exact Cu hy
  ·exact absurd rfl (S.nofree _ (PySem.mem_of_lookup hy))
 ·exact Nat.le_of_lt (x.above y c (PySem.mem_of_lookup h))
 ·have hi:i < vs.length:=by
   unfold start at h2
   by_cases hi:i < vs.length
   ·exact hi
   ·rw [List.getElem?_append_right (by simpa using hi)] at h2
    rw [List.getElem?_replicate] at h2
    split at h2<;>cases h2
  have ha:vs[i]? =some v:=by
   unfold start at h2
   rw [List.getElem?_append_left (by simpa using hi),List.getElem?_map] at h2
   cases e:vs[i]? with
   | none=>rw [e] at h2;cases h2
   | some a=>rw [e] at h2;cases h2;rfl
  obtain ⟨u,hu,rv⟩:=r.get ha
  have hp:ps[i]? =some y:=by
   rw [← S.pre,List.getElem?_take_of_lt (by omega)];exact h1
  have ndP:ps.Nodup:=by rw [← S.pre];exact S.nd.sublist (List.take_sublist _ _)
  refine ⟨u,rv,?_⟩
  rcases S.par y (List.mem_of_getElem? hp) with k | k
  ·exact .inl ⟨k,zE ndP hp hu k⟩
  ·obtain ⟨c,e⟩:=Cu (n:=s.heap.objs.size + 1) k
   refine .inr ⟨.inl k,c,e,?_⟩
   have q:=x.cell y c e
   rw [zG ndP hp hu (by show scope.names.lookup y≠_;rw [k];decide)] at q
   exact q
 ·exact e0.hok.fresh (Nat.le_of_lt (x.above y c (PySem.mem_of_lookup h)))
 ·unfold start
  show _=N.length
  rw [List.length_append,List.length_map,List.length_replicate]
  omega
theorem OV {CX:CXT} {P:Program} {w:World} {K:PySem.W.Frag} {mg:Str→Option Value} {base:Heap} {k:Nat} {f:Addr} {name qual:Str} {params:Arguments} {body:List Stmt} {scope:Scope} {dV kV doc pm cdv ct oc:Value} {an od:Option Addr}
  {osl:Array (Option Value)} {N ps:List Str} {sp:Sp} (lk:K.lookup f=some ⟨oc,od,.func (PySem.W.fnOf name qual params body scope dV kV doc pm an cdv ct),osl⟩) (hcd:PySem.W.codeIn K cdv qual=true) (S:aI N ps scope)
  (len:∀ vs H Q E,sp vs H Q E→vs.length=ps.length)
  (hbody:∀ (A:Around) (outer:List Env) (s:Shared) (H:Hp) (vs:List V) (Q:VK) (E:XK),Room k (A.deeper (envOfC qual scope s.heap.objs.size f cdv))→sp vs H Q E→
   ∃ t,PSs (cxOf CX P w K mg base N qual scope f cdv A outer s H E) body t∧t {nx:=fun _ H'=>Q .non H',rt:=Q} (start N vs) H):
  FnOk P w K mg base CX (k + 1) f (PySem.W.fnOf name qual params body scope dV kV doc pm an cdv ct) ps sp:=by
 refine ⟨len,fun A outer s H args us vs Q E hr e0 hb r hsp=>?_⟩
 have hl:=len _ _ _ _ hsp
 have KX:K.In s.heap:=e0.mod.kin.keeps fun b o e=>(e0.bs b o e).1
 have lim:s.heap.NoLimit:=e0.mod.nolimit.keeps fun b o e=>(e0.bs b o e).1
 have hkind:∀ y∈ps.zip us,scope.names.lookup y.1=some .local∨(scope.names.lookup y.1=some .cell∧((cellsFrom (s.heap.objs.size + 1) scope.names []).lookup y.1).isSome=true):=fun ⟨n,v⟩ hy=>by
  rcases S.par n (List.of_mem_zip hy).1 with q | q
  ·exact .inl q
  ·exact .inr ⟨q,PySem.W.cellsFrom_some _ _ _ (.inl q)⟩
 refine codeAny_call_function hr.depth (KX _ _ lk) rfl S.co S.gen rfl (PySem.W.codeRec_of KX hcd) (hb _ _ _ _ ?_)
 refine wpAny_newFunctionEnv_cells S.kind hkind fun env he s1 x=>?_
 subst he
 refine ⟨lim.keeps x.toInCall.keep,codeAny_func ?_⟩
 obtain ⟨t,ht,hq⟩:=hbody A outer s H vs Q E (hr.deeper _) hsp
 have I:Inv (cxOf CX P w K mg base N qual scope f cdv A outer s H E) [] (start N vs) H s1:=Hw S hr.hd e0 hl r x
 refine wpAny_mono (ht [] s1 (start N vs) H _ I hq) (fun fl s' hs=>?_) fun e s' hs=>hs
 have fin:∀ {σ':St} {H':Hp} {v:V} {u:Value},Inv (cxOf CX P w K mg base N qual scope f cdv A outer s H E) [] σ' H' s'→RelV v u→Q v H'→CE outer P w H s Q u s':=
  fun {σ' H' v u} J rv q=>⟨v,H',J.os,J.bare,J.base,J.hok,rv,q⟩
 cases fl with
 | ret u=>
   obtain ⟨v,σ',H',J,rv,q⟩:=hs
   exact fin J rv q
 | next=>
   obtain ⟨σ',H',J,q⟩:=hs
   exact fin (v:=V.non) (u:=Value.none) J rfl q
 | brk=>
   obtain ⟨_,_,_,q⟩:=hs
   exact False.elim q
 | cont=>
   obtain ⟨_,_,_,q⟩:=hs
   exact False.elim q
section
variable {X:Cx} {x:Str} {p pos:Pos} {e:Expr} {es:List Expr} {t:TA} {id T:String} {r:List V→Hp→VK→Prop}
noncomputable def tCB (r:List V→Hp→VK→Prop) (t:TA):TE:=fun σ H Q=>t σ H fun vs H1=>r vs H1 Q
theorem aD (hc:jH X (.builtin id) r) (hg:Gl X x) (hm:X.mg x=none) (hv:bootBuiltins x=some (.builtin id)) (ha:PA X (e::es) t) (hn:x≠"__name__":=by decide) (hdb:(x == ("__debug__":Str))=false:=by decide)
  (he:starEach (e::es) X.env=(false,eval e X.env)::starEach es X.env:=by rfl) (hpl:(backTo pos (starEach es X.env)).any (·.1)=false:=by rfl):PE X (.Call (.Name x p) (e::es) [] pos) (tCB r t):=by
 intro pins s σ H Q I h
 refine wpAny_Call_Name_kw (oq I hg hm hv ?_ hn hdb)
 exact PyProof.Rows.callWith_builtin1 (thn (ha pos pins s σ H _ I h) fun us s1 ⟨vs,H1,I1,r1,q1⟩=>hc pins s1 σ H1 vs us Q I1 r1 q1) he hpl
theorem bb (hc:jH X (.type T) r) (hg:Gl X x) (hm:X.mg x=none) (hv:bootBuiltins x=some (.type T)) (ha:PA X (e::es) t) (hn:x≠"__name__":=by decide) (hdb:(x == ("__debug__":Str))=false:=by decide)
  (he:starEach (e::es) X.env=(false,eval e X.env)::starEach es X.env:=by rfl) (hpl:(backTo pos (starEach es X.env)).any (·.1)=false:=by rfl):PE X (.Call (.Name x p) (e::es) [] pos) (tCB r t):=by
 intro pins s σ H Q I h
 refine wpAny_Call_Name_kw (oq I hg hm hv ?_ hn hdb)
 exact PyProof.Rows.callWith_type1 (thn (ha pos pins s σ H _ I h) fun us s1 ⟨vs,H1,I1,r1,q1⟩=>hc pins s1 σ H1 vs us Q I1 r1 q1) he hpl
end
end L2
namespace HT
open PySem PyProof.Rows
section
variable {prog:Program} {w:World} {A:Around} {E:Value→Shared→Prop} {s:Shared}
noncomputable def sIx (n d:Nat):Option Int→Nat
 | none=>d
 | some v=>if v < 0 then (v + (n:Int)).toNat else min v.toNat n
theorem sIx_none (n d:Nat):sIx n d none=d:=rfl
theorem sIx_nat (n d k:Nat):sIx n d (some (k:Int))=min k n:=by
 show (if (k:Int) < 0 then ((k:Int) + (n:Int)).toNat else min (k:Int).toNat n)=min k n
 rw [if_neg (by omega),Int.toNat_natCast]
end
end HT
namespace L2
open PySem PySem.Spec PyProof.Rows
noncomputable abbrev TO:=St→Hp→(Option Int→Hp→Prop)→Prop
noncomputable def PO (X:Cx) (e:Option Expr) (t:TO):Prop:=
 ∀ (pins:List (Addr×Obj)) (s:Shared) (σ:St) (H:Hp) (Q:Option Int→Hp→Prop),Inv X pins σ H s→t σ H Q→
  wpAny (model X.prog X.w) X.A (evalPart e X.env) (fun u s'=>∃ o H',Inv X pins σ H' s'∧IsPart u o∧Q o H') X.xe s
noncomputable def F3:TO:=fun _ H Q=>Q none H
noncomputable def Ni (t:TE):TO:=fun σ H Q=>t σ H fun x H1=>∃ i,x= .int i∧Q (some i) H1
section
variable {X:Cx} {e:Expr} {te:TE} {lo hi:Option Expr} {tl th:TO} {pos p2:Pos}
theorem GR:PO X none F3:=by
 intro pins s σ H Q I h
 rw [evalPart_none]
 exact wpAny_pure ⟨none,H,I,.none,h⟩
theorem v8 (h:PE X e te):PO X (some e) (Ni te):=by
 intro pins s σ H Q I hw
 rw [evalPart_some]
 refine thn (h pins s σ H _ I hw) fun u s1 ⟨x,H1,I1,r1,q1⟩=>?_
 obtain ⟨i,rfl,q⟩:=q1
 obtain ⟨t,rfl⟩:=r1
 exact ⟨some i,H1,I1,.int i t,q⟩
noncomputable def SlR (X:Cx) (r:V→Option Int→Option Int→Hp→VK→Prop):Prop:=
 ∀ (pins:List (Addr×Obj)) (s:Shared) (σ:St) (H:Hp) (x:V) (v vl vu:Value) (lo hi:Option Int) (sl:Addr) (Q:VK),Inv X pins σ H s→RelV x v→s.heap.IsSliceOf sl vl vu .none→IsPart vl lo→IsPart vu hi→r x lo hi H Q→
  ∃ T id,typeLookup (.type T) "__getitem__"=pure (some (.builtin id))∧s.TypeIs v T∧wpAny (model X.prog X.w) X.A (getItem v (.ref sl)) (EP X pins σ Q) X.xe s
noncomputable def tSl (r:V→Option Int→Option Int→Hp→VK→Prop) (te:TE) (tl th:TO):TE:=fun σ H Q=>te σ H fun x H1=>tl σ H1 fun l H2=>th σ H2 fun u H3=>r x l u H3 Q
theorem wj {r:V→Option Int→Option Int→Hp→VK→Prop} (hr:SlR X r) (he:PE X e te) (hl:PO X lo tl) (hu:PO X hi th):PE X (.Subscript e (.Slice lo hi none p2) pos) (tSl r te tl th):=by
 intro pins s σ H Q I h
 refine Subscript_ (thn (he pins s σ H _ I h) fun v s1 ⟨x,H1,I1,r1,q1⟩=>?_)
 refine wpAny_Slice (thn (hl pins s1 σ H1 _ I1 q1) fun vl s2 ⟨l,H2,I2,pl,q2⟩=>thn (hu pins s2 σ H2 _ I2 q2) fun vu s3 ⟨u,H3,I3,pu,q3⟩=>?_)
 rw [evalPart_none]
 refine wpAny_pure ?_
 have I4:Inv X pins σ H3 {s3 with heap:=s3.heap.push {cls:= .type "slice",data:= .fields #[vl,vu,.none]}}:=I3.kept (t':=s3.toks) fun b ob q=>Heap.get?_push_of_some _ q
 obtain ⟨T,id,hT,ht,hg⟩:=hr pins {s3 with heap:=s3.heap.push {cls:= .type "slice",data:= .fields #[vl,vu,.none]}} σ H3 x v vl vu l u s3.heap.objs.size Q I4 r1 (Heap.IsSliceOf.new ..) pl pu q3
 show wpAny (model X.prog X.w) X.A (subscriptTail e (.Slice lo hi none p2) v (.ref s3.heap.objs.size)) (EP X pins σ Q) X.xe {s3 with heap:=s3.heap.push {cls:= .type "slice",data:= .fields #[vl,vu,.none]}}
 exact tail_any (ops:=[.ref s3.heap.objs.size,v]) ht hT hg (by with_unfolding_all rfl)
noncomputable def cutV (xs:List V) (lo hi:Option Int):List V:=(xs.drop (HT.sIx xs.length 0 lo)).take (HT.sIx xs.length xs.length hi - HT.sIx xs.length 0 lo)
theorem Bm (xs:List V) (lo hi:Option Int):(cutV xs lo hi).length≤xs.length:=by
 unfold cutV
 rw [List.length_take,List.length_drop]
 omega
end
noncomputable def ixN (n:Nat) (i:Int):Option Nat:=if 0≤i then (if i < n then some i.toNat else none) else if -(n:Int)≤i then some (i + n).toNat else none
noncomputable def atI {α:Type} (xs:List α) (i:Int):Option α:=(ixN xs.length i).bind fun j=>xs[j]?
theorem MF {n:Nat} {i:Int} {j:Nat} (h:ixN n i=some j):seqIndex? i n=some j∧j < n∧-(n:Int)≤i∧i < n:=by
 unfold ixN at h
 by_cases h0:0≤i
 ·rw [if_pos h0] at h
  by_cases h1:i < n
  ·rw [if_pos h1] at h
   have e:i.toNat=j:=Option.some.inj h
   exact ⟨by rw [seqIndex_of h0 h1,e],by omega,by omega,h1⟩
  ·rw [if_neg h1] at h;cases h
 ·rw [if_neg h0] at h
  by_cases h1: -(n:Int)≤i
  ·rw [if_pos h1] at h
   have e:(i + n).toNat=j:=Option.some.inj h
   exact ⟨by rw [seqIndex_neg (by omega) h1,e],by omega,h1,by omega⟩
  ·rw [if_neg h1] at h;cases h
theorem BB {α:Type} {xs:List α} {i:Int} {v:α} (h:atI xs i=some v):∃ j,seqIndex? i xs.length=some j∧xs[j]? =some v∧j < xs.length∧-(xs.length:Int)≤i∧i < xs.length:=by
 unfold atI at h
 cases e:ixN xs.length i with
 | none=>rw [e] at h;cases h
 | some j=>
   rw [e] at h
   obtain ⟨h1,h2,h3,h4⟩:=MF e
   exact ⟨j,h1,h,h2,h3,h4⟩
theorem bv {α:Type} {xs:List α} {j:Nat} {v:α} (h:xs[j]? =some v):atI xs (j:Int)=some v:=by
 have hj:j < xs.length:=(List.getElem?_eq_some_iff.mp h).1
 have e:ixN xs.length (j:Int)=some j:=by
  unfold ixN
  rw [if_pos (by omega),if_pos (by omega)];simp
 unfold atI;rw [e];exact h
noncomputable def MW (b:Expr):Prop:=∀ o i,subscripted b false o i=operate [o,i] (getItem o i)
noncomputable def IxR (X:Cx) (r:R2):Prop:=
 ∀ (value slice:Expr) (pins:List (Addr×Obj)) (s:Shared) (σ:St) (H:Hp) (x y:V) (v u:Value) (Q:VK),Inv X pins σ H s→RelV x v→RelV y u→r x y H Q→
  subscripted slice false v u=operate [v,u] (getItem v u)→wpAny (model X.prog X.w) X.A (subscriptTail value slice v u) (EP X pins σ Q) X.xe s
noncomputable def MtR (X:Cx) (id:String) (r:V→List V→Hp→VK→Prop):Prop:=
 ∀ (pins:List (Addr×Obj)) (s:Shared) (σ:St) (H:Hp) (x:V) (xs:List V) (v:Value) (us:List Value) (Q:VK),Inv X pins σ H s→RelV x v→Vals xs us→r x xs H Q→
  wpAny (model X.prog X.w) X.A (call (.builtin id) (v::us)) (EP X pins σ Q) X.xe s
section
variable {X:Cx} {a b:Expr} {ta tb:TE} {pos:Pos}
theorem cu {r:R2} (hr:IxR X r) (ha:PE X a ta) (hb:PE X b tb) (hs:MW b):PE X (.Subscript a b pos) (tOp r ta tb):=by
 intro pins s σ H Q I h
 exact Subscript_ (binT ha hb I h fun v u s2 x y H2 I2 rx ry q=>hr a b pins s2 σ H2 x y v u Q I2 rx ry q (hs _ _))
noncomputable def rIxL (K:PySem.W.Frag):R2:=fun x y H Q=>∃ p xs i v,x= .ref p∧y= .int i∧SqL K H p xs∧atI xs i=some v∧Q v H
noncomputable def rIxT (K:PySem.W.Frag):R2:=fun x y H Q=>∃ p xs i v,x= .ref p∧y= .int i∧SqT K H p xs∧atI xs i=some v∧Q v H
noncomputable def rIxS:R2:=fun x y H Q=>∃ z i c,x= .str z∧y= .int i∧z.length≤sizeLine∧atI z.cps.toList i=some c∧Q (.str ⟨#[c]⟩) H
theorem ME:IxR X (rIxL X.K):=by
 intro value slice pins s σ H x y v u Q I rx ry h hs
 obtain ⟨p,xs,i,z,rfl,rfl,hq,he,q⟩:=h
 cases rx
 obtain ⟨t,rfl⟩:=ry
 obtain ⟨its,r,pl,hz⟩:=I.list hq
 obtain ⟨j,h1,h2,h3,h4,h5⟩:=BB he
 obtain ⟨w,ew,rw'⟩:=r.get h2
 have hl:=r.length
 have hn:=Cb
 have fin:EP X pins σ Q w s:=⟨z,H,I,rw',q⟩
 by_cases h0:0≤i
 ·have hj:i.toNat=j:=by
   rw [seqIndex_of h0 h5] at h1
   exact Option.some.inj h1
  exact item_listR pl.isList h0 (by omega) (by rw [hj];simpa using ew) fin hs
 ·have hj:(i + (its.toArray.size:Int)).toNat=j:=by
   rw [seqIndex_neg (by omega) h4] at h1
   rw [List.size_toArray,← hl]
   exact Option.some.inj h1
  exact subscriptTail_builtinR (x:=w) pl.isList.typeIs slot_list_getitem.lookup
   (wpAny_getItem_list_neg (Q:=fun r s'=>r=w∧EP X pins σ Q r s') pl.isList (by omega) (by rw [List.size_toArray]<;>omega) (by omega) (by rw [hj];simpa using ew) ⟨rfl,fin⟩) hs
theorem OQ:IxR X (rIxT X.K):=by
 intro value slice pins s σ H x y v u Q I rx ry h hs
 obtain ⟨p,xs,i,z,rfl,rfl,hq,he,q⟩:=h
 cases rx
 obtain ⟨t,rfl⟩:=ry
 obtain ⟨its,r,pl,hz⟩:=I.tuple hq
 obtain ⟨j,h1,h2,h3,h4,h5⟩:=BB he
 obtain ⟨w,ew,rw'⟩:=r.get h2
 have hl:=r.length
 have hn:=Cb
 have fin:EP X pins σ Q w s:=⟨z,H,I,rw',q⟩
 exact subscriptTail_builtinR (x:=w) pl.typeIs slot_tuple_getitem.lookup
  (getItem_tuple (j:=j) (Q:=fun r s'=>r=w∧EP X pins σ Q r s') pl (by omega) (by omega) (by rw [List.size_toArray,← hl];exact h1) (by simpa using ew) ⟨rfl,fin⟩) hs
theorem Ch:IxR X rIxS:=by
 intro value slice pins s σ H x y v u Q I rx ry h hs
 obtain ⟨z,i,c,rfl,rfl,hz,he,q⟩:=h
 obtain ⟨t,rfl⟩:=rx
 obtain ⟨t',rfl⟩:=ry
 obtain ⟨j,h1,h2,h3,h4,h5⟩:=BB he
 have hl:z.cps.toList.length=z.length:=by simp [Str.length]
 rw [hl] at h1 h4 h5
 have hn:=Cb
 exact tail_any (typeIs_str s z t) slot_str_getitem.lookup (getItem_str (c:=c) (by
  have e1:decide (i < -(2 ^ 63:Int))=false:=decide_eq_false (by omega)
  have e2:decide (i≥2 ^ 63)=false:=decide_eq_false (by omega)
  rw [e1,e2,Bool.or_false]) (by rw [h1];simpa using h2) ⟨.str ⟨#[c]⟩,H,I.tok _,⟨_,rfl⟩,q⟩) hs
theorem ya (lo hi:Option Int) (n:Nat):(sliceBounds lo hi none n).1=((HT.sIx n 0 lo:Nat):Int)∧(sliceBounds lo hi none n).2.1=((HT.sIx n n hi:Nat):Int)∧(sliceBounds lo hi none n).2.2=1:=by
 refine ⟨?_,?_,rfl⟩
 ·cases lo with
  | none=>simp [sliceBounds,HT.sIx]
  | some i=>
    simp only [sliceBounds,HT.sIx,Option.getD_none,show (1:Int) > 0 by decide,if_true]
    by_cases h:i < 0
    ·simp only [h,if_true]<;>omega
    ·simp only [h,if_false]<;>omega
 ·cases hi with
  | none=>simp [sliceBounds,HT.sIx]
  | some i=>
    simp only [sliceBounds,HT.sIx,Option.getD_none,show (1:Int) > 0 by decide,if_true]
    by_cases h:i < 0
    ·simp only [h,if_true]<;>omega
    ·simp only [h,if_false]<;>omega
theorem vM (its:List Value) (lo hi:Option Int):slicePick its.toArray lo hi none=((its.drop (HT.sIx its.length 0 lo)).take (HT.sIx its.length its.length hi - HT.sIx its.length 0 lo)).toArray:=by
 obtain ⟨h1,h2,h3⟩:=ya lo hi its.toArray.size
 unfold slicePick
 rw [h1,h2,h3]
 simp only [sliceRange_one,pick_run,List.size_toArray]<;>rfl
noncomputable def rSlL (K:PySem.W.Frag):V→Option Int→Option Int→Hp→VK→Prop:=fun x lo hi H Q=>∃ a xs,x= .ref a∧SqL K H a xs∧∀ p,H p=none→Q (.ref p) (upd H p (.lst (cutV xs lo hi)))
theorem LL:SlR X (rSlL X.K):=by
 intro pins s σ H x v vl vu lo hi sl Q I rx hs pl pu h
 obtain ⟨a,xs,rfl,hx,q⟩:=h
 cases rx
 obtain ⟨its,r,ht,hz⟩:=I.list hx
 have hlen:=r.length
 refine ⟨"list",_,slot_list_getitem.lookup,ht.isList.typeIs,?_⟩
 refine wpAny_getItem_list_slice ht.isList hs pl pu .none (by simp) ?_ (by rw [List.size_toArray]<;>omega)
 rw [vM,← hlen]
 refine ⟨.ref s.heap.objs.size,_,I.laid (t':=s.toks) (o:= .lst (cutV xs lo hi)) (fun b ob q=>Heap.get?_push_of_some _ q) (Nat.le_refl _) ?_,rfl,q _ (I.hok.fresh (Nat.le_refl _))⟩
 exact ⟨Nat.le_trans (Bm xs lo hi) hz,_,0,(r.drop (HT.sIx xs.length 0 lo)).take (HT.sIx xs.length xs.length hi - HT.sIx xs.length 0 lo),Heap.get?_push_size _ rfl⟩
noncomputable def zc:V→Bool
 | .non=>true
 | .bl _=>true
 | .int _=>true
 | .str _=>true
 | _=>false
noncomputable def eqV:V→V→Bool
 | .non,.non=>true
 | .bl a,.bl b=>a == b
 | .bl a,.int b=>(if a then 1 else 0) == b
 | .int a,.bl b=>a == (if b then 1 else 0)
 | .int a,.int b=>a == b
 | .str a,.str b=>a == b
 | _,_=>false
theorem OW {A:Around} {s:Shared} {y x:V} {u v:Value} (ry:RelV y u) (rx:RelV x v) (fy:zc y=true) (fx:zc x=true):SeqAt.EqAt A s u v (eqV y x):=by
 cases y with
 | non=>
   cases ry
   cases x with
   | non=>cases rx;exact SeqAt.EqAt.same _
   | bl b=>cases rx;exact SeqAt.EqAt.none_bool b
   | int b=>obtain ⟨t,rfl⟩:=rx;exact SeqAt.EqAt.none_int b t
   | str b=>obtain ⟨t,rfl⟩:=rx;exact SeqAt.EqAt.none_str b t
   | _=>exact absurd (show false=true from fx) Bool.false_ne_true
 | bl a=>
   cases ry
   cases x with
   | non=>cases rx;exact SeqAt.EqAt.bool_none a
   | bl b=>cases rx;exact SeqAt.EqAt.bool_bool a b
   | int b=>obtain ⟨t,rfl⟩:=rx;exact SeqAt.EqAt.bool_int a b t
   | str b=>obtain ⟨t,rfl⟩:=rx;exact SeqAt.EqAt.bool_str a b t
   | _=>exact absurd (show false=true from fx) Bool.false_ne_true
 | int a=>
   obtain ⟨t',rfl⟩:=ry
   cases x with
   | non=>cases rx;exact SeqAt.EqAt.int_none a t'
   | bl b=>cases rx;exact SeqAt.EqAt.int_bool a t' b
   | int b=>obtain ⟨t,rfl⟩:=rx;exact SeqAt.EqAt.int_int a t' b t
   | str b=>obtain ⟨t,rfl⟩:=rx;exact SeqAt.EqAt.int_str a t' b t
   | _=>exact absurd (show false=true from fx) Bool.false_ne_true
 | str a=>
   obtain ⟨t',rfl⟩:=ry
   cases x with
   | non=>cases rx;exact SeqAt.EqAt.str_none a t'
   | bl b=>cases rx;exact SeqAt.EqAt.str_bool a t' b
   | int b=>obtain ⟨t,rfl⟩:=rx;exact SeqAt.EqAt.str_int a t' b t
   | str b=>obtain ⟨t,rfl⟩:=rx;exact SeqAt.EqAt.str_str a t' b t
   | _=>exact absurd (show false=true from fx) Bool.false_ne_true
 | _=>exact absurd (show false=true from fy) Bool.false_ne_true
noncomputable def eqU (x:V) (u:Value):Bool:=match u with
 | .none=>eqV .non x
 | .bool b=>eqV (.bl b) x
 | .int i _=>eqV (.int i) x
 | .str z _=>eqV (.str z) x
 | _=>false
theorem Lj {x y:V} {u:Value} (r:RelV y u) (f:zc y=true):eqU x u=eqV y x:=by
 cases y with
 | non=>cases r;rfl
 | bl b=>cases r;rfl
 | int i=>obtain ⟨t,rfl⟩:=r;rfl
 | str z=>obtain ⟨t,rfl⟩:=r;rfl
 | _=>exact absurd (show false=true from f) Bool.false_ne_true
theorem BC {x:V}:∀ {xs:List V} {us:List Value},Vals xs us→xs.all zc=true→us.any (eqU x)=xs.any fun y=>eqV y x
 | _,_,.nil,_=>rfl
 | y::xs,u::us,.cons r t,f=>by
   rw [List.all_cons,Bool.and_eq_true] at f
   rw [List.any_cons,List.any_cons,Lj r f.1,BC t f.2]
theorem wP {A:Around} {s:Shared} {x:V} {v:Value} (rx:RelV x v) (fx:zc x=true):∀ {xs:List V} {us:List Value},Vals xs us→xs.all zc=true→∀ u∈us,SeqAt.EqAt A s u v (eqU x u)
 | _,_,.nil,_=>fun u hu=>by cases hu
 | y::xs,u::us,.cons r t,f=>fun u' hu=>by
   rw [List.all_cons,Bool.and_eq_true] at f
   rcases List.mem_cons.mp hu with rfl | hu
   ·rw [Lj r f.1];exact OW r rx f.1 fx
   ·exact wP rx fx t f.2 u' hu
noncomputable def inV (x:V) (xs:List V):Bool:=xs.any fun y=>eqV y x
noncomputable def rIn (K:PySem.W.Frag) (neg:Bool):R2:=fun x y H Q=>∃ p xs,y= .ref p∧(SqL K H p xs∨SqT K H p xs)∧zc x=true∧xs.all zc=true∧Q (.bl (if neg then !inV x xs else inV x xs)) H
theorem GV:OpR X (compareOp .In) (rIn X.K false):=by
 intro pins s σ H x y v u Q I rx ry h
 obtain ⟨p,xs,rfl,hq,fx,fs,q⟩:=h
 cases ry
 rcases hq with hq | hq
 ·obtain ⟨its,r,pl,hz⟩:=I.list hq
  refine SeqAt.in_listAt (eqU x) pl.isList (fun w hw=>wP rx fx r fs w (by simpa using hw)) ⟨.bl _,H,I,rfl,?_⟩
  rw [show its.toArray.any (eqU x)=its.any (eqU x) by simp,BC r fs]
  exact q
 ·obtain ⟨its,r,pl,hz⟩:=I.tuple hq
  refine SeqAt.in_tupleAt (eqU x) pl (fun w hw=>wP rx fx r fs w (by simpa using hw)) ⟨.bl _,H,I,rfl,?_⟩
  rw [show its.toArray.any (eqU x)=its.any (eqU x) by simp,BC r fs]
  exact q
theorem zw:jH X (.type "list") (fun xs H Q=>∃ p ys,xs=[.ref p]∧(SqL X.K H p ys∨SqT X.K H p ys)∧∀ l,H l=none→Q (.ref l) (upd H l (.lst ys))):=by
 intro pins s σ H xs us Q I r h
 obtain ⟨p,ys,rfl,hq,q⟩:=h
 obtain ⟨u,rfl,rx⟩:=vK r
 cases rx
 have fin:∀ (its:List Value),Vals ys its→ys.length≤sizeLine→∀ (h':Heap) (c':Nat),(∀ b o',s.heap.get? b=some o'→h'.get? b=some o')→
   h'.get? s.heap.objs.size=some {cls:= .type "list",dict:=none,data:= .seq its.toArray c',slots:=#[]}→EP X pins σ Q (.ref s.heap.objs.size) {s with heap:=h'}:=fun its r' hz h' c' kp e=>
  ⟨.ref s.heap.objs.size,_,I.laid (t':=s.toks) kp (Nat.le_refl _) (show dB X.prog X.w _ h' _ (.lst ys) from ⟨hz,its,c',r',e⟩),rfl,q _ (I.hok.fresh (Nat.le_refl _))⟩
 rcases hq with hq | hq
 ·obtain ⟨its,r',pl,hz⟩:=I.list hq
  have hlen:=r'.length
  obtain ⟨o,ho,hc,n,hd⟩:=pl.isList
  exact call_list_seq p (.inl rfl) ho hc hd (fun h' c' kp e=>fin its r' hz h' c' kp e) (by simp only [List.size_toArray]<;>omega)
 ·obtain ⟨its,r',pl,hz⟩:=I.tuple hq
  have hlen:=r'.length
  obtain ⟨o,ho,hc,n,hd⟩:=pl
  exact call_list_seq p (.inr rfl) ho hc hd (fun h' c' kp e=>fin its r' hz h' c' kp e) (by simp only [List.size_toArray]<;>omega)
theorem xx:jH X (.type "tuple") (fun xs H Q=>∃ p ys,xs=[.ref p]∧((SqL X.K H p ys∧∀ l,H l=none→Q (.ref l) (upd H l (.tup ys)))∨(SqT X.K H p ys∧Q (.ref p) H))):=by
 intro pins s σ H xs us Q I r h
 obtain ⟨p,ys,rfl,h⟩:=h
 obtain ⟨u,rfl,rx⟩:=vK r
 cases rx
 rcases h with ⟨hq,q⟩ | ⟨hq,q⟩
 ·obtain ⟨its,r',pl,hz⟩:=I.list hq
  have hlen:=r'.length
  refine call_tuple_list pl.isList (fun h' kp=>?_) (by simp only [List.size_toArray]<;>omega)
  have I1:Inv X pins σ H {s with heap:=h'}:=I.kept (t':=s.toks) kp
  have I2:Inv X pins σ (upd H h'.objs.size (.tup ys)) {s with heap:=h'.push {cls:= .type "tuple",data:= .seq its.toArray}}:=
   I1.laid (t':=s.toks) (fun b o e=>Heap.get?_push_of_some _ e) (Nat.le_refl _) (show dB X.prog X.w _ _ _ (.tup ys) from ⟨hz,its,r',IsTup.new _ _⟩)
  exact ⟨.ref h'.objs.size,_,I2,rfl,q _ (I1.hok.fresh (Nat.le_refl _))⟩
 ·obtain ⟨its,r',pl,hz⟩:=I.tuple hq
  exact call_tuple_same pl ⟨.ref p,H,I,rfl,q⟩
noncomputable def tyV (K:PySem.W.Frag) (T:String) (x:V) (H:Hp):Prop:=match x with
 | .str _=>T="str"
 | .int _=>T="int"
 | .ref p=>(T="list"∧∃ xs,SqL K H p xs)∨(T="tuple"∧∃ o,K.lookup p=some o∧o.cls= .type "tuple"∧o.dict=none)∨
   (T="dict"∧((∃ kvs,H p=some (.dK kvs))∨∃ kvs,H p=some (.dT kvs)))∨(T="set"∧∃ S n,H p=some (.set S n))
 | _=>False
theorem Nf {pins:List (Addr×Obj)} {σ:St} {H:Hp} {s:Shared} {T:String} {x:V} {v:Value} (I:Inv X pins σ H s) (r:RelV x v) (ty:tyV X.K T x H):
  s.TypeIs v T∧∀ a,v= .ref a→∃ ob,s.heap.get? a=some ob∧ob.dict=none:=by
 cases x with
 | str z=>
   obtain ⟨t,rfl⟩:=r
   cases (show T="str" from ty)
   exact ⟨typeIs_str s z t,fun _ e=>nomatch e⟩
 | int i=>
   obtain ⟨t,rfl⟩:=r
   cases (show T="int" from ty)
   exact ⟨typeIs_int s i t,fun _ e=>nomatch e⟩
 | ref p=>
   cases r
   rcases ty with ⟨rfl,xs,hq⟩ | ⟨rfl,o,hk,hc,hd⟩ | ⟨rfl,hk⟩ | ⟨rfl,S,n,hk⟩
   ·obtain ⟨its,_,pl,_⟩:=I.list hq
    refine ⟨pl.isList.typeIs,fun a e=>?_⟩
    cases e
    obtain ⟨o,n,e,c,hd,_⟩:=pl
    exact ⟨o,e,hd⟩
   ·refine ⟨⟨o,I.kIn p o hk,hc⟩,fun a e=>?_⟩
    cases e
    exact ⟨o,I.kIn _ o hk,hd⟩
   ·have z:∃ o,s.heap.get? p=some o∧o.ExactDict:=by
     rcases hk with ⟨kvs,hk⟩ | ⟨kvs,hk⟩
     ·obtain ⟨_,_,_,_,o,_,_,e,ex,_⟩:=I.hok p _ hk
      exact ⟨o,e,ex⟩
     ·obtain ⟨_,_,_,_,o,_,_,e,ex,_⟩:=I.hok p _ hk
      exact ⟨o,e,ex⟩
    obtain ⟨o,e,ex⟩:=z
    refine ⟨⟨o,e,ex.1⟩,fun a e2=>?_⟩
    cases e2
    exact ⟨o,e,ex.2.1⟩
   ·obtain ⟨o,_,_,_,e,ex,_⟩:=I.hok p _ hk
    refine ⟨⟨o,e,ex.1⟩,fun a e2=>?_⟩
    cases e2
    exact ⟨o,e,ex.2.1⟩
 | _=>exact False.elim ty
noncomputable def tBM (K:PySem.W.Frag) (T:String) (r:V→List V→Hp→VK→Prop) (to:TE) (t:TA):TE:=fun σ H Q=>to σ H fun x H1=>tyV K T x H1∧t σ H1 fun xs H2=>r x xs H2 Q
variable {o e:Expr} {es:List Expr} {to:TE} {t:TA} {name:Str} {apos cpos:Pos} {T id:String} {r:V→List V→Hp→VK→Prop}
theorem P9 (pa:PlainAttrs T) (slot:Slot T name id) (hty:typeOf (.builtin id)=pure (.type "method_descriptor")) (hm:MtR X id r) (ho:PE X o to) (ha:PA X (e::es) t)
  (hbase:attributeBase o name X.env (eval o X.env)=eval o X.env:=by rfl)
  (hfew:((backTo cpos (starEach (e::es) X.env)).all (fun x=> !x.1)&&(backToKw cpos (keywordEach [] X.env)).all (fun x=>x.1.isSome)
   &&decide ((e::es).length + ([]:List Keyword).length + (if ([]:List Keyword).isEmpty then 0 else 1) < 30))=true:=by rfl)
  (hline:(apos.endLine == cpos.line)=true:=by rfl) (hs:starEach (e::es) X.env=(false,eval e X.env)::starEach es X.env:=by rfl) (hplain:(backTo cpos (starEach es X.env)).any (·.1)=false:=by rfl):
  PE X (.Call (.Attribute o name apos) (e::es) [] cpos) (tBM X.K T r to t):=by
 intro pins s σ H Q I h
 refine wpAny_Call_method_late hbase hfew hline rfl (thn (ho pins s σ H _ I h) fun v s1 ⟨x,H1,I1,r1,ty,q1⟩=>?_)
 obtain ⟨h1,h2⟩:=Nf I1 r1 ty
 refine ⟨T,id,pa,slot,hty,h1,h2,?_⟩
 have hA:=ha cpos pins s1 σ H1 _ I1 q1
 rw [hs] at hA ⊢
 refine Calls.callWith_builtin (by show (false||(backTo cpos (starEach es X.env)).any (·.1))=false;rw [hplain]<;>rfl) (Calls.evalArgs_plain ?_)
 exact thn hA fun us s2 ⟨vs,H2,I2,r2,q2⟩=>hm pins s2 σ H2 x vs v us Q I2 r1 r2 q2
end
noncomputable def MtM (X:Cx) (id:String) (r:V→List V→Hp→VK→Prop):Prop:=
 ∀ (pins:List (Addr×Obj)) (s:Shared) (σ:St) (H:Hp) (x:V) (xs:List V) (v:Value) (us:List Value) (Q:VK),Inv X pins σ H s→RelV x v→Vals xs us→r x xs H Q→
  wpAny (model X.prog X.w) X.A (call (.builtin id) (v::us)) (EP X pins σ Q) X.xe s
theorem Vals.one:∀ {x:V} {us:List Value},Vals [x] us→∃ u,us=[u]∧RelV x u
 | _,_,.cons r .nil=>⟨_,rfl,r⟩
theorem Vals.two:∀ {x y:V} {us:List Value},Vals [x,y] us→∃ u v,us=[u,v]∧RelV x u∧RelV y v
 | _,_,_,.cons r (.cons q .nil)=>⟨_,_,rfl,r,q⟩
theorem Vals.reverse {xs:List V} {us:List Value} (h:Vals xs us):Vals xs.reverse us.reverse:=by
 induction h with
 | nil=>exact .nil
 | cons r t ih=>rw [List.reverse_cons,List.reverse_cons];exact Vals.append ih (.cons r .nil)
section
variable {X:Cx} {pins:List (Addr×Obj)} {σ:St} {H:Hp} {s:Shared} {l b:Addr} {xs ys zs:List V}
theorem Inv.lset {its its':List Value} {n:Nat} {f:Array Value→Array Value} {t':Nat} (I:Inv X pins σ H s) (hH:H l=some (.lst xs))
  (e:s.heap.get? l=some {cls:= .type "list",data:= .seq its.toArray n}) (hf:f its.toArray=its'.toArray) (hv:Vals ys its') (hz:ys.length≤sizeLine):
  Inv X pins σ (upd H l (.lst ys)) {s with heap:=s.heap.update l (Obj.mapSeq f),toks:=t'}:=by
 have q:=PySem.IsL.update e f
 rw [hf] at q
 refine I.write (x:=l) (e:=l) (by rw [hH];exact trivial) (.inl rfl) (fun b' u hb hu=>(Heap.get?_update_other s.heap (Obj.mapSeq f) (Ne.symm hb)).trans hu) ⟨_,q⟩ ?_
 exact ⟨hz,its',_,hv,q⟩
theorem Inv.lnew {its:List Value} {t':Nat} (I:Inv X pins σ H s) (hv:Vals ys its) (hz:ys.length≤sizeLine):
  Inv X pins σ (upd H s.heap.objs.size (.lst ys)) {s with heap:=s.heap.push {cls:= .type "list",data:= .seq its.toArray},toks:=t'}:=
 I.laid (fun _ _ q=>Heap.get?_push_of_some _ q) (Nat.le_refl _) ⟨hz,its,0,hv,Heap.get?_push_size _ rfl⟩
theorem Inv.fresh (I:Inv X pins σ H s):H s.heap.objs.size=none:=I.hok.fresh (Nat.le_refl _)
theorem Inv.lstM (I:Inv X pins σ H s) (hH:H l=some (.lst xs)):xs.length≤sizeLine∧∃ (its:List Value) (n:Nat),Vals xs its∧xs.length=its.length∧s.heap.get? l=some {cls:= .type "list",data:= .seq its.toArray n}:=by
 obtain ⟨z,its,n,r,e⟩:=I.hok l _ hH
 exact ⟨z,its,n,r,r.length,e⟩
theorem JX {n:Nat} (h:n≤sizeLine):Builtin.List.listTooLong n=false:=by
 unfold Builtin.List.listTooLong
 exact decide_eq_false (by omega)
end
section
variable {X:Cx}
noncomputable def GH:V→List V→Hp→VK→Prop:=fun x vs H Q=>∃ l xs y,x= .ref l∧vs=[y]∧H l=some (.lst xs)∧xs.length < sizeLine∧Q .non (upd H l (.lst (xs++[y])))
theorem gb:MtM X "list.append" GH:=by
 intro pins s σ H x vs v us Q I rx rv h
 obtain ⟨l,xs,y,rfl,rfl,hH,hz,q⟩:=h
 cases rx
 obtain ⟨u,rfl,ru⟩:=rv.one
 obtain ⟨z,its,n,r,hl,e⟩:=I.lstM hH
 refine call_meets F.slot_list_append ⟨_,e,rfl⟩ F.entry_list_append (F.args_list_append_2 _ _) (PySem.list_append l its.toArray n u (by rw [List.size_toArray];omega)) ⟨e,?_⟩
 refine ⟨.non,_,I.lset (its':=its++[u]) hH e (by simp) (r.append (.cons ru .nil)) ?_,rfl,q⟩
 rw [List.length_append,List.length_singleton]
 omega
noncomputable def GG:V→List V→Hp→VK→Prop:=fun x vs H Q=>∃ l b xs zs,x= .ref l∧vs=[.ref b]∧H l=some (.lst xs)∧H b=some (.lst zs)∧xs.length + zs.length≤sizeLine∧Q .non (upd H l (.lst (xs++zs)))
theorem qZ:MtM X "list.extend" GG:=by
 intro pins s σ H x vs v us Q I rx rv h
 obtain ⟨l,b,xs,zs,rfl,rfl,hH,hB,hz,q⟩:=h
 cases rx
 obtain ⟨u,rfl,ru⟩:=rv.one
 cases ru
 obtain ⟨z,its,n,r,hl,e⟩:=I.lstM hH
 obtain ⟨z2,its2,n2,r2,hl2,e2⟩:=I.lstM hB
 have hsz:its.toArray.size + its2.toArray.size≤sizeLine:=by rw [List.size_toArray,List.size_toArray];omega
 have hlong:¬ (!its.toArray.isEmpty&&Builtin.List.listTooLong (its.toArray.size + its2.toArray.size))=true:=by
  rw [JX hsz,Bool.and_false]
  exact Bool.false_ne_true
 refine call_meets F.slot_list_extend ⟨_,e,rfl⟩ F.entry_list_extend (F.args_list_extend_2 _ _)
  (AutoSeq1.list_extend_list_list_0 l its.toArray n b its2.toArray n2 hlong (by rw [List.size_toArray];omega) (by omega)) ⟨e,e2,?_⟩
 refine ⟨.non,_,I.lset (its':=its++its2) hH e (by simp) (r.append r2) ?_,rfl,q⟩
 rw [List.length_append]
 omega
noncomputable def rCat:R2:=fun x y H Q=>∃ l b xs zs,x= .ref l∧y= .ref b∧H l=some (.lst xs)∧H b=some (.lst zs)∧xs.length + zs.length≤sizeLine∧∀ p,H p=none→Q (.ref p) (upd H p (.lst (xs++zs)))
theorem i8:OpR X (binaryOp .Add) rCat:=by
 intro pins s σ H x y v u Q I rx ry h
 obtain ⟨l,b,xs,zs,rfl,rfl,hH,hB,hz,q⟩:=h
 cases rx
 cases ry
 obtain ⟨z,its,n,r,hl,e⟩:=I.lstM hH
 obtain ⟨z2,its2,n2,r2,hl2,e2⟩:=I.lstM hB
 refine PySem.P.add_list e e2 ?_ (by rw [List.size_toArray,List.size_toArray];omega)
 have ea:its.toArray++its2.toArray=(its++its2).toArray:=by simp
 rw [ea]
 exact ⟨.ref _,_,I.lnew (t':=s.toks) (r.append r2) (by rw [List.length_append];omega),rfl,q _ I.fresh⟩
end
end L2
namespace Att
open PySem PySem.W PySem.Calls PyProof.Rows
theorem rL {P:Params} {h:Heap}:∀ (ns:List Int) (vs:List Value),WellAll P h vs (ns.map WData.int)→IntsAre vs ns:=by
 intro ns
 induction ns with
 | nil=>
   intro vs w
   rw [List.map_nil] at w
   cases w
   exact .nil
 | cons n ns ih=>
   intro vs w
   rw [List.map_cons] at w
   cases w with
   | cons a b=>
     cases a
     exact .cons _ _ (ih _ b)
theorem Gp {l:OpenLaw} {n:Nat} (hn:l.most=some n) {P:Params} {h:Heap} {args:List WData} {vals:List Value}
  (hpre:l.row.toRowW.claim.pre args=true) (hwl:WellAll P h vals args):
  ∃ a vs ns,vals=[Value.ref a]∧args=[WData.list (ns.map WData.int)]∧h.get? a=some {cls:= .type "list",data:= .seq vs.toArray}∧IntsAre vs ns∧ns.length≤n:=by
 have hsh:WShape.hasAll [] args [.list .int]=true:=(pre_splitW hpre).1
 have hc:l.pre.holds [] {args:=args}=true:=(pre_splitW hpre).2
 obtain ⟨d,r,rfl,h1,h2⟩:=hasAllW_cons hsh
 obtain rfl:=hasAllW_nil h2
 obtain ⟨xs,rfl,h3⟩:=hasW_list h1
 obtain ⟨ns,rfl⟩:=items_int h3
 have hlen:ns.length≤n:=by
  unfold OpenLaw.pre at hc
  have h4:(WTm.not (.lt (.lit (.int (n:Int))) (.len (.arg 0)))).holds [] {args:=[.list (ns.map .int)]}=true:=by
   have h4:=(holds_andW hc).1
   rw [hn] at h4
   exact h4
  have h5:=condW_of h4 (w_not (w_lt w_lit (w_len_list (w_arg rfl))))
  rw [List.length_map] at h5
  refine Nat.le_of_not_lt fun q=>?_
  have q':(n:Int) < ((ns.length:Nat):Int):=by omega
  first
   | (rw [decide_eq_true q'] at h5;exact absurd h5 (by decide))
   | (simp at h5;omega)
 cases hwl with
 | cons w1 w2=>
   cases w2
   cases w1 with
   | list ho hall=>exact ⟨_,_,ns,rfl,rfl,ho,rL ns _ hall,hlen⟩
theorem GQ (l:OpenLaw) (args:List WData):l.row.toRowW.claim.post args (.bool true) args=true:=
 postW_of (r:=l.row.toRowW) (X:=(true == true))
  (show WShape.has [] (.bool true) .bool=true by first | rfl | decide | simp [WShape.has,WShape.arms,WShape.armsAll])
  (show (WTm.eq .res (.lit (.bool true))).value [] {args:=args,res:=some (.bool true),after:=args}=some (.bool (true == true)) from w_eq_bool (w_res rfl) w_lit) rfl
theorem attach_call {l:OpenLaw} {n:Nat} {q:Program} {loose:List Str} {XP:(Str→Option Value)→Heap→Prop} {YP:World→Heap→Prop} {d:DefRec}
  (hn:l.most=some n) (hdf:d.params.defaults=[])
  (call:∀ (w:World) (s₀ s₁:Shared) (mg mb:Str→Option Value) (fa:Addr) (o:Obj) (pm cd doc:Value) (a:Addr) (vs:List Value) (ns:List Int),
   Ground q loose [] XP w s₀ mg mb s₁.heap→YP w s₁.heap→
   s₁.heap.get? fa=some o→o.data= .func (docDef d.name d.params d.body d.scope pm cd doc)→s₁.heap.CodeRec cd d.name→mg d.name=some (.ref fa)→
   s₁.heap.get? a=some {cls:= .type "list",data:= .seq vs.toArray}→IntsAre vs ns→ns.length≤n→s₁.gens=#[]→
   codeAny (model l.prog w) callerA (.call (.ref fa) ⟨[.ref a],[]⟩) (fun r s'=>r= .ok (.ret (.bool true))∧OldK s₁.heap s'.heap∧s'.os=s₁.os∧AllBare s'.gens) s₁):
  WalkO q loose XP YP l.row.toRowW d [] (fun f vs=>PySem.call f vs):=by
 intro w s₀ s₁ mg mb G Y fa o pm cd doc dV kV ho hd hcd hD hmg hg args vals as hpre hlay hrd hwl hlo
 obtain rfl:dV= .none:=Dflts.none hD hdf
 obtain rfl:kV= .none:=Dflts.noKw hD
 obtain ⟨a,vs,ns,rfl,rfl,hobj,hints,hlen⟩:=Gp hn hpre hwl
 refine enter_call (codeAny_mono (call w s₀ s₁ mg mb fa o pm cd doc a vs ns G Y ho (fd_plain hd) hcd hmg hobj hints hlen hg) fun r s' hq=>?_)
 obtain ⟨rfl,h2,h3,h4⟩:=hq
 exact ⟨.inl ⟨.bool true,.bool true,[],rfl,fun _=>rfl,.bool true,GQ l _,fun _=>⟨List.Pairwise.nil,fun _ hm=>(nomatch hm)⟩⟩,h2,h3,h4⟩
end Att
namespace L2
open PySem PySem.Spec PyProof.Rows
theorem x2:∀ {vs:List Value} {ns:List Int},IntsAre vs ns→Vals (ns.map V.int) vs
 | _,_,.nil=> .nil
 | _,_,.cons n t h=> .cons ⟨t,rfl⟩ (x2 h)
noncomputable def Only (H:Hp):Prop:=∀ b,H b=none∨∃ o xs,H b=some (.frz o (.lst xs))
theorem Kh {P:Program} {w:World} {K:PySem.W.Frag} {mg mb:Str→Option Value} {CX:CXT} {k:Nat} {fa a:Addr} {fd:FuncData} {x:Str} {sp:Sp} {s₁:Shared} {vs:List Value} {ns:List Int}
  (KX:K.In s₁.heap) (hns:s₁.heap.Ns mainGlobals mg) (hb:s₁.heap.Ns builtinsNs mb) (hbb:∀ x:Str,x≠"__name__"→mb x=bootBuiltins x) (hlim:s₁.heap.NoLimit) (hg:s₁.gens=#[])
  (ha:s₁.heap.get? a=some {cls:= .type "list",data:= .seq vs.toArray}) (hi:IntsAre vs ns) (hl:ns.length≤sizeLine) (hr:Room k callerA)
  (F:∀ base:Heap,K.In base→base.Ns mainGlobals mg→FnOk P w K mg base CX k fa fd [x] sp) (hbind:∀ (s:Shared) (u:Value),BindsTo s fd ⟨[u],[]⟩ [(x,u)])
  (hsp:∀ H:Hp,Only H→SqL K H a (ns.map V.int)→sp [.ref a] H (fun v _=>v= .bl true) fun _ _ _=>False)
  (hCX:∀ H e s',CX [] H s₁ (fun _ _ _=>False) e s'→False):
  codeAny (model P w) callerA (.call (.ref fa) ⟨[.ref a],[]⟩) (fun r s'=>r= .ok (.ret (.bool true))∧OldK s₁.heap s'.heap∧s'.os=s₁.os∧AllBare s'.gens) s₁:=by
 have rv:=x2 hi
 have lenV:=hi.length
 have core:∀ H:Hp,Only H→SqL K H a (ns.map V.int)→HOk P w H s₁.heap→(∀ b,H b≠none→b=a)→(H a≠none→K.lookup a=none)→
   codeAny (model P w) callerA (.call (.ref fa) ⟨[.ref a],[]⟩) (fun r s'=>r= .ok (.ret (.bool true))∧OldK s₁.heap s'.heap∧s'.os=s₁.os∧AllBare s'.gens) s₁:=by
  intro H hO hS hok hA hK
  have base_of:∀ {b:Addr} {o:Obj},s₁.heap.get? b=some o→H b=none→(hidT s₁.heap H).get? b=some o:=fun e n=>Km e n
  have noA:∀ {b:Addr} {o:Obj} {es:Array DictEntry} {ep:Nat},s₁.heap.get? b=some o→o.data= .dict es ep→H b=none:=fun {b o es ep} e d=>by
   cases q:H b with
   | none=>rfl
   | some u=>
     have e':b=a:=hA b (by rw [q];simp)
     subst e'
     rw [ha] at e;cases e
     have d':Data.seq vs.toArray _=Data.dict es ep:=d
     cases d'
  have nsK:∀ {b:Addr} {m:Str→Option Value},s₁.heap.Ns b m→(hidT s₁.heap H).Ns b m:=fun {b m} ⟨o,es,ep,e,d,r⟩=>⟨o,es,ep,base_of e (noA e d),d,r⟩
  have hKb:K.In (hidT s₁.heap H):=fun b o e=>base_of (KX b o e) (by
   cases q:H b with
   | none=>rfl
   | some u=>
     have e':b=a:=hA b (by rw [q];simp)
     subst e'
     rw [hK (by rw [q];simp)] at e;cases e)
  have hM:Mod K mg (hidT s₁.heap H):=⟨hKb,nsK hns,⟨mb,nsK hb,hbb⟩,let ⟨mc,h1,h2⟩:=hlim;⟨mc,nsK h1,h2⟩⟩
  have e0:Env0 P w K mg (hidT s₁.heap H) callerA [] s₁ H:=⟨rfl,hM,fun b o e=>Mo e,Nat.le_of_eq (HA _ _),trivial,fun b hb=>absurd (show b∈([]:List Addr) from hb) (by simp),hok,.of_eq hg⟩
  refine codeAny_mono ((F _ hKb (nsK hns)).run callerA [] s₁ H ⟨[.ref a],[]⟩ [.ref a] [.ref a] _ _ hr e0 (hbind s₁ (.ref a)) (.cons rfl .nil) (hsp H hO hS)) fun r s' h=>?_
  cases r with
  | error e=>exact (hCX H e s' h).elim
  | ok fl=>
    cases fl with
    | next=>exact False.elim h
    | brk=>exact False.elim h
    | cont=>exact False.elim h
    | ret u=>
      obtain ⟨v,H',os,bare,un,hok',r',q⟩:=h
      have q':v= .bl true:=q
      subst q'
      obtain rfl:u=Value.bool true:=r'
      refine ⟨rfl,OldK.of_keep fun b o e=>?_,os,bare⟩
      cases q:H b with
      | none=>exact un.keep b o e q (by intro z;exact absurd (show b∈([]:List Addr) from z) (by simp)) (by simp)
      | some u=>
        rcases hO b with z | ⟨ob,xs,z⟩
        ·rw [q] at z;cases z
        ·have z2:=un.frzs b ob _ z
         obtain ⟨e1,_⟩:=hok b _ z
         obtain ⟨e2,_⟩:=hok' b _ z2
         rw [e] at e1;cases e1
         exact e2
 cases hk:K.lookup a with
 | some o=>
   have e:=KX a o hk
   rw [ha] at e
   cases e
   refine core (fun _=>none) (fun _=> .inl rfl) (.inr ⟨_,vs.toArray,_,hk,rfl,rfl,rfl,by rw [List.size_toArray,lenV];exact hl,by simpa using rv⟩) (fun b u z=>by have z':(none:Option HO)=some u:=z;cases z') (fun b z=>absurd rfl z) fun z=>absurd rfl z
 | none=>
   refine core (fun b=>if b=a then some (.frz {cls:= .type "list",data:= .seq vs.toArray} (.lst (ns.map V.int))) else none) (fun b=>?_) (.inl (.inr ⟨{cls:= .type "list",data:= .seq vs.toArray},if_pos rfl⟩)) (fun b u z=>?_) (fun b z=>?_) fun _=>hk
   ·by_cases hb:b=a
    ·exact .inr ⟨_,_,if_pos hb⟩
    ·exact .inl (if_neg hb)
   ·by_cases hb:b=a
    ·have z':=(if_pos hb).symm.trans z
     cases z'
     subst hb
     exact ⟨ha,by rw [List.length_map];exact hl,vs,_,rv,ha⟩
    ·have z':=(if_neg hb).symm.trans z
     cases z'
   ·by_cases hb:b=a
    ·exact hb
    ·exact absurd (if_neg hb) z
theorem walk_of {l:PySem.W.OpenLaw} {n k:Nat} {q:Program} {loose:List Str} {XP:(Str→Option Value)→Heap→Prop} {YP:World→Heap→Prop} {d:DefRec} {K:Params→PySem.W.Frag} {CX:World→CXT} {sp:World→Sp} {x:Str}
  (hn:l.most=some n) (hn2:n≤sizeLine) (hdf:d.params.defaults=[]) (hr:Room k callerA)
  (hY:∀ (w:World) (h:Heap),YP w h→(K w.params).In h)
  (F:∀ (w:World) (mg:Str→Option Value) (fa:Addr) (h:Heap),(K w.params).In h→h.Ns mainGlobals mg→mg d.name=some (.ref fa)→
   ∃ fd:FuncData,(∀ (s:Shared) (u:Value),BindsTo s fd ⟨[u],[]⟩ [(x,u)])∧
     ∀ base:Heap,(K w.params).In base→base.Ns mainGlobals mg→FnOk l.prog w (K w.params) mg base (CX w) k fa fd [x] (sp w))
  (hsp:∀ (w:World) (H:Hp) (a:Addr) (ns:List Int),ns.length≤n→Only H→SqL (K w.params) H a (ns.map V.int)→sp w [.ref a] H (fun v _=>v= .bl true) fun _ _ _=>False)
  (hCX:∀ (w:World) (H:Hp) (s:Shared) (e:Value) (s':Shared),CX w [] H s (fun _ _ _=>False) e s'→False):
  PySem.W.WalkO q loose XP YP l.row.toRowW d [] (fun f vs=>PySem.call f vs):=by
 refine Att.attach_call hn hdf fun w s₀ s₁ mg mb fa o pm cd doc a vs ns G Y ho hd hcd hmg hobj hints hlen hg=>?_
 have KX:=hY w _ Y
 obtain ⟨fd,hb,hF⟩:=F w mg fa _ KX G.T.g hmg
 exact Kh KX G.T.g G.T.b G.T.builtins G.T.nolimit hg hobj hints (Nat.le_trans hlen hn2) hr hF hb (fun H hO hS=>hsp w H a ns hlen hO hS) fun H e s'=>hCX w H s₁ e s'
noncomputable def dz (s:Stmt) (j:Nat):Stmt:=match s with
 | .ClassDef _ _ _ body _ _ _ _ _ _ _=>body.getD j (.Pass ⟨0,0,0,0⟩)
 | _=> .Pass ⟨0,0,0,0⟩
noncomputable def aH (s:Stmt):Arguments:=match s with
 | .FunctionDef _ a _ _ _ _ _ _ _ _=>a
 | _=>{posonlyargs:=[],args:=[],vararg:=none,kwonlyargs:=[],kw_defaults:=[],kwarg:=none,defaults:=[]}
noncomputable def aE (s:Stmt):List Stmt:=match s with
 | .FunctionDef _ _ b _ _ _ _ _ _ _=>b
 | _=>[]
noncomputable def ae (s:Stmt):Scope:=match s with
 | .FunctionDef _ _ _ _ _ _ sc _ _ _=>sc
 | _=>{kind:= .function,names:=[],isGenerator:=false,isCoroutine:=false}
noncomputable abbrev CX0:CXT:=fun _ _ _ _ _ _=>False
noncomputable abbrev E0:XK:=fun _ _ _=>False
theorem aQ {X:Cx}:oA CX0 X E0:=fun _ _ _ _ _ _ _ h=>h.elim
structure Fun (K:PySem.W.Frag) (x qual:Str) (st:Stmt) (f:Addr) (fd:FuncData):Prop where
 ex:∃ (oc:Value) (od:Option Addr) (kV doc pm:Value) (an:Option Addr) (cdv ct:Value) (osl:Array (Option Value)),
  fd=PySem.W.fnOf x qual (aH st) (aE st) (ae st) .none kV doc pm an cdv ct∧K.lookup f=some ⟨oc,od,.func fd,osl⟩∧PySem.W.codeIn K cdv qual=true
 kp:PySem.W.keepIn K (.ref f)=true
section
variable {P:Program} {w:World} {K:PySem.W.Frag} {mg:Str→Option Value} {base:Heap}
theorem Fun.ok {x qual:Str} {st:Stmt} {f:Addr} {fd:FuncData} {N ps:List Str} {k:Nat} {sp:Sp} (F:Fun K x qual st f fd) (S:aI N ps (ae st)) (len:∀ vs H Q E,sp vs H Q E→vs.length=ps.length)
  (hbody:∀ (cdv:Value) (A:Around) (outer:List Env) (s:Shared) (H:Hp) (vs:List V) (Q:VK) (E:XK),Room k (A.deeper (envOfC qual (ae st) s.heap.objs.size f cdv))→sp vs H Q E→
   ∃ t,PSs (cxOf CX0 P w K mg base N qual (ae st) f cdv A outer s H E).nox (aE st) t∧t {nx:=fun _ H'=>Q .non H',rt:=Q} (start N vs) H):FnOk P w K mg base CX0 (k + 1) f fd ps sp:=by
 obtain ⟨oc,od,kV,doc,pm,an,cdv,ct,osl,rfl,lk,hcd⟩:=F.ex
 refine OV lk hcd S len fun A outer s H vs Q E hr hsp=>?_
 obtain ⟨t,h,q⟩:=hbody cdv A outer s H vs Q E hr hsp
 exact ⟨t,h.nox,q⟩
theorem Fun.binds {x qual:Str} {st:Stmt} {f:Addr} {fd:FuncData} {ps:List Str} (F:Fun K x qual st f fd)
  (h:∀ (kV doc pm:Value) (an:Option Addr) (cdv ct:Value) (us:List Value),us.length=ps.length→bindArgs (PySem.W.fnOf x qual (aH st) (aE st) (ae st) .none kV doc pm an cdv ct) ⟨us,[]⟩=pure (ps.zip us)):bM K fd ps []:=by
 obtain ⟨oc,od,kV,doc,pm,an,cdv,ct,osl,rfl,lk,hcd⟩:=F.ex
 exact .all (h kV doc pm an cdv ct)
theorem bD {x qual:Str} {st:Stmt} {f:Addr} {oc:Value} {od an:Option Addr} {osl:Array (Option Value)} {kV doc pm cdv ct:Value} (l:K.lookup f=some ⟨oc,od,.func (PySem.W.fnOf x qual (aH st) (aE st) (ae st) .none kV doc pm an cdv ct),osl⟩)
  (c:PySem.W.codeIn K cdv qual=true) (k:PySem.W.keepIn K (.ref f)=true):Fun K x qual st f (PySem.W.fnOf x qual (aH st) (aE st) (ae st) .none kV doc pm an cdv ct):=⟨⟨oc,od,kV,doc,pm,an,cdv,ct,osl,rfl,l,c⟩,k⟩
end
theorem Hz {A:Around} {k:Nat} (hr:Room k A):A.units + 1 < cLine:=Nat.lt_of_le_of_lt (Nat.add_le_add_left (by decide:1≤64) _) hr.units
theorem bg {n:Nat} (h:n≤1000):n < sizeLine:=Nat.lt_of_le_of_lt h (by decide)
section
variable {X:Cx}
theorem pv (i:Nat) {x:Str} {pos:Pos} (hN:X.N[i]? =some x:=by rfl) (hv:Vis X.env.scope x:=by first | exact Or.inl rfl | exact Or.inr (Or.inl rfl) | exact Or.inr (Or.inr rfl)) (hd:(x == ("__debug__":Str))=false:=by decide)
  (hcd:(x == ("__classdict__":Str))=false:=by decide):PE X (.Name x pos) (tVar i):=On hN hv hd hcd
end
theorem ite2 {c A B:Prop} [Decidable c] (h1:c→A) (h2:¬ c→B):if c then A else B:=by
 by_cases h:c
 ·rw [if_pos h]
  exact h1 h
 ·rw [if_neg h]
  exact h2 h
noncomputable def Same (H H':Hp):Prop:=∀ b o,H b=some o→H' b=some o
theorem Same.refl (H:Hp):Same H H:=fun _ _ h=>h
theorem Same.trans {H H1 H2:Hp} (a:Same H H1) (b:Same H1 H2):Same H H2:=fun c o h=>b c o (a c o h)
theorem Same.free {H H':Hp} (e:Same H H') {l:Addr} (h:H' l=Option.none):H l=Option.none:=by
 cases q:H l with
 | none=>rfl
 | some o=>
   rw [e l o q] at h
   cases h
theorem Same.seq {K:PySem.W.Frag} {H H':Hp} {a:Addr} {xs:List V} (e:Same H H') (h:SqL K H a xs):SqL K H' a xs:=by
 rcases h with (h | ⟨o,h⟩) | h
 ·exact .inl (.inl (e _ _ h))
 ·exact .inl (.inr ⟨o,e _ _ h⟩)
 ·exact .inr h
section
variable {κ:Type} [DecidableEq κ]
noncomputable def valV (kvs:List (κ×V)) (k:κ):Option V:=(kvs.find? fun kv=>decide (kv.1=k)).map (·.2)
noncomputable def putK (kvs:List (κ×V)) (k:κ) (v:V):List (κ×V):=
 if (kvs.any fun kv=>decide (kv.1=k))=true then kvs.map (fun kv=>if kv.1=k then (kv.1,v) else kv) else kvs++[(k,v)]
theorem pM {p:κ×V} {r:List (κ×V)} {k:κ} (e:p.1=k):valV (p::r) k=some p.2:=by simp [valV,List.find?_cons,e]
theorem pN {p:κ×V} {r:List (κ×V)} {k:κ} (e:¬ p.1=k):valV (p::r) k=valV r k:=by simp [valV,List.find?_cons,e]
theorem lD (k:κ):∀ kvs:List (κ×V),(kvs.any fun kv=>decide (kv.1=k))=(valV kvs k).isSome
 | []=>rfl
 | p::r=>by
   rw [List.any_cons]
   by_cases e:p.1=k
   ·simp only [pM e,decide_eq_true e,Bool.true_or,Option.isSome_some]
   ·rw [pN e,decide_eq_false e,Bool.false_or];exact lD k r
theorem rm (kvs:List (κ×V)) (k:κ) (v:V):(putK kvs k v).length≤kvs.length + 1:=by
 unfold putK
 split
 ·rw [List.length_map];omega
 ·rw [List.length_append,List.length_cons,List.length_nil];omega
theorem RelO.isSome_eq {o:Option V} {u:Option Value} (r:RelO o u):o.isSome=u.isSome:=by
 cases o with
 | none=>cases u with
   | none=>rfl
   | some _=>exact (show False from r).elim
 | some _=>cases u with
   | none=>exact (show False from r).elim
   | some _=>rfl
theorem KV.val {kvs:List (κ×V)} {vs:List (κ×Value)} (r:KV kvs vs) (k:κ):RelO (valV kvs k) (valueAt vs k):=by
 unfold KV at r
 induction r with
 | nil=>exact True.intro
 | @cons p q ps qs h t ih=>
   obtain ⟨h1,h2⟩:=h
   by_cases e:p.1=k
   ·have e':q.1=k:=h1.symm.trans e
    have b:valueAt (q::qs) k=some q.2:=by simp [valueAt,List.find?_cons,e']
    rw [pM e,b];exact h2
   ·have e':¬ q.1=k:=fun z=>e (h1.trans z)
    have b:valueAt (q::qs) k=valueAt qs k:=by simp [valueAt,List.find?_cons,e']
    rw [pN e,b];exact ih
theorem KV.any {kvs:List (κ×V)} {vs:List (κ×Value)} (r:KV kvs vs) (k:κ):(kvs.any fun kv=>decide (kv.1=k))=vs.any fun kv=>decide (kv.1=k):=by
 unfold KV at r
 induction r with
 | nil=>rfl
 | cons h t ih=>rw [List.any_cons,List.any_cons,ih,h.1]
theorem KV.repl {kvs:List (κ×V)} {vs:List (κ×Value)} (r:KV kvs vs) (k:κ) {y:V} {u:Value} (ry:RelV y u):
  KV (kvs.map fun kv=>if kv.1=k then (kv.1,y) else kv) (vs.map fun kv=>if kv.1=k then (kv.1,u) else kv):=by
 unfold KV at r ⊢
 induction r with
 | nil=>exact .nil
 | @cons p q ps qs h t ih=>
   rw [List.map_cons,List.map_cons]
   refine .cons ?_ ih
   obtain ⟨h1,h2⟩:=h
   by_cases e:p.1=k
   ·rw [if_pos e,if_pos (h1.symm.trans e)];exact ⟨h1,ry⟩
   ·rw [if_neg e,if_neg (fun z=>e (h1.trans z))];exact ⟨h1,h2⟩
theorem KV.put {kvs:List (κ×V)} {vs:List (κ×Value)} (r:KV kvs vs) (k:κ) {y:V} {u:Value} (ry:RelV y u):KV (putK kvs k y) (stored vs k u):=by
 unfold putK stored
 rw [r.any k]
 by_cases e:(vs.any fun kv=>decide (kv.1=k))=true
 ·rw [if_pos e,if_pos e];exact r.repl k ry
 ·rw [if_neg e,if_neg e];exact Paired.snoc r ⟨rfl,ry⟩
theorem KV.keys {kvs:List (κ×V)} {vs:List (κ×Value)} (r:KV kvs vs):kvs.map (·.1)=vs.map (·.1):=by
 unfold KV at r
 induction r with
 | nil=>rfl
 | cons h t ih=>rw [List.map_cons,List.map_cons,ih,h.1]
theorem KV.length {kvs:List (κ×V)} {vs:List (κ×Value)} (r:KV kvs vs):kvs.length=vs.length:=Paired.length r
end
theorem ED {P:Program} {w:World} {k:Key} {u:Value} (r:RelV (kV k) u):(cO P w).is k u=true:=by
 cases k with
 | inl i=>obtain ⟨t,e⟩:=(show ∃ t,u=Value.int i t from r);subst e;exact AN P w i t
 | inr x=>obtain ⟨t,e⟩:=(show ∃ t,u=Value.str x t from r);subst e;exact AM P w x t
theorem yY {P:Program} {w:World}:∀ {ks:List Key} {us:List Value},Vals (ks.map kV) us→ItemsAre (cO P w) ks us
 | [],_,r=>by rw [List.map_nil] at r;cases r;exact .nil
 | k::ks,_,r=>by
   rw [List.map_cons] at r
   cases r with
   | cons h t=>exact .cons (ED h) (yY t)
noncomputable abbrev KT (H:Hp):List (List Key×V)→List (List Key×Addr×Value)→Prop:=Paired fun p q=>p.1=q.1∧H q.2.1=some (.tup (p.1.map kV))∧RelV p.2 q.2.2
theorem KT.val {H:Hp} {kvs:List (List Key×V)} {xs:List (List Key×Addr×Value)} (r:KT H kvs xs) (k:List Key):RelO (valV kvs k) ((atKey xs k).map (·.2)):=by
 induction r with
 | nil=>exact True.intro
 | @cons p q ps qs h t ih=>
   obtain ⟨h1,_,h2⟩:=h
   by_cases e:p.1=k
   ·have e':q.1=k:=h1.symm.trans e
    have b:atKey (q::qs) k=some q.2:=by simp [atKey,List.find?_cons,e']
    rw [pM e,b];exact h2
   ·have e':¬ q.1=k:=fun z=>e (h1.trans z)
    have b:atKey (q::qs) k=atKey qs k:=by simp [atKey,List.find?_cons,e']
    rw [pN e,b];exact ih
theorem KT.repl {H:Hp} {kvs:List (List Key×V)} {xs:List (List Key×Addr×Value)} (r:KT H kvs xs) (k:List Key) {y:V} {u:Value} (ry:RelV y u):
  KT H (kvs.map fun kv=>if kv.1=k then (kv.1,y) else kv) (xs.map (putAt k u)):=by
 induction r with
 | nil=>exact .nil
 | @cons p q ps qs h t ih=>
   rw [List.map_cons,List.map_cons]
   refine .cons ?_ ih
   obtain ⟨h1,h2,h3⟩:=h
   unfold putAt
   by_cases e:p.1=k
   ·rw [if_pos e,if_pos (h1.symm.trans e)];exact ⟨h1,h2,ry⟩
   ·rw [if_neg e,if_neg (fun z=>e (h1.trans z))];exact ⟨h1,h2,h3⟩
theorem KT.put {H:Hp} {kvs:List (List Key×V)} {xs:List (List Key×Addr×Value)} (r:KT H kvs xs) (k:List Key) {b:Addr} {y:V} {u:Value} (hb:H b=some (.tup (k.map kV))) (ry:RelV y u):
  KT H (putK kvs k y) (storedH xs k b u):=by
 have e:(kvs.any fun kv=>decide (kv.1=k))=(atKey xs k).isSome:=by
  rw [lD,(r.val k).isSome_eq,Option.isSome_map]
 unfold putK storedH
 rw [e]
 by_cases q:(atKey xs k).isSome=true
 ·rw [if_pos q,if_pos q];exact r.repl k ry
 ·rw [if_neg q,if_neg q];exact Paired.snoc r ⟨rfl,hb,ry⟩
theorem KT.keeps {H H':Hp} {kvs:List (List Key×V)} {xs:List (List Key×Addr×Value)} (r:KT H kvs xs) (ht:∀ b ys,H b=some (.tup ys)→H' b=some (.tup ys)):KT H' kvs xs:=
 Paired.mapP r fun _ _ z=>⟨z.1,ht _ _ z.2.1,z.2.2⟩
section
variable {P:Program} {w:World} {H:Hp} {h:Heap} {a:Addr}
theorem Oa {u:HO} (ok:HOk P w H h) (e:Rd H a u):dB P w H h a u:=e.ok ok
theorem HW {kvs:List (Key×V)} (ok:HOk P w H h) (e:Rd H a (.dK kvs)):kvs.length≤sizeLine∧(a == sysModules)=false∧∃ vs,KV kvs vs∧h.DictOf (cO P w) a vs:=
 show dB P w H h a (.dK kvs) from Oa ok e
theorem O1 {kvs:List (Key×V)} (ok:HOk P w H h) (e:H a=some (.dK kvs)):kvs.length≤sizeLine∧(a == sysModules)=false∧∃ vs,KV kvs vs∧h.DictOf (cO P w) a vs:=HW ok (.inl e)
theorem yU {ks:List Key} (ok:HOk P w H h) (e:H a=some (.tup (ks.map kV))):(tupleKind (cO P w)).is h ks a:=by
 obtain ⟨_,its,r,o,h1,h2,n,h3⟩:=(show dB P w H h a (.tup (ks.map kV)) from ok a _ e)
 exact ⟨o,its.toArray,n,h1,h2,h3,by simpa using yY r⟩
theorem HV {kvs:List (List Key×V)} (ok:HOk P w H h) (e:Rd H a (.dT kvs)):kvs.length≤sizeLine∧(a == sysModules)=false∧
  ∃ xs,KT H kvs xs∧h.DictOfH (tupleKind (cO P w)) a xs:=by
 obtain ⟨z,y,xs,r,o,es,ep,h1,h2,h3,h4,h5⟩:=(show dB P w H h a (.dT kvs) from Oa ok e)
 refine ⟨z,y,xs,r,o,es,ep,h1,h2,h3,h4,fun x hx=>?_,h5⟩
 have all:∀ {l:List (List Key×V)} {m:List (List Key×Addr×Value)},KT H l m→∀ x∈m,(tupleKind (cO P w)).is h x.1 x.2.1:=by
  intro l m q
  induction q with
  | nil=>intro x hx;exact nomatch hx
  | @cons p q ps qs hq t ih=>
    intro x hx
    rcases List.mem_cons.mp hx with e | hx
    ·subst e
     exact yU ok (by rw [← hq.1];exact hq.2.1)
    ·exact ih x hx
 exact all r x hx
theorem Qj {kvs:List (List Key×V)} (ok:HOk P w H h) (e:H a=some (.dT kvs)):kvs.length≤sizeLine∧(a == sysModules)=false∧
  ∃ xs,KT H kvs xs∧h.DictOfH (tupleKind (cO P w)) a xs:=HV ok (.inl e)
end
noncomputable def DGet (H:Hp) (a:Addr) (y:V) (r:Option V):Prop:=
 (∃ kvs k,Rd H a (.dK kvs)∧y=kV k∧r=valV kvs k)∨∃ kvs k b,Rd H a (.dT kvs)∧y= .ref b∧H b=some (.tup (k.map kV))∧r=valV kvs k
noncomputable def DPut (H:Hp) (a:Addr) (y v:V) (H':Hp):Prop:=
 (∃ kvs k,H a=some (.dK kvs)∧y=kV k∧kvs.length < sizeLine∧H'=upd H a (.dK (putK kvs k v)))∨
 ∃ kvs k b,H a=some (.dT kvs)∧y= .ref b∧H b=some (.tup (k.map kV))∧kvs.length < sizeLine∧H'=upd H a (.dT (putK kvs k v))
theorem DGet.k {H:Hp} {a:Addr} {kvs:List (Key×V)} {k:Key} (e:H a=some (.dK kvs)):DGet H a (kV k) (valV kvs k):= .inl ⟨kvs,k,.inl e,rfl,rfl⟩
theorem DPut.k {H:Hp} {a:Addr} {kvs:List (Key×V)} {k:Key} {v:V} (e:H a=some (.dK kvs)) (hl:kvs.length < sizeLine):DPut H a (kV k) v (upd H a (.dK (putK kvs k v))):= .inl ⟨kvs,k,e,rfl,hl,rfl⟩
section
variable {X:Cx} {pins:List (Addr×Obj)} {σ:St} {H:Hp} {s:Shared} {a:Addr} {y v:V} {u r:Value} {o:Option V} {A:Around} {E:Value→Shared→Prop}
theorem Inv.big (I:Inv X pins σ H s):sysModules < s.heap.objs.size:=by
 have h:mainGlobals < s.heap.objs.size:=(I.mod.glob.keeps I.bk).lt
 exact Nat.lt_trans (by decide) h
theorem Ig {Q:Value→Shared→Prop} (hu:A.units + 1 < cLine) (I:Inv X pins σ H s) (g:DGet H a y (some v)) (ry:RelV y u) (h:∀ w' s',Inv X pins σ H s'→RelV v w'→Q w' s'):
  wpAny (model X.prog X.w) A (getItem (.ref a) u) Q E s:=by
 rcases g with ⟨kvs,k,e,ey,l⟩ | ⟨kvs,k,b,e,ey,eb,l⟩
 ·subst ey
  obtain ⟨z,hd,vs,rel,dd⟩:=HW I.hok e
  obtain ⟨w',hw,rw'⟩:=RelO.some_of (v:=v) (o:=valueAt vs k) (by rw [l];exact rel.val k)
  exact wpAny_getItem_of (ED ry) dd.mapOf hw (h w' _ (I.tok _) rw')
 ·subst ey
  cases (show u=Value.ref b from ry)
  obtain ⟨z,hd,xs,rel,dd⟩:=HV I.hok e
  obtain ⟨w',hw,rw'⟩:=RelO.some_of (v:=v) (o:=(atKey xs k).map (·.2)) (by rw [l];exact rel.val k)
  obtain ⟨p,hp,hp2⟩:=Option.map_eq_some_iff.mp hw
  refine wpAny_getItem_heap (tupleKind_room_in1 hu) (yU I.hok eb) dd hp ?_
  rw [hp2]
  exact h w' _ (I.tok _) rw'
theorem d_in {Q:Value→Shared→Prop} (hu:A.units + 1 < cLine) (I:Inv X pins σ H s) (g:DGet H a y o) (ry:RelV y u) (h:∀ s',Inv X pins σ H s'→Q (.bool o.isSome) s'):
  wpAny (model X.prog X.w) A (compareOp .In u (.ref a)) Q E s:=by
 rcases g with ⟨kvs,k,e,ey,l⟩ | ⟨kvs,k,b,e,ey,eb,l⟩
 ·subst ey
  obtain ⟨z,hd,vs,rel,dd⟩:=HW I.hok e
  refine wpAny_in_of (ED ry) hd dd.mapOf ?_
  rw [← (rel.val k).isSome_eq,← l]
  exact h _ (I.tok _)
 ·subst ey
  cases (show u=Value.ref b from ry)
  obtain ⟨z,hd,xs,rel,dd⟩:=HV I.hok e
  refine wpAny_in_heap (tupleKind_room_in1 hu) (yU I.hok eb) hd dd ?_
  have q:=(rel.val k).isSome_eq
  rw [Option.isSome_map] at q
  rw [← q,← l]
  exact h _ (I.tok _)
theorem MN {Q:Value→Shared→Prop} (hu:A.units + 1 < cLine) (I:Inv X pins σ H s) (g:DGet H a y o) (ry:RelV y u) (h:∀ s',Inv X pins σ H s'→Q (.bool (!o.isSome)) s'):
  wpAny (model X.prog X.w) A (compareOp .NotIn u (.ref a)) Q E s:=by
 rcases g with ⟨kvs,k,e,ey,l⟩ | ⟨kvs,k,b,e,ey,eb,l⟩
 ·subst ey
  obtain ⟨z,hd,vs,rel,dd⟩:=HW I.hok e
  refine wpAny_notIn_of (ED ry) hd dd.mapOf ?_
  rw [← (rel.val k).isSome_eq,← l]
  exact h _ (I.tok _)
 ·subst ey
  cases (show u=Value.ref b from ry)
  obtain ⟨z,hd,xs,rel,dd⟩:=HV I.hok e
  refine wpAny_notIn_heap (tupleKind_room_in1 hu) (yU I.hok eb) hd dd ?_
  have q:=(rel.val k).isSome_eq
  rw [Option.isSome_map] at q
  rw [← q,← l]
  exact h _ (I.tok _)
theorem Id {h':Heap} {t':Nat} {ob:HO} (I:Inv X pins σ H s) (mu:Mut (H a)) (hs:Heap.SameBut a s.heap h') (he:∃ q,h'.get? a=some q) (new:dB X.prog X.w (upd H a ob) h' a ob):
  Inv X pins σ (upd H a ob) {s with heap:=h',toks:=t'}:=
 I.write (x:=a) (e:=a) mu (.inl rfl) (fun b q hb z=>(hs.2 b hb).trans z) he new
theorem O2 {P:Program} {w:World} {H':Hp} {h':Heap} {kvs:List (Key×V)} {vs:List (Key×Value)} (z:kvs.length≤sizeLine) (hd:(a == sysModules)=false) (rel:KV kvs vs) (dd:h'.DictOf (cO P w) a vs):
  dB P w H' h' a (.dK kvs):=⟨z,hd,vs,rel,dd⟩
theorem Ie {H':Hp} {Q:Unit→Shared→Prop} (hu:A.units + 1 < cLine) (I:Inv X pins σ H s) (g:DPut H a y v H') (ry:RelV y u) (rv:RelV v r) (h:∀ s',Inv X pins σ H' s'→Q () s'):
  wpAny (model X.prog X.w) A (setItem (.ref a) u r) Q E s:=by
 rcases g with ⟨kvs,k,e,ey,l,eH⟩ | ⟨kvs,k,b,e,ey,eb,l,eH⟩
 ·subst ey eH
  obtain ⟨z,hd,vs,rel,dd⟩:=O1 I.hok e
  have hz:vs.length≤sizeLine:=by rw [← rel.length];exact z
  have hl:(putK kvs k v).length≤sizeLine:=by have:=rm kvs k v;omega
  refine wpAny_setItem_pairs (hsz:=hz) (ED ry) dd fun h' dd' hs=>h _ ?_
  have he:∃ q,h'.get? a=some q:=let ⟨q,_,_,hq,_⟩:=dd';⟨q,hq⟩
  exact Id I (by rw [e];exact True.intro) hs he (O2 hl hd (rel.put k rv) dd')
 ·subst ey eH
  cases (show u=Value.ref b from ry)
  obtain ⟨z,hd,xs,rel,dd⟩:=Qj I.hok e
  have hz:xs.length≤sizeLine:=by rw [← Paired.length rel];exact z
  have hl:(putK kvs k v).length≤sizeLine:=by have:=rm kvs k v;omega
  refine wpAny_setItem_heap (hsz:=hz) (tupleKind_room_in1 hu) (yU I.hok eb) dd fun h' dd' hs=>h _ ?_
  obtain ⟨q,es,ep,hq,h2,h3,h4,_,h5⟩:=dd'
  refine Id I (by rw [e];exact True.intro) hs ⟨q,hq⟩ ⟨hl,hd,_,(rel.put k eb rv).keeps fun c ys ec=>?_,q,es,ep,hq,h2,h3,h4,h5⟩
  rw [ar (fj ec e (fun z=>nomatch z))]
  exact ec
end
noncomputable def NoSl (i:Expr):Prop:=∀ ov iv,subscripted i false ov iv=operate [ov,iv] (getItem ov iv)
theorem LE {prog:Program} {w:World} {A:Around} {E:Value→Shared→Prop} {s:Shared} {env:Env} {value slice:Expr} {pos:Pos} {T id:String} {Q:Value→Shared→Prop}
  (hl:typeLookup (.type T) "__getitem__"=pure (some (.builtin id))) (hs:NoSl slice)
  (h:wpAny (model prog w) A (eval value env) (fun o s₁=>wpAny (model prog w) A (eval slice env) (fun i s₂=>s₂.TypeIs o T∧wpAny (model prog w) A (getItem o i) Q E s₂) E s₁) E s):
  wpAny (model prog w) A (eval (.Subscript value slice pos) env) Q E s:=by
 refine Subscript_ (wpAny_mono h (fun o s₁ h₁=>wpAny_mono h₁ (fun i s₂ h₂=>?_) fun _ _ x=>x) fun _ _ x=>x)
 obtain ⟨hT,h₂⟩:=h₂
 unfold subscriptTail
 refine wpAny_bind ?_
 rw [getitemInPython_of_ne hT.not_modules]
 refine wpAny_bind (wpAny_specialOf hT hl ?_)
 have fin:wpAny (model prog w) A (subscripted slice false o i) (fun r s₃=>wpAny (model prog w) A (letTemporaryGo value o r >>=fun _=>pure r) Q E s₃) E s₂:=by
  rw [hs o i]
  exact wpAny_operating (wpAny_mono h₂ (fun r s₃ h₃=>wpAny_bind (wpAny_letTemporaryGo (wpAny_pure h₃))) fun _ _ x=>x)
 first
  | exact wpAny_pure (wpAny_bind fin)
  | exact wpAny_bind (wpAny_pure (wpAny_bind fin))
  | exact wpAny_bind fin
theorem Be {X:Cx} {pins:List (Addr×Obj)} {σ:St} {H:Hp} {s:Shared} {a:Addr} {y:V} {o:Option V} (I:Inv X pins σ H s) (g:DGet H a y o):s.TypeIs (.ref a) "dict":=by
 rcases g with ⟨kvs,k,e,_,_⟩ | ⟨kvs,k,b,e,_,_,_⟩
 ·obtain ⟨_,_,vs,_,dd⟩:=HW I.hok e
  exact dd.typeIs
 ·obtain ⟨_,_,xs,_,dd⟩:=HV I.hok e
  exact dd.typeIs
noncomputable def Np (td ty:TE):TE:=fun σ H Q=>td σ H fun x H1=>ty σ H1 fun y H2=>∃ a v,x= .ref a∧DGet H2 a y (some v)∧Q v H2
noncomputable def tDIn (ty td:TE):TE:=fun σ H Q=>ty σ H fun y H1=>td σ H1 fun x H2=>∃ a o,x= .ref a∧DGet H2 a y o∧Q (.bl o.isSome) H2
noncomputable def F4 (ty td:TE):TE:=fun σ H Q=>ty σ H fun y H1=>td σ H1 fun x H2=>∃ a o,x= .ref a∧DGet H2 a y o∧Q (.bl (!o.isSome)) H2
noncomputable def N7 (td ty tv:TE):TS:=fun D σ H=>tv σ H fun v H1=>td σ H1 fun x H2=>ty σ H2 fun y H3=>∃ a H4,x= .ref a∧DPut H3 a y v H4∧D.nx σ H4
section
variable {X:Cx} {o i e value:Expr} {pos pos' tpos:Pos} {td ty tv:TE}
theorem Mi (hu:X.A.units + 1 < cLine) (ho:PE X o td) (hi:PE X i ty) (hs:NoSl i):PE X (.Subscript o i pos) (Np td ty):=by
 intro pins s σ H Q I h
 refine LE PySem.F.slot_dict_getitem.lookup hs (thn (ho pins s σ H _ I h) fun u s1 ⟨x,H1,I1,rx,q1⟩=>thn (hi pins s1 σ H1 _ I1 q1) fun iv s2 ⟨y,H2,I2,ry,a,v,ex,g,q2⟩=>?_)
 subst ex
 obtain rfl:u=Value.ref a:=rx
 exact ⟨Be I2 g,Ig hu I2 g ry fun w' s3 I3 rw'=>⟨v,H2,I3,rw',q2⟩⟩
theorem La (hu:X.A.units + 1 < cLine) (hi:PE X i ty) (ho:PE X o td):PC X .In i o (tDIn ty td):=by
 intro pins s σ H Q I h
 refine thn (hi pins s σ H _ I h) fun iv s1 ⟨y,H1,I1,ry,q1⟩=>thn (ho pins s1 σ H1 _ I1 q1) fun u s2 ⟨x,H2,I2,rx,a,ov,ex,g,q2⟩=>?_
 subst ex
 obtain rfl:u=Value.ref a:=rx
 exact d_in hu I2 g ry fun s3 I3=>⟨.bl ov.isSome,H2,I3,rfl,q2⟩
theorem GS (hu:X.A.units + 1 < cLine) (hi:PE X i ty) (ho:PE X o td):PC X .NotIn i o (F4 ty td):=by
 intro pins s σ H Q I h
 refine thn (hi pins s σ H _ I h) fun iv s1 ⟨y,H1,I1,ry,q1⟩=>thn (ho pins s1 σ H1 _ I1 q1) fun u s2 ⟨x,H2,I2,rx,a,ov,ex,g,q2⟩=>?_
 subst ex
 obtain rfl:u=Value.ref a:=rx
 exact MN hu I2 g ry fun s3 I3=>⟨.bl (!ov.isSome),H2,I3,rfl,q2⟩
theorem Me (hu:X.A.units + 1 < cLine) (ho:PE X o td) (hi:PE X i ty) (hv:PE X value tv) (hs:swapsWith value (some (.Subscript o i pos')) pos.line X.env=pure false):
  PS X (.Assign [.Subscript o i pos'] value pos) (N7 td ty tv):=by
 intro pins s σ H D I h
 refine wpAny_Assign_Subscript (thn (hv pins s σ H _ I h) fun r s1 ⟨v,H1,I1,rv,q1⟩=>thn (ho pins s1 σ H1 _ I1 q1) fun u s2 ⟨x,H2,I2,rx,q2⟩=>thn (hi pins s2 σ H2 _ I2 q2) fun iv s3 ⟨y,H3,I3,ry,a,H4,ex,g,q3⟩=>?_) hs
 subst ex
 obtain rfl:u=Value.ref a:=rx
 exact Ie hu I3 g ry rv fun s4 I4=>⟨σ,H4,I4,q3⟩
end
theorem Kv {P:Program} {w:World} {H:Hp} (h:Heap) (hb:sysModules < h.objs.size):dB P w H (h.push {cls:= .type "dict",data:= .dict #[]}) h.objs.size (.dK []):=
 ⟨Nat.zero_le _,beq_eq_false_iff_ne.mpr (Ne.symm (Nat.ne_of_lt hb)),[],.nil,Heap.DictOf.new h⟩
noncomputable def KU:TE:=fun _ H Q=>∀ p,H p=none→Q (.ref p) (upd H p (.dK []))
section
variable {X:Cx} {pos:Pos}
theorem JQ:PE X (.Dict [] [] pos) KU:=fun pins s σ H Q I h=>
 wpAny_Dict_empty ⟨.ref s.heap.objs.size,_,I.laid (a:=s.heap.objs.size) (o:= .dK []) (t':=s.toks) (fun _ _ q=>Heap.get?_push_of_some _ q) (Nat.le_refl _) (Kv s.heap I.big),rfl,h _ (I.hok.fresh (Nat.le_refl _))⟩
end
structure M1 (X:Cx) (o:Expr) (m:Str) (apos:Pos) (e:Expr) (cpos:Pos):Prop where
 base:attributeBase o m X.env (eval o X.env)=eval o X.env
 few:((backTo cpos (starEach [e] X.env)).all (fun x=> !x.1)&&(backToKw cpos (keywordEach [] X.env)).all (fun x=>x.1.isSome)
  &&decide (([e]:List Expr).length + ([]:List Keyword).length + (if ([]:List Keyword).isEmpty then 0 else 1) < 30))=true
 line:(apos.endLine == cpos.line)=true
 trees:backTo cpos (starEach [e] X.env)=[(false,eval e X.env)]
structure M2 (X:Cx) (o:Expr) (m:Str) (apos:Pos) (e f:Expr) (cpos:Pos):Prop where
 base:attributeBase o m X.env (eval o X.env)=eval o X.env
 few:((backTo cpos (starEach [e,f] X.env)).all (fun x=> !x.1)&&(backToKw cpos (keywordEach [] X.env)).all (fun x=>x.1.isSome)
  &&decide (([e,f]:List Expr).length + ([]:List Keyword).length + (if ([]:List Keyword).isEmpty then 0 else 1) < 30))=true
 line:(apos.endLine == cpos.line)=true
 trees:backTo cpos (starEach [e,f] X.env)=[(false,eval e X.env),(false,eval f X.env)]
section
variable {κ:Type} [DecidableEq κ]
theorem Jp {kvs:List (κ×V)} {k:κ} (h:valV kvs k=none):¬ k∈kvs.map (·.1):=by
 intro m
 obtain ⟨p,hp,e⟩:=List.mem_map.mp m
 have q:(kvs.any fun kv=>decide (kv.1=k))=true:=List.any_eq_true.mpr ⟨p,hp,decide_eq_true e⟩
 rw [lD,h] at q
 exact absurd q (by simp)
theorem LC {kvs:List (κ×V)} {k:κ} {v:V} (h:valV kvs k=some v):k∈kvs.map (·.1):=by
 have q:(kvs.any fun kv=>decide (kv.1=k))=true:=by
  rw [lD,h]
  all_goals rfl
 obtain ⟨p,hp,e⟩:=List.any_eq_true.mp q
 exact List.mem_map.mpr ⟨p,hp,of_decide_eq_true e⟩
end
end L2
set_option maxHeartbeats 4000000
namespace L2
open PySem PySem.Spec PyProof.Rows
section
variable {P0:Program} {w0:World} {A0:Around} {R0:Result→Shared→Prop} {t0:Shared}
theorem Fe {elt tg iter:Expr} {ifs:List Expr} {sc:Scope} {pos:Pos} {it acc:Value} {ce:Env} (J:Nat→Shared→Prop)
  (turn:∀ n s,J n s→wpAny (model P0 w0) A0 (pyNext it) (fun r s₁=>match r with
   | none=>R0 (.ok .next) s₁
   | some v=>wpAny (model P0 w0) A0 (letOwnedTupleGo tg it v) (fun _ s₂=>wpAny (model P0 w0) A0 (assign tg ce v) (fun _ s₃=>
     wpAny (model P0 w0) A0 (forIn ifs true fun c r=>if r=true then do let ok ← isTrue c ce (eval c ce);pure (ForInStep.yield ok) else pure (ForInStep.yield r)) (fun ok s₄=>
      if ok=true then wpAny (model P0 w0) A0 (eval elt ce) (fun x s₅=>
       wpAny (model P0 w0) A0 (call (.builtin "list.append") [acc,x]) (fun _ s₆=>∃ m,m < n∧J m s₆) (fun _ _=>False) s₅) (fun _ _=>False) s₄
      else ∃ m,m < n∧J m s₄) (fun _ _=>False) s₃) (fun _ _=>False) s₂) (fun _ _=>False) s₁) (fun _ _=>False) s)
  (n:Nat) (h:J n t0):
  codeAny (model P0 w0) A0 (.compLoop (.ListComp elt [⟨tg,iter,ifs,0⟩] sc pos) 0 it acc ce) R0 t0:=by
 have no:∀ {α:Type} {t:Sem α} {Q:α→Shared→Prop} {E:Value→Shared→Prop} {s:Shared},wpAny (model P0 w0) A0 t Q (fun _ _=>False) s→wpAny (model P0 w0) A0 t Q E s:=
  fun h=>wpAny_mono h (fun _ _ q=>q) fun _ _ z=>z.elim
 refine codeAny_loop rfl J (fun n s hJ=>?_) n h
 show wpAny _ A0 ((compTurn (.ListComp elt [⟨tg,iter,ifs,0⟩] sc pos) 0 it acc ce).onRaise (fun x=>do noteFrame x ce;theTreesLotGoes x)) _ _ s
 refine wpAny_noted ?_
 rw [compTurn_list]
 refine wpAny_bind (wpAny_standAt (wpAny_bind (thn (no (turn n s hJ)) fun r s₁ h₁=>?_)))
 cases r with
 | none=>exact wpAny_pure h₁
 | some v=>
   refine wpAny_bind (thn (no h₁) fun _ s₂ h₂=>?_)
   refine wpAny_bind (thn (no h₂) fun _ s₃ h₃=>wpAny_bind (thn (no h₃) fun ok s₄ h₄=>?_))
   cases ok with
   | false=>exact wpAny_pure ⟨rfl,h₄⟩
   | true=>
     rw [if_pos rfl] at h₄
     refine wpAny_bind (wpAny_bind (thn (no h₄) fun x s₅ h₅=>?_))
     refine wpAny_bind (thn (no h₅) fun _ s₆ h₆=>?_)
     exact wpAny_pure (wpAny_pure ⟨rfl,h₆⟩)
end
theorem nP (env:Env):∀ (l:List (Str×NameKind)) (cs:List (Str×Addr)),(∀ y∈l,y.2= .free→∃ c,env.cells.lookup y.1=some c)→
  ∃ r:List (Str×Addr),(forIn l cs (fun (x:Str×NameKind) (r:List (Str×Addr))=>if x.2 == NameKind.free then (do let c ← cellOf env x.1;pure (ForInStep.yield ((x.1,c)::r))) else pure (ForInStep.yield r)):Sem (List (Str×Addr)))=pure r∧
   (∀ p∈r,p∈cs∨env.cells.lookup p.1=some p.2)∧(∀ p∈cs,p∈r)∧(∀ y∈l,y.2= .free→∃ c,(y.1,c)∈r)
 | [],cs,_=>⟨cs,rfl,fun p hp=> .inl hp,fun p hp=>hp,fun y hy=>nomatch hy⟩
 | (x,k)::l,cs,h=>by
   by_cases hk:k= .free
   ·subst hk
    obtain ⟨c,hc⟩:=h (x,.free) List.mem_cons_self rfl
    obtain ⟨r,e,h1,h2,h3⟩:=nP env l ((x,c)::cs) fun y hy=>h y (List.mem_cons_of_mem _ hy)
    refine ⟨r,?_,fun p hp=>?_,fun p hp=>h2 p (List.mem_cons_of_mem _ hp),fun y hy hf=>?_⟩
    ·rw [List.forIn_cons]
     have e2:cellOf env x=pure c:=by unfold cellOf;rw [hc]
     simp only [beq_self_eq_true,if_true,e2,pure_bind]
     exact e
    ·rcases h1 p hp with q | q
     ·rcases List.mem_cons.mp q with z | z
      ·subst z;exact .inr hc
      ·exact .inl z
     ·exact .inr q
    ·rcases List.mem_cons.mp hy with z | z
     ·subst z;exact ⟨c,h2 _ List.mem_cons_self⟩
     ·exact h3 y z hf
   ·obtain ⟨r,e,h1,h2,h3⟩:=nP env l cs fun y hy=>h y (List.mem_cons_of_mem _ hy)
    refine ⟨r,?_,h1,h2,fun y hy hf=>?_⟩
    ·rw [List.forIn_cons]
     have hb:(k == NameKind.free)=false:=by cases k<;>first | rfl | exact absurd rfl hk
     simp only [hb,Bool.false_eq_true,if_false,pure_bind]
     exact e
    ·rcases List.mem_cons.mp hy with z | z
     ·subst z;exact absurd hf hk
     ·exact h3 y z hf
theorem vC (sc:Scope) (env:Env) (h:∀ y∈sc.names,y.2= .free→∃ c,env.cells.lookup y.1=some c):
  ∃ cl,closureFor sc env=pure cl∧(∀ p∈cl,env.cells.lookup p.1=some p.2)∧∀ y∈sc.names,y.2= .free→∃ c,(y.1,c)∈cl:=by
 obtain ⟨r,e,h1,h2,h3⟩:=nP env sc.names [] h
 refine ⟨r,?_,fun p hp=>(h1 p hp).resolve_left (fun z=>nomatch z),h3⟩
 unfold closureFor
 have:=e
 simp only [bind_pure] at *
 exact e
theorem wO {κ β:Type} [BEq κ] [LawfulBEq κ]:∀ {l:List (κ×β)} {x:κ} {c:β},(x,c)∈l→∃ c',l.lookup x=some c'
 | [],_,_,h=>nomatch h
 | (y,d)::l,x,c,h=>by
   by_cases e:x=y
   ·subst e;exact ⟨d,by simp [List.lookup_cons]⟩
   ·have hb:(x == y)=false:=beq_eq_false_iff_ne.mpr e
    rcases List.mem_cons.mp h with z | z
    ·exact absurd (congrArg Prod.fst z) e
    ·obtain ⟨c',q⟩:=wO z
     exact ⟨c',by rw [List.lookup_cons,hb];exact q⟩
theorem lJ {env:Env}:∀ {names:List (Str×NameKind)} {x:Str} {k':NameKind},
  (names.map fun (n,k)=>if (k == NameKind.free&&env.scope.kind == .function&&env.kindOf n == some .cell) then (n,NameKind.cell) else (n,k)).lookup x=some k'→∃ k,(x,k)∈names∧(k'=k∨k= .free)
 | [],_,_,h=>by cases h
 | (y,k)::l,x,k',h=>by
   rw [List.map_cons,List.lookup_cons] at h
   by_cases e:x=y
   ·subst e
    by_cases hc:(k == NameKind.free&&env.scope.kind == .function&&env.kindOf x == some .cell)=true
    ·refine ⟨k,List.mem_cons_self,.inr ?_⟩
     rw [Bool.and_eq_true,Bool.and_eq_true] at hc
     exact eq_of_beq hc.1.1
    ·refine ⟨k,List.mem_cons_self,.inl ?_⟩
     simp only [if_neg hc,beq_self_eq_true] at h
     exact (Option.some.inj h).symm
   ·have hb:(x == y)=false:=beq_eq_false_iff_ne.mpr e
    have h':(l.map fun (n,k)=>if (k == NameKind.free&&env.scope.kind == .function&&env.kindOf n == some .cell) then (n,NameKind.cell) else (n,k)).lookup x=some k':=by
     by_cases hc:(k == NameKind.free&&env.scope.kind == .function&&env.kindOf y == some .cell)=true
     ·simp only [if_pos hc,hb] at h;exact h
     ·simp only [if_neg hc,hb] at h;exact h
    obtain ⟨q,hm,z⟩:=lJ h'
    exact ⟨q,List.mem_cons_of_mem _ hm,z⟩
theorem n0 {env:Env}:∀ {names:List (Str×NameKind)} {x:Str},names.lookup x=some .free→
  (names.map fun (n,k)=>if (k == NameKind.free&&env.scope.kind == .function&&env.kindOf n == some .cell) then (n,NameKind.cell) else (n,k)).lookup x=some .cell∨
  (names.map fun (n,k)=>if (k == NameKind.free&&env.scope.kind == .function&&env.kindOf n == some .cell) then (n,NameKind.cell) else (n,k)).lookup x=some .free
 | [],_,h=>by cases h
 | (y,k)::l,x,h=>by
   rw [List.lookup_cons] at h
   rw [List.map_cons,List.lookup_cons]
   by_cases e:x=y
   ·subst e
    simp only [beq_self_eq_true] at h
    cases h
    by_cases hc:(NameKind.free == NameKind.free&&env.scope.kind == .function&&env.kindOf x == some .cell)=true
    ·refine .inl ?_
     rw [if_pos hc]
     simp only [beq_self_eq_true]
    ·refine .inr ?_
     rw [if_neg hc]
     simp only [beq_self_eq_true]
   ·have hb:(x == y)=false:=beq_eq_false_iff_ne.mpr e
    simp only [hb] at h
    have q:=n0 (env:=env) h
    by_cases hc:(k == NameKind.free&&env.scope.kind == .function&&env.kindOf y == some .cell)=true
    ·simp only [if_pos hc,hb];exact q
    ·simp only [if_neg hc,hb];exact q
structure ie (osc:Scope) (ON N:List Str) (n:Nat) (fx:List Nat) (sc:Scope):Prop where
 kind:sc.kind= .function
 noc:∀ y∈sc.names,y.2≠.cell
 own:∀ y∈sc.names,y.2= .local→sc.names.lookup y.1=some .local
 fre:∀ y∈sc.names,y.2= .free→osc.names.lookup y.1=some .cell∨osc.names.lookup y.1=some .free
 len:N.length=n + fx.length
 frn:∀ k,k < fx.length→∃ x j,N[n + k]? =some x∧fx[k]? =some j∧ON[j]? =some x∧sc.names.lookup x=some .free
noncomputable def Kr (ON:List Str) (sc:Scope):List Str→List Nat→Bool
 | [],[]=>true
 | x::xs,j::js=>decide (ON[j]? =some x)&&decide (sc.names.lookup x=some .free)&&Kr ON sc xs js
 | _,_=>false
theorem za {ON:List Str} {sc:Scope}:∀ {xs:List Str} {js:List Nat},Kr ON sc xs js=true→xs.length=js.length∧∀ k,k < js.length→∃ x j,xs[k]? =some x∧js[k]? =some j∧ON[j]? =some x∧sc.names.lookup x=some .free
 | [],[],_=>⟨rfl,fun k h=>absurd h (Nat.not_lt_zero k)⟩
 | [],_::_,h=>by cases h
 | _::_,[],h=>by cases h
 | x::xs,j::js,h=>by
   simp only [Kr,Bool.and_eq_true,decide_eq_true_eq] at h
   obtain ⟨l,q⟩:=za h.2
   refine ⟨congrArg Nat.succ l,fun k hk=>?_⟩
   cases k with
   | zero=>exact ⟨x,j,rfl,rfl,h.1.1,h.1.2⟩
   | succ k=>
     obtain ⟨x',j',a,b,c⟩:=q k (Nat.lt_of_succ_lt_succ hk)
     exact ⟨x',j',by simpa using a,by simpa using b,c⟩
noncomputable def Ct (osc:Scope) (ON N:List Str) (n:Nat) (fx:List Nat) (sc:Scope):Bool:=
 decide (sc.kind= .function)&&decide (∀ y∈sc.names,y.2≠.cell)&&decide (∀ y∈sc.names,y.2= .local→sc.names.lookup y.1=some .local)&&
 decide (∀ y∈sc.names,y.2= .free→osc.names.lookup y.1=some .cell∨osc.names.lookup y.1=some .free)&&decide (n≤N.length)&&Kr ON sc (N.drop n) fx
theorem ie.of {osc:Scope} {ON N:List Str} {n:Nat} {fx:List Nat} {sc:Scope} (h:Ct osc ON N n fx sc=true):ie osc ON N n fx sc:=by
 simp only [Ct,Bool.and_eq_true,decide_eq_true_eq] at h
 obtain ⟨⟨⟨⟨⟨h1,h2⟩,h3⟩,h4⟩,h5⟩,h6⟩:=h
 obtain ⟨l,q⟩:=za h6
 refine ⟨h1,h2,h3,h4,?_,fun k hk=>?_⟩
 ·rw [List.length_drop] at l;omega
 ·obtain ⟨x,j,a,b⟩:=q k hk
  exact ⟨x,j,by rw [List.getElem?_drop] at a;exact a,b⟩
noncomputable def iS (X:Cx) (N:List Str) (sc:Scope) (cl:List (Str×Addr)) (C:Addr) (fp:List Addr) (s:Shared) (H:Hp):Cx where
 prog:=X.prog
 w:=X.w
 K:=X.K
 mg:=X.mg
 base:=X.base
 A:=X.A
 N:=N
 s₀:=s
 H₀:=H
 env:=compEnvC sc cl C X.env
 outer:=X.stack
 stack:=X.stack
 ex:=fp
 fn:=fun _=>false
 calm:=X.calm
 pn:=[]
 xe:=fun _ _=>False
noncomputable def di (n:Nat) (fx:List Nat) (σ:St):St:=List.replicate n none++fx.map fun j=>(σ[j]?).join
noncomputable def FD (n:Nat) (g:TG):Prop:=∀ v σ H (Q Q':St→Hp→Prop),(∀ σ' H',Q σ' H'→σ'.drop n=σ.drop n→σ'.length=σ.length→Q' σ' H')→g v σ H Q→g v σ H Q'
noncomputable def Cy (n:Nat) (g:TGs):Prop:=∀ vs σ H (Q Q':St→Hp→Prop),(∀ σ' H',Q σ' H'→σ'.drop n=σ.drop n→σ'.length=σ.length→Q' σ' H')→g vs σ H Q→g vs σ H Q'
theorem a0 {n i:Nat} (h:i < n):FD n (HK i):=fun v σ H Q Q' k q=>k _ _ q (by rw [List.drop_set_of_lt h]) (by rw [List.length_set])
theorem rN {n:Nat}:Cy n gNil:=fun vs σ H Q Q' k ⟨e,q⟩=>⟨e,k _ _ q rfl rfl⟩
theorem eG {n:Nat} {t:TG} {u:TGs} (ht:FD n t) (hu:Cy n u):Cy n (MJ t u):=fun vs σ H Q Q' k ⟨v,r,e,q⟩=>
 ⟨v,r,e,ht v σ H _ _ (fun σ1 H1 q1 e1 l1=>hu r σ1 H1 Q Q' (fun σ2 H2 q2 e2 l2=>k σ2 H2 q2 (e2.trans e1) (l2.trans l1)) q1) q⟩
theorem y0 {K:PySem.W.Frag} {n m:Nat} {t:TGs} (h:Cy n t):FD n (gTup K m t):=fun v σ H Q Q' k ⟨a,xs,e,hs,hl,q⟩=>⟨a,xs,e,hs,hl,h xs σ H Q Q' k q⟩
noncomputable def PTs (X:Cx) (ifs:List Expr) (t:TT):Prop:=
 ∀ (pins:List (Addr×Obj)) (s:Shared) (σ:St) (H:Hp) (Q:Bool→Hp→Prop),Inv X pins σ H s→t σ H Q→
  wpAny (model X.prog X.w) X.A (forIn ifs true fun c r=>if r=true then do let ok ← isTrue c X.env (eval c X.env);pure (ForInStep.yield ok) else pure (ForInStep.yield r)) (TP X pins σ Q) X.xe s
noncomputable def tYes:TT:=fun _ H Q=>Q true H
theorem bF {X:Cx}:PTs X [] tYes:=fun _ _ _ H _ I h=>wpAny_tests_nil ⟨H,I,h⟩
theorem v0 {X:Cx} {c:Expr} {t:TT} (h:PT X c t):PTs X [c] t:=fun pins s σ H Q I q=>wpAny_tests_one (h pins s σ H Q I q)
noncomputable def Jq (n:Nat) (fx:List Nat) (wi:TI) (g:TG) (tc:TT) (te:TE):TE:=fun σ H Q=>wi σ H fun J H1=>∀ D,H1 D=none→
 ∃ W:Nat→Nat→List V→Hp→Prop,(∃ m,W 0 m [] (upd H1 D (.lst [])))∧∀ i m ys H2,W i m ys H2→(J.stop i H2∧Q (.ref D) H2)∨
   (J.go i H2∧∃ N:List V→Hp→Prop,(∀ ys' H',N ys' H'→∃ m',m' < m∧W (i + 1) m' ys' H')∧∀ x H3,J.yld i H2 x H3→g x (di n fx σ) H3 fun σ4 H4=>tc σ4 H4 fun b H5=>
    if b=true then te σ4 H5 fun v H6=>H6 D=some (.lst ys)∧ys.length < sizeLine∧N (ys++[v]) (upd H6 D (.lst (ys++[v]))) else N ys H5)
section
variable {X:Cx} {pins:List (Addr×Obj)} {σ:St} {H:Hp} {s:Shared}
theorem Ff {n:Nat} {fx:List Nat}:(di n fx σ).length=n + fx.length:=by unfold di;simp
theorem vB {n:Nat} {fx:List Nat} {i:Nat} {v:V} (e:(di n fx σ)[i]? =some (some v)):∃ k j,i=n + k∧fx[k]? =some j∧σ[j]? =some (some v):=by
 unfold di at e
 by_cases h:i < n
 ·rw [List.getElem?_append_left (by simpa using h),List.getElem?_replicate,if_pos h] at e
  cases e
 ·rw [List.getElem?_append_right (by simpa using h),List.length_replicate,List.getElem?_map] at e
  cases q:fx[i - n]? with
  | none=>rw [q] at e;cases e
  | some j=>
    rw [q] at e
    have e':(σ[j]?).join=some v:=Option.some.inj e
    refine ⟨i - n,j,by omega,q,?_⟩
    cases z:σ[j]? with
    | none=>rw [z] at e';cases e'
    | some o=>rw [z] at e';have:o=some v:=e';rw [this]
theorem KC {osc:Scope} {ON N:List Str} {n:Nat} {fx:List Nat} {sc:Scope} {cl:List (Str×Addr)} {fp:List Addr} {h4:Heap} {tk:Nat}
  (ho:X.env.scope=osc) (hN:X.N=ON) (S:ie osc ON N n fx sc)
  (hcl1:∀ p∈cl,X.env.cells.lookup p.1=some p.2) (hcl2:∀ y∈sc.names,y.2= .free→∃ c,(y.1,c)∈cl)
  (I:Inv X pins σ H s) (hf:∀ b∈fp,FpOk X pins H b) (hfo:∀ b∈fp,b < s.heap.objs.size)
  (hns:∃ m,h4.Ns s.heap.objs.size m) (old:∀ b o,s.heap.get? b=some o→h4.get? b=some o):
  Inv (iS X N sc cl s.heap.objs.size fp s H) [] (di n fx σ) H {s with heap:=h4,toks:=tk}:=by
 have look:∀ {x:Str} {c:Addr},cl.lookup x=some c→X.env.cells.lookup x=some c:=fun {x c} e=>hcl1 (x,c) (PySem.mem_of_lookup e)
 have ok:(iS X N sc cl s.heap.objs.size fp s H).Ok:=by
  refine ⟨I.ok.mod,S.kind,I.ok.glob,I.ok.blt,Nat.le_refl _,fun x y c h1 h2=>I.ok.inj x y c (look h1) (look h2),fun x hx=>?_,fun x c z=>(by cases z),I.ok.hd,I.ok.frames,.inl rfl,fun b hb=>⟨Nat.ne_of_lt (hfo b hb),fun x c e=>(hf b hb).2.2.2.2.1 x c (look e)⟩,
   I.bs,Nat.le_trans I.ok.bsz I.sz,fun b o e hb=>?_,fun b hb z=>?_,I.stack,I.stkFree⟩
  ·have hx':∃ k',(k'=NameKind.cell∨k'=NameKind.free)∧(sc.names.map fun (n,k)=>if (k == NameKind.free&&X.env.scope.kind == .function&&X.env.kindOf n == some .cell) then (n,NameKind.cell) else (n,k)).lookup x=some k':=by
    rcases hx with hx | hx
    ·exact ⟨_,.inl rfl,hx⟩
    ·exact ⟨_,.inr rfl,hx⟩
   obtain ⟨k',hk,e⟩:=hx'
   obtain ⟨k,hm,z⟩:=lJ e
   have kf:k= .free:=by
    rcases z with z | z
    ·subst z
     rcases hk with q | q
     ·exact absurd q (S.noc _ hm)
     ·exact q
    ·exact z
   subst kf
   obtain ⟨c,hc⟩:=hcl2 _ hm rfl
   exact wO hc
  ·rcases (hf b hb).2.2.2.1 with z | z
   ·exact I.ok.noex b o e z
   ·exact absurd (Nat.lt_of_lt_of_le (Heap.lt_size (I.ok.bs b o e).1) z) (Nat.lt_irrefl _)
  ·rcases List.mem_cons.mp (I.stkSub b z) with q | q
   ·exact (hf b hb).2.1 q
   ·exact (hf b hb).2.2.1 q
 obtain ⟨m,hns⟩:=hns
 refine ⟨ok,rfl,I.bare,Un.kept old,⟨m,hns,fun i x v e1 e2 e3=>?_⟩,fun x c e=>?_,I.hok.fresh (Nat.le_refl _),fun x c e=>I.freeC x c (look e),fun p hp=>absurd (show p∈([]:List (Addr×Obj)) from hp) (by simp),I.hok.kept old,?_⟩
 ·obtain ⟨k,j,rfl,hj,hv⟩:=vB e2
  obtain ⟨x',j',a1,a2,a3,a4⟩:=S.frn k (List.getElem?_eq_some_iff.mp hj).1
  have ex:x'=x:=Option.some.inj (a1.symm.trans e1)
  have ej:j'=j:=Option.some.inj (a2.symm.trans hj)
  subst ex;subst ej
  obtain ⟨m',_,hl⟩:=I.loc
  have hk:X.env.scope.names.lookup x'=some .cell∨X.env.scope.names.lookup x'=some .free:=by rw [ho];exact S.fre _ (PySem.mem_of_lookup a4) rfl
  have vis:Vis X.env.scope x':=by rcases hk with z | z;exact .inr (.inl z);exact .inr (.inr z)
  obtain ⟨u,r,q⟩:=hl j' x' v (by rw [hN];exact a3) hv vis
  rcases q with ⟨z,_⟩ | ⟨_,c,ec,ic⟩
  ·have z':X.env.scope.names.lookup x'=some .local:=z
   rcases hk with q | q<;>(rw [q] at z';cases z')
  ·refine ⟨u,r,.inr ⟨n0 a4,c,?_,ic.keeps old⟩⟩
   obtain ⟨c0,hc0⟩:=hcl2 _ (PySem.mem_of_lookup a4) rfl
   obtain ⟨c1,hc1⟩:=wO hc0
   have:=look hc1
   rw [ec] at this
   cases this
   exact hc1
 ·obtain ⟨v,q⟩:=I.cell x c (look e)
  exact ⟨v,q.keeps old⟩
 ·show _=N.length
  rw [Ff,S.len]
theorem zv {osc:Scope} {ON N:List Str} {n:Nat} {fx:List Nat} {sc:Scope} {cl:List (Str×Addr)} {elt tg iter:Expr} {ifs:List Expr} {pos:Pos} {wi:TI} {g:TG} {tc:TT} {te:TE} {Q:VK} {RR:Value→Addr→Result→Shared→Prop}
  (hcalm:X.calm=true) (ho:X.env.scope=osc) (hN:X.N=ON) (S:ie osc ON N n fx sc)
  (hcl1:∀ p∈cl,X.env.cells.lookup p.1=some p.2) (hcl2:∀ y∈sc.names,y.2= .free→∃ c,(y.1,c)∈cl)
  (hi:PI X tg iter wi) (gk:FD n g) (hb:∀ cl C fp s H,PG (iS X N sc cl C fp s H) tg g∧PTs (iS X N sc cl C fp s H) ifs tc∧PE (iS X N sc cl C fp s H) elt te)
  (I:Inv X pins σ H s) (h:Jq n fx wi g tc te σ H Q)
  (hRR:∀ D C H' s',Inv X pins σ H' s'→(∃ m,s'.heap.Ns C m)→FpOk X pins H' C→Q (.ref D) H'→RR (.ref D) C (.ok .next) s'):
  wpAny (model X.prog X.w) X.A (eval iter X.env) (fun x s₁=>wpAny (model X.prog X.w) X.A (pyIter x) (fun it s₂=>wpAny (model X.prog X.w) X.A (newList []) (fun acc s₃=>
   wpAny (model X.prog X.w) X.A (newFunctionEnv sc X.env.globals cl [] X.env.qual none .none (some X.env)) (fun cenv s₄=>
    codeAny (model X.prog X.w) X.A (.compStart (.ListComp elt [⟨tg,iter,ifs,0⟩] sc pos) 0 it acc {cenv with scope:=relabel sc X.env}) (RR acc cenv.locals) s₄) X.xe s₃) X.xe s₂) X.xe s₁) X.xe s:=by
 refine thn (hi pins s σ H _ I h) fun v s1 h1=>thn h1 fun itv s2 h2=>?_
 obtain ⟨it,fp,tn,J,H2,e2,I2,T,st2,f2,hW⟩:=h2
 subst e2
 obtain ⟨W,⟨m0,w0⟩,hturn⟩:=hW s2.heap.objs.size I2.fresh
 refine wpAny_newObj_type ?_
 have I3:Inv X pins σ (upd H2 s2.heap.objs.size (.lst [])) {s2 with heap:=s2.heap.push {cls:= .type "list",data:= .seq ([]:List Value).toArray}}:=I2.lnew (t':=s2.toks) (its:=[]) .nil (Nat.zero_le _)
 have f3:∀ b∈fp,FpOk X pins (upd H2 s2.heap.objs.size (.lst [])) b∧b < s2.heap.objs.size:=fun b hb=>by
  obtain ⟨o,e,_⟩:=T.obj _ _ st2 b hb
  have l:=Heap.lt_size e
  obtain ⟨a1,a2⟩:=f2 b hb
  exact ⟨⟨by rw [ar (Nat.ne_of_lt l)];exact a1,a2⟩,l⟩
 have sz:({s2 with heap:=s2.heap.push {cls:= .type "list",data:= .seq ([]:List Value).toArray}}:Shared).heap.objs.size=s2.heap.objs.size + 1:=Heap.size_push ..
 generalize hs3:({s2 with heap:=s2.heap.push {cls:= .type "list",data:= .seq ([]:List Value).toArray}}:Shared)=s3 at I3 sz ⊢
 generalize hH3:upd H2 s2.heap.objs.size (.lst [])=H3 at I3 f3 w0
 have old3:∀ b o,s2.heap.get? b=some o→s3.heap.get? b=some o:=fun b o e=>by rw [← hs3];exact Heap.get?_push_of_some _ e
 refine wpAny_newFunctionEnv (fun y hy=>S.noc y hy) (fun y hy=>nomatch hy) (fun h4 hns hsb=>?_) S.kind
 have old4:∀ b o,s3.heap.get? b=some o→h4.get? b=some o:=fun b o e=>hsb.extBut b o (Nat.ne_of_lt (Heap.lt_size e)) (Heap.get?_push_of_some _ e)
 have I4:=KC (tk:=s3.toks + ([]:List (Str×Value)).length) ho hN S hcl1 hcl2 I3 (fun b hb=>(f3 b hb).1) (fun b hb=>by rw [sz];exact Nat.lt_succ_of_lt (f3 b hb).2) ⟨_,hns⟩ old4
 have hb':=hb cl s3.heap.objs.size fp s3 H3
 generalize hY:iS X N sc cl s3.heap.objs.size fp s3 H3=Y at I4 hb'
 have stat:∀ {H':Hp},(∀ b∈fp,H' b=none)→∀ b∈fp,FpOk Y [] H' b:=fun {H'} hn b hb=>by
  subst hY
  obtain ⟨⟨a1,a2,a3,a4,a5,a6⟩,l⟩:=f3 b hb
  refine ⟨hn b hb,Nat.ne_of_lt (show b < s3.heap.objs.size by rw [sz];exact Nat.lt_succ_of_lt l),fun z=>?_,.inl hb,fun x c e=>a5 x c (hcl1 (x,c) (PySem.mem_of_lookup e)),fun p hp=>absurd (show p∈([]:List (Addr×Obj)) from hp) (by simp)⟩
  rcases List.mem_cons.mp (I3.stkSub b z) with q | q
  ·exact a2 q
  ·exact a3 q
 have fin:∀ {σ6:St} {H6:Hp} {s6:Shared},Inv Y [] σ6 H6 s6→Q (.ref s2.heap.objs.size) H6→RR (.ref s2.heap.objs.size) s3.heap.objs.size (.ok .next) s6:=fun {σ6 H6 s6} I6 q=>by
  subst hY
  refine hRR _ _ H6 s6 ?_ (let ⟨m,hm,_⟩:=I6.loc;⟨m,hm⟩) (I3.fpOk (Nat.le_refl _) I6.free) q
  obtain ⟨hh,gg,dd,tt,os'⟩:=s6
  obtain rfl:os'=s3.os:=I6.os
  exact I3.call (h':=hh) (g':=gg) (d':=dd) (t':=tt) (ch:=fp) I6.base I6.hok I6.bare fun b hb=>by
   obtain ⟨⟨a1,a2,a3,a4,a5,a6⟩,l⟩:=f3 b hb
   exact ⟨a4,a2,a5,a6⟩
 have pY:Y.prog=X.prog:=by subst hY;rfl
 have wY:Y.w=X.w:=by subst hY;rfl
 have kY:Y.K=X.K:=by subst hY;rfl
 have aY:Y.A=X.A:=by subst hY;rfl
 have cY:Y.calm=true:=by subst hY;exact hcalm
 have eY:Y.env=compEnvC sc cl s3.heap.objs.size X.env:=by subst hY;rfl
 have xY:Y.xe=fun _ _=>False:=by subst hY;rfl
 have T':Turn Y.prog Y.w Y.K tg J fp it tn:=by rw [pY,wY,kY];exact T
 have tn4:tn 0 h4:=T.keep _ _ _ st2 fun b hb o e=>old4 b o (old3 b o e)
 have loop:codeAny (model X.prog X.w) X.A (.compLoop (.ListComp elt [⟨tg,iter,ifs,0⟩] sc pos) 0 (.ref it) (.ref s2.heap.objs.size) (compEnvC sc cl s3.heap.objs.size X.env)) (RR (.ref s2.heap.objs.size) s3.heap.objs.size)
   {s3 with heap:=h4,toks:=s3.toks + ([]:List (Str×Value)).length}:=by
  rw [← pY,← wY,← aY,← eY]
  refine Fe (fun k s'=>∃ i ys σ' H',Inv Y [] σ' H' s'∧σ'.drop n=(di n fx σ).drop n∧σ'.length=(di n fx σ).length∧tn i s'.heap∧(∀ b∈fp,H' b=none)∧W i k ys H') ?_ m0 ⟨0,[],_,H3,I4,rfl,rfl,tn4,fun b hb=>(f3 b hb).1.1,w0⟩
  rintro k s5 ⟨i,ys,σ5,H5,I5,ed,el,st5,fr5,w5⟩
  have I5:Inv Y [] (di n fx σ) H5 s5:=I5.weak el.symm fun j v e=>by
   obtain ⟨k',j',rfl,_,_⟩:=vB e
   have q:=congrArg (fun l=>l[k']?) ed
   simp only [List.getElem?_drop] at q
   rw [q];exact e
  rcases hturn i k ys H5 w5 with ⟨stop,q⟩ | ⟨go,N',hN',step⟩
  ·refine wpAny_mono (T'.done Y rfl rfl rfl cY i [] s5 _ H5 (fun _ _=>False) I5 (stat fr5) st5 stop) (fun r s6 ⟨hr,I6⟩=>?_) fun _ _ z=>z
   subst hr
   exact fin I6 q
  ·rw [← xY]
   refine thn (T'.item Y rfl rfl rfl cY i [] s5 _ H5 Y.xe I5 (stat fr5) st5 go) fun r s6 ⟨u,hr,h6⟩=>?_
   subst hr
   show wpAny _ _ _ _ _ _
   refine thn h6 fun _ s7 ⟨x,H7,I7,r7,y7,st7,fr7⟩=>?_
   have I7':=I7.pinned (stat fr7) (T.obj _ _ st7)
   refine thn (hb'.1 _ s7 _ H7 x u _ I7' r7 (gk _ _ _ _ _ (fun σ' H' q e l=>(⟨q,e,l⟩:_∧_∧_)) (step x H7 y7))) fun _ s8 ⟨σ8,H8,I8,q8,ed8,el8⟩=>?_
   refine thn (hb'.2.1 _ s8 σ8 H8 _ I8 q8) fun ok s9 ⟨H9,I9,q9⟩=>?_
   have again:∀ {H10:Hp} {s10:Shared} {zs:List V},Inv Y ([]++yq fp s7.heap) σ8 H10 s10→N' zs H10→
     ∃ m,m < k∧∃ i ys σ' H',Inv Y [] σ' H' s10∧σ'.drop n=(di n fx σ).drop n∧σ'.length=(di n fx σ).length∧tn i s10.heap∧(∀ b∈fp,H' b=none)∧W i m ys H':=fun {H10 s10 zs} I10 n10=>by
    obtain ⟨m',hm,w10⟩:=hN' _ _ n10
    refine ⟨m',hm,i + 1,zs,σ8,H10,I10.unpinned,ed8,el8,T.keep _ _ _ st7 fun b hb o e=>(I10.pin (b,o) (List.mem_append_right _ (List.mem_append_right _ (jJ hb e)))).1,fun b hb=>?_,w10⟩
    obtain ⟨o,e,d⟩:=T.obj _ _ st7 b hb
    exact (I10.pin (b,o) (List.mem_append_right _ (List.mem_append_right _ (jJ hb e)))).2.1
   cases ok with
   | false=>exact again I9 q9
   | true=>
     rw [if_pos rfl]
     refine thn (hb'.2.2 _ s9 σ8 H9 _ I9 q9) fun y s10 ⟨v',H10,I10,r10,hD10,hl10,n10⟩=>?_
     refine thn (gb (X:=Y) _ s10 σ8 H10 (.ref s2.heap.objs.size) [v'] (.ref s2.heap.objs.size) [y] (fun _ H'=>H'=upd H10 s2.heap.objs.size (.lst (ys++[v']))) I10 rfl (.cons r10 .nil) ⟨_,ys,v',rfl,rfl,hD10,hl10,rfl⟩) fun _ s11 ⟨_,H11,I11,_,e11⟩=>?_
     subst e11
     exact again I11 n10
 exact codeAny_compStart_list loop (T.self X.A 0 _ _ _ tn4 loop)
theorem b2 {osc:Scope} {ON N:List Str} {n:Nat} {fx:List Nat} {sc:Scope} {elt tg iter:Expr} {ifs:List Expr} {pos:Pos} {wi:TI} {g:TG} {tc:TT} {te:TE}
  (hcalm:X.calm=true) (ho:X.env.scope=osc) (hN:X.N=ON) (S:Ct osc ON N n fx sc=true) (hi:PI X tg iter wi) (gk:FD n g)
  (hb:∀ cl C fp s H,PG (iS X N sc cl C fp s H) tg g∧PTs (iS X N sc cl C fp s H) ifs tc∧PE (iS X N sc cl C fp s H) elt te)
  (hs:∀ x,foldedSetIterable iter X.env x=pure x:=by intro _;rfl):PE X (.ListComp elt [⟨tg,iter,ifs,0⟩] sc pos) (Jq n fx wi g tc te):=by
 intro pins s σ H Q I h
 have S:=ie.of S
 obtain ⟨cl,hcl,hcl1,hcl2⟩:=vC sc X.env fun y hy hf=>I.ok.has y.1 (by show X.env.scope.names.lookup y.1=some .cell∨X.env.scope.names.lookup y.1=some .free;rw [ho];exact S.fre y hy hf)
 rw [eval_ListComp]
 refine wpAny_comprehension_free (use:=none) rfl hs hcl S.kind S.own (zv (RR:=fun acc C=>compPost (model X.prog X.w) X.A X.xe none (EP X pins σ Q) acc C) hcalm ho hN S hcl1 hcl2 hi gk hb I h ?_)
 intro D C H' s' I' hm hf q
 obtain ⟨m,hm⟩:=hm
 obtain ⟨f0,f1,f2,f3,f4,f5⟩:=hf
 exact ⟨m,hm,fun h' hsb=>⟨.ref D,H',I'.turned (t':=s'.toks) (fun b o hb e=>(hsb.2 b hb).trans e) f0 f1 f3 f4 f5,rfl,q⟩⟩
theorem ij {i:Nat} {x:Str} {px:Pos} {spos:Pos} {osc:Scope} {ON N:List Str} {n:Nat} {fx:List Nat} {sc:Scope} {elt tg iter:Expr} {ifs:List Expr} {pos:Pos} {wi:TI} {g:TG} {tc:TT} {te:TE}
  (hnd:X.N.Nodup) (hx:X.N[i]? =some x) (hl:X.env.scope.names.lookup x=some .local) (hsw:swapsWith (.ListComp elt [⟨tg,iter,ifs,0⟩] sc pos) (some (.Name x px)) spos.line X.env=pure true)
  (hcalm:X.calm=true) (ho:X.env.scope=osc) (hN:X.N=ON) (S:Ct osc ON N n fx sc=true) (hi:PI X tg iter wi) (gk:FD n g)
  (hb:∀ cl C fp s H,PG (iS X N sc cl C fp s H) tg g∧PTs (iS X N sc cl C fp s H) ifs tc∧PE (iS X N sc cl C fp s H) elt te)
  (hs:∀ x,foldedSetIterable iter X.env x=pure x:=by intro _;rfl):PS X (.Assign [.Name x px] (.ListComp elt [⟨tg,iter,ifs,0⟩] sc pos) spos) (tAsg (Jq n fx wi g tc te) (HK i)):=by
 intro pins s σ H D I h
 have S:=ie.of S
 obtain ⟨cl,hcl,hcl1,hcl2⟩:=vC sc X.env fun y hy hf=>I.ok.has y.1 (by show X.env.scope.names.lookup y.1=some .cell∨X.env.scope.names.lookup y.1=some .free;rw [ho];exact S.fre y hy hf)
 rw [exec_Assign_Name_used _ _ _ _ hsw]
 refine wpAny_bind (wpAny_standAt (wpAny_bind ?_))
 show wpAny _ X.A (do let _ ← comprehension (.ListComp elt [⟨tg,iter,ifs,0⟩] sc pos) sc X.env _ (newList []) false (eval iter X.env) (some (assign (.Name x px) X.env))) _ _ s
 refine wpAny_bind (thn (wpAny_comprehension_free (use:=some (assign (.Name x px) X.env)) (Q:=fun _ s'=>SP X pins D .next s') rfl hs hcl S.kind S.own
  (zv (RR:=fun acc C=>compPost (model X.prog X.w) X.A X.xe (some (assign (.Name x px) X.env)) (fun _ s'=>SP X pins D .next s') acc C) hcalm ho hN S hcl1 hcl2 hi gk hb I h ?_)) fun _ s' q=>wpAny_pure (wpAny_pure q))
 intro D' C H' s' I' hm hf q
 obtain ⟨m,hm⟩:=hm
 obtain ⟨f0,f1,f2,f3,f4,f5⟩:=hf
 show wpAny _ X.A (assign (.Name x px) X.env (.ref D')) _ _ _
 refine wpAny_assign_Name (x9 I' hnd hx (.inl hl) (v:= .ref D') rfl (fun s2 I2 hch=>?_) (.inr hl))
 obtain ⟨a,hsb,ha⟩:=hch
 have hCa:C≠a:=by
  rcases ha with z | z
  ·rw [z];exact f1
  ·exact fun e=>f4 _ _ z e.symm
 exact ⟨m,hm.sameBut hsb hCa,fun h' hsb'=>⟨_,H',I2.turned (t':=s2.toks) (fun b o hb e=>(hsb'.2 b hb).trans e) f0 f1 f3 f4 f5,q⟩⟩
end
section
variable {K:PySem.W.Frag} {n:Nat} {fx:List Nat} {g:TG} {tc:TT} {te:TE} {σ:St} {H1:Hp} {D:Addr} {Q:Hp→Prop}
theorem h8 {lo:Int} {k:Nat} (Pv:Nat→List V→Hp→Prop) (h0:Pv 0 [] (upd H1 D (.lst [])))
  (hs:∀ i ys H,i < k→Pv i ys H→g (.int (lo + i)) (di n fx σ) H fun σ4 H4=>tc σ4 H4 fun b H5=>if b=true then te σ4 H5 fun v H6=>H6 D=some (.lst ys)∧ys.length < sizeLine∧Pv (i + 1) (ys++[v]) (upd H6 D (.lst (ys++[v]))) else Pv (i + 1) ys H5)
  (hd:∀ ys H,Pv k ys H→Q H):
  ∃ W:Nat→Nat→List V→Hp→Prop,(∃ m,W 0 m [] (upd H1 D (.lst [])))∧∀ i m ys H2,W i m ys H2→((Itr lo k).stop i H2∧Q H2)∨
    ((Itr lo k).go i H2∧∃ N:List V→Hp→Prop,(∀ ys' H',N ys' H'→∃ m',m' < m∧W (i + 1) m' ys' H')∧∀ x H3,(Itr lo k).yld i H2 x H3→g x (di n fx σ) H3 fun σ4 H4=>tc σ4 H4 fun b H5=>
      if b=true then te σ4 H5 fun v H6=>H6 D=some (.lst ys)∧ys.length < sizeLine∧N (ys++[v]) (upd H6 D (.lst (ys++[v]))) else N ys H5):=by
 refine ⟨fun i m ys H=>m=k - i∧i≤k∧Pv i ys H,⟨k,by simp,Nat.zero_le _,h0⟩,?_⟩
 rintro i m ys H ⟨rfl,hi,p⟩
 by_cases hlt:i < k
 ·refine .inr ⟨hlt,Pv (i + 1),fun ys' H' p'=>⟨k - (i + 1),by omega,rfl,hlt,p'⟩,fun x H' y=>?_⟩
  obtain ⟨e,y⟩:=y
  subst e;subst y
  exact hs i ys _ hlt p
 ·have e:i=k:=by omega
  subst e
  exact .inl ⟨Nat.le_refl _,hd ys H p⟩
theorem bL {a:Addr} {xs:List V} (Pv:Nat→List V→Hp→Prop) (h0:Pv 0 [] (upd H1 D (.lst []))) (hl:∀ i ys H,i≤xs.length→Pv i ys H→SqL K H a xs)
  (hs:∀ i x ys H,xs[i]? =some x→Pv i ys H→g x (di n fx σ) H fun σ4 H4=>tc σ4 H4 fun b H5=>if b=true then te σ4 H5 fun v H6=>H6 D=some (.lst ys)∧ys.length < sizeLine∧Pv (i + 1) (ys++[v]) (upd H6 D (.lst (ys++[v]))) else Pv (i + 1) ys H5)
  (hd:∀ ys H,Pv xs.length ys H→Q H):
  ∃ W:Nat→Nat→List V→Hp→Prop,(∃ m,W 0 m [] (upd H1 D (.lst [])))∧∀ i m ys H2,W i m ys H2→((Itl K a).stop i H2∧Q H2)∨
    ((Itl K a).go i H2∧∃ N:List V→Hp→Prop,(∀ ys' H',N ys' H'→∃ m',m' < m∧W (i + 1) m' ys' H')∧∀ x H3,(Itl K a).yld i H2 x H3→g x (di n fx σ) H3 fun σ4 H4=>tc σ4 H4 fun b H5=>
      if b=true then te σ4 H5 fun v H6=>H6 D=some (.lst ys)∧ys.length < sizeLine∧N (ys++[v]) (upd H6 D (.lst (ys++[v]))) else N ys H5):=by
 refine ⟨fun i m ys H=>m=xs.length - i∧i≤xs.length∧Pv i ys H,⟨xs.length,by simp,Nat.zero_le _,h0⟩,?_⟩
 rintro i m ys H ⟨rfl,hi,p⟩
 have q:=hl i ys H hi p
 by_cases hlt:i < xs.length
 ·refine .inr ⟨⟨xs,xs[i],q,by simp [hlt]⟩,Pv (i + 1),fun ys' H' p'=>⟨xs.length - (i + 1),by omega,rfl,hlt,p'⟩,fun x H' y=>?_⟩
  obtain ⟨e,y⟩:=y
  subst e
  exact hs i x ys _ (y xs q) p
 ·have e:i=xs.length:=by omega
  subst e
  exact .inl ⟨⟨xs,q,Nat.le_refl _⟩,hd ys H p⟩
theorem pS {a:Addr} {xs:List V} (Pv:Nat→List V→Hp→Prop) (h0:Pv 0 [] (upd H1 D (.lst []))) (hl:∀ i ys H,i≤xs.length→Pv i ys H→SqT K H a xs)
  (hs:∀ i x ys H,xs[i]? =some x→Pv i ys H→g x (di n fx σ) H fun σ4 H4=>tc σ4 H4 fun b H5=>if b=true then te σ4 H5 fun v H6=>H6 D=some (.lst ys)∧ys.length < sizeLine∧Pv (i + 1) (ys++[v]) (upd H6 D (.lst (ys++[v]))) else Pv (i + 1) ys H5)
  (hd:∀ ys H,Pv xs.length ys H→Q H):
  ∃ W:Nat→Nat→List V→Hp→Prop,(∃ m,W 0 m [] (upd H1 D (.lst [])))∧∀ i m ys H2,W i m ys H2→((Itt K a).stop i H2∧Q H2)∨
    ((Itt K a).go i H2∧∃ N:List V→Hp→Prop,(∀ ys' H',N ys' H'→∃ m',m' < m∧W (i + 1) m' ys' H')∧∀ x H3,(Itt K a).yld i H2 x H3→g x (di n fx σ) H3 fun σ4 H4=>tc σ4 H4 fun b H5=>
      if b=true then te σ4 H5 fun v H6=>H6 D=some (.lst ys)∧ys.length < sizeLine∧N (ys++[v]) (upd H6 D (.lst (ys++[v]))) else N ys H5):=by
 refine ⟨fun i m ys H=>m=xs.length - i∧i≤xs.length∧Pv i ys H,⟨xs.length,by simp,Nat.zero_le _,h0⟩,?_⟩
 rintro i m ys H ⟨rfl,hi,p⟩
 have q:=hl i ys H hi p
 by_cases hlt:i < xs.length
 ·refine .inr ⟨⟨xs,xs[i],q,by simp [hlt]⟩,Pv (i + 1),fun ys' H' p'=>⟨xs.length - (i + 1),by omega,rfl,hlt,p'⟩,fun x H' y=>?_⟩
  obtain ⟨e,y⟩:=y
  subst e
  exact hs i x ys _ (y xs q) p
 ·have e:i=xs.length:=by omega
  subst e
  exact .inl ⟨⟨xs,q,Nat.le_refl _⟩,hd ys H p⟩
end
noncomputable def uy (K:PySem.W.Frag) (H:Hp) (x:V) (k:String):Prop:=match x with
 | .non=>k="NoneType"
 | .bl _=>k="bool"
 | .int _=>k="int"
 | .str _=>k="str"
 | .ref p=>(k="list"∧∃ xs,SqL K H p xs)∨(k="tuple"∧∃ xs,SqT K H p xs)∨(k="dict"∧∃ kvs,Rd H p (.dK kvs))
 | _=>False
noncomputable def subB (k T:String):Bool:=k == T||(k == "bool"&&T == "int")
noncomputable def rIsi (K:PySem.W.Frag):List V→Hp→VK→Prop:=fun xs H Q=>∃ x k T,xs=[x,.ty T]∧uy K H x k∧T∈["int","bool","str","list","tuple","dict"]∧Q (.bl (subB k T)) H
section
variable {X:Cx}
theorem KF:jH X (.builtin "isinstance") (rIsi X.K):=by
 intro pins s σ H xs us Q I r h
 obtain ⟨x,k,T,rfl,hk,hT,q⟩:=h
 obtain ⟨u,v,rfl,rx,rt⟩:=Jn r
 cases rt
 have f0:∀ b,b=subB k T→EP X pins σ Q (.bool b) s:=fun b e=>⟨.bl b,H,I,rfl,by rw [e];exact q⟩
 have f1:∀ b,b=subB k T→EP X pins σ Q (.bool b) {s with toks:=s.toks + 1}:=fun b e=>⟨.bl b,H,I.tok _,rfl,by rw [e];exact q⟩
 simp only [List.mem_cons,List.not_mem_nil,or_false] at hT
 cases x with
 | non=>
   cases rx;cases hk
   rcases hT with rfl | rfl | rfl | rfl | rfl | rfl
   ·exact IsiPair.NoneType_int (f1 _ (by decide))
   ·exact IsiPair.NoneType_bool (f1 _ (by decide))
   ·exact IsiPair.NoneType_str (f1 _ (by decide))
   ·exact IsiPair.NoneType_list (f1 _ (by decide))
   ·exact IsiPair.NoneType_tuple (f1 _ (by decide))
   ·exact IsiPair.NoneType_dict (f1 _ (by decide))
 | bl b=>
   cases rx;cases hk
   rcases hT with rfl | rfl | rfl | rfl | rfl | rfl
   ·exact IsiPair.bool_int (f0 _ (by decide))
   ·exact IsiPair.bool_bool (f0 _ (by decide))
   ·exact IsiPair.bool_str (f1 _ (by decide))
   ·exact IsiPair.bool_list (f1 _ (by decide))
   ·exact IsiPair.bool_tuple (f1 _ (by decide))
   ·exact IsiPair.bool_dict (f1 _ (by decide))
 | int i=>
   obtain ⟨t,rfl⟩:=rx;cases hk
   rcases hT with rfl | rfl | rfl | rfl | rfl | rfl
   ·exact IsiPair.int_int (f0 _ (by decide))
   ·exact IsiPair.int_bool (f1 _ (by decide))
   ·exact IsiPair.int_str (f1 _ (by decide))
   ·exact IsiPair.int_list (f1 _ (by decide))
   ·exact IsiPair.int_tuple (f1 _ (by decide))
   ·exact IsiPair.int_dict (f1 _ (by decide))
 | str z=>
   obtain ⟨t,rfl⟩:=rx;cases hk
   rcases hT with rfl | rfl | rfl | rfl | rfl | rfl
   ·exact IsiPair.str_int (f1 _ (by decide))
   ·exact IsiPair.str_bool (f1 _ (by decide))
   ·exact IsiPair.str_str (f0 _ (by decide))
   ·exact IsiPair.str_list (f1 _ (by decide))
   ·exact IsiPair.str_tuple (f1 _ (by decide))
   ·exact IsiPair.str_dict (f1 _ (by decide))
 | ref p=>
   cases rx
   rcases hk with ⟨rfl,xs,hq⟩ | ⟨rfl,xs,hq⟩ | ⟨rfl,kvs,hq⟩
   ·obtain ⟨its,_,pl,_⟩:=I.list hq
    obtain ⟨o,ho,hc,_⟩:=pl.isList
    rcases hT with rfl | rfl | rfl | rfl | rfl | rfl
    ·exact IsiPair.list_int ho hc (f1 _ (by decide))
    ·exact IsiPair.list_bool ho hc (f1 _ (by decide))
    ·exact IsiPair.list_str ho hc (f1 _ (by decide))
    ·exact IsiPair.list_list ho hc (f0 _ (by decide))
    ·exact IsiPair.list_tuple ho hc (f1 _ (by decide))
    ·exact IsiPair.list_dict ho hc (f1 _ (by decide))
   ·obtain ⟨its,_,pl,_⟩:=I.tuple hq
    obtain ⟨o,ho,hc,_⟩:=pl
    rcases hT with rfl | rfl | rfl | rfl | rfl | rfl
    ·exact IsiPair.tuple_int ho hc (f1 _ (by decide))
    ·exact IsiPair.tuple_bool ho hc (f1 _ (by decide))
    ·exact IsiPair.tuple_str ho hc (f1 _ (by decide))
    ·exact IsiPair.tuple_list ho hc (f1 _ (by decide))
    ·exact IsiPair.tuple_tuple ho hc (f0 _ (by decide))
    ·exact IsiPair.tuple_dict ho hc (f1 _ (by decide))
   ·obtain ⟨_,_,_,_,o,_,_,ho,ex,_⟩:=hq.ok I.hok
    have hc:o.cls= .type "dict":=ex.1
    rcases hT with rfl | rfl | rfl | rfl | rfl | rfl
    ·exact IsiPair.dict_int ho hc (f1 _ (by decide))
    ·exact IsiPair.dict_bool ho hc (f1 _ (by decide))
    ·exact IsiPair.dict_str ho hc (f1 _ (by decide))
    ·exact IsiPair.dict_list ho hc (f1 _ (by decide))
    ·exact IsiPair.dict_tuple ho hc (f1 _ (by decide))
    ·exact IsiPair.dict_dict ho hc (f0 _ (by decide))
 | _=>exact False.elim hk
theorem vJ {xs:List V} {us:List Value} (r:Vals xs us) {j:Nat} (h:j < us.toArray.size):RelV (xs.getD j .non) (us.toArray[j]):=by
 have hl:=r.length
 have h':j < us.length:=by simpa using h
 obtain ⟨u,e,ru⟩:=r.get (i:=j) (x:=xs.getD j .non) (by rw [List.getD_eq_getElem?_getD,List.getElem?_eq_getElem (by omega)];rfl)
 have e2:us.toArray[j]=u:=by
  rw [List.getElem?_eq_getElem h'] at e
  have:=Option.some.inj e
  simpa using this
 rw [e2];exact ru
end
theorem G0:typeLookup (.type "list_reverseiterator") "__len__"=pure none:=by rw [typeLookup_type,builtinLookup_eq_fast];kernel_rfl
theorem Kl:typeLookup (.type "list_reverseiterator") "__length_hint__"=pure (some (.builtin "list_reverseiterator.__length_hint__")):=by rw [typeLookup_type,builtinLookup_eq_fast];kernel_rfl
section
variable {P0:Program} {w0:World} {A0:Around} {E0':Value→Shared→Prop} {t0:Shared}
theorem EW {R:Result→Shared→Prop} {it l:Addr} {items:Array Value} (hh:A0.handled=none) (hne:l≠it) (hit:t0.heap.IsRevIter it l ((items.size:Int) - 1)) (hl:t0.heap.IsList l items) (hz:items.size≤sizeLine)
  (S:Addr) (res:Value) (c₀:Nat) (hS:t0.heap.get? S=some {cls:= .type "list",data:= .seq #[] c₀}) (hSi:S≠it) (hSl:S≠l)
  (hR:∀ h' tk acc' c',(∀ b o,b≠S→b≠it→t0.heap.get? b=some o→h'.get? b=some o)→h'.get? S=some {cls:= .type "list",dict:=none,data:= .seq acc' c',slots:=#[]}→
   ItemsOf (fun i v=>items[items.size - 1 - i]? =some v) acc' items.size→R (.ok (.ret res)) {t0 with heap:=h',toks:=tk}):
  wpAny (model P0 w0) A0.in1 (Builtin.List.listExtendWith (.ref S) (.ref it) res)
   (fun fin s'=>match fin with | .done f=>R (.ok f) s' | .again c'=>c'.quiet=true∧codeAny (model P0 w0) A0 c' R s') (fun e s'=>R (.error e) s') t0:=by
 have W:=(Walks.listRev (prog:=P0) (w:=w0) (A:=A0.in1) hh it l hne items).toS
 have st0:(0:Nat)≤items.size∧t0.heap.IsRevIter it l ((items.size:Int) - 1 - ((0:Nat):Int))∧t0.heap.IsList l items:=⟨Nat.zero_le _,by simpa using hit,hl⟩
 have h1:Builtin.List.listSameRef (.ref S) (.ref it)=false:=by simp [Builtin.List.listSameRef,hSi]
 have hSf:S∉[it,l]:=by simp [hSi,hSl]
 unfold Builtin.List.listExtendWith
 refine wpAny_bind (wpAny_typeOf hit.typeIs ?_)
 rw [if_neg (by rw [h1];decide)]
 refine wpAny_bind (wpAny_pyIter_revIter hit ?_)
 refine wpAny_bind (wpAny_holding ?_)
 unfold Builtin.List.listLengthHint
 refine wpAny_bind (wpAny_specialOf hit.typeIs G0 ?_)
 show wpAny _ A0.in1 (specialOf (Value.ref it) (Str.ofString "__length_hint__") >>=_) _ _ _
 refine wpAny_bind (wpAny_specialOf hit.typeIs Kl ?_)
 (generalize hid:("list_reverseiterator.__length_hint__":String)=id0;wp_delta;rw [show splitId id0=some ("list_reverseiterator","__length_hint__") from by subst hid;decide +kernel];subst hid)
 refine wpAny_bind (wpAny_isInstance (b:=true) hit.typeIs (by rw [isSubtype_type];kernel_rfl) ?_)
 refine wpAny_pure ?_
 rw [if_neg (by decide)]
 refine wpAny_pure ⟨plainId_quiet F.plain_extend_loop _,codeAny_extend_loopS W hz S hSf res items.size 0 t0 #[] c₀ rfl (Nat.zero_le _) st0 hS (ItemsOf.nil _) fun s' acc' c' hm hS' hacc=>?_⟩
 rw [Moved.eq_with hm]
 refine hR s'.heap s'.toks acc' c' (fun b o hb hb2 e=>hm.heap b o (fun hmem=>?_) e) hS' hacc
 rcases List.mem_cons.mp hmem with z | z
 ·exact hb z
 ·exact hb2 (List.mem_singleton.mp z)
theorem Kk {R:Result→Shared→Prop} {it l:Addr} {items:Array Value} (hh:A0.handled=none) (hne:l≠it) (hit:t0.heap.IsRevIter it l ((items.size:Int) - 1)) (hl:t0.heap.IsList l items) (hz:items.size≤sizeLine)
  (S:Addr) (hS:t0.heap.get? S=some {cls:= .type "list",data:= .seq #[]}) (hSi:S≠it) (hSl:S≠l)
  (hR:∀ h' tk acc' c',(∀ b o,b≠S→b≠it→t0.heap.get? b=some o→h'.get? b=some o)→h'.get? S=some {cls:= .type "list",dict:=none,data:= .seq acc' c',slots:=#[]}→
   ItemsOf (fun i v=>items[items.size - 1 - i]? =some v) acc' items.size→R (.ok (.ret .none)) {t0 with heap:=h',toks:=tk}):
  wpAny (model P0 w0) A0.in1 (Builtin.«list.__init__» ⟨[.ref S,.ref it],[]⟩)
   (fun fin s'=>match fin with | .done f=>R (.ok f) s' | .again c'=>c'.quiet=true∧codeAny (model P0 w0) A0 c' R s') (fun e s'=>R (.error e) s') t0:=by
 show wpAny _ _ (do let old ← Builtin.List.listItems (.ref S);Builtin.List.listUpdate (.ref S) (fun _=>#[]);letGo old.toList.reverse;Builtin.List.listExtendWith (.ref S) (.ref it) .none) _ _ t0
 refine wpAny_bind ?_
 unfold Builtin.List.listItems
 refine wpAny_bind (wpAny_seqItems hS rfl (wpAny_pure ?_))
 show wpAny _ _ (updateSeq S (fun _=>#[]) >>=fun _=>letGo (#[]:Array Value).toList.reverse >>=fun _=>Builtin.List.listExtendWith (.ref S) (.ref it) .none) _ _ t0
 refine wpAny_bind (wpAny_updateSeq hS rfl ?_)
 have hS2:=Heap.get?_update_self (Obj.mapSeq (fun _=>(#[]:Array Value))) hS rfl
 have oth:∀ b o,b≠S→t0.heap.get? b=some o→(t0.heap.update S (Obj.mapSeq (fun _=>(#[]:Array Value)))).get? b=some o:=fun b o hb e=>(Heap.get?_update_other _ _ (Ne.symm hb)).trans e
 refine wpAny_bind (wpAny_letGo ?_)
 refine EW hh hne (hit.at fun o e=>oth it o (Ne.symm hSi) e) (let ⟨o,e,c⟩:=hl;⟨o,oth l o (Ne.symm hSl) e,c⟩) hz S .none _ hS2 hSi hSl fun h' tk acc' c' hk hS' hacc=>?_
 exact hR h' tk acc' c' (fun b o hb hb2 e=>hk b o hb hb2 (oth b o hb e)) hS' hacc
theorem xy {Q:Value→Shared→Prop} {it l:Addr} {items:Array Value} (hh:A0.handled=none) (hne:l≠it) (hit:t0.heap.IsRevIter it l ((items.size:Int) - 1)) (hl:t0.heap.IsList l items) (hz:items.size≤sizeLine)
  (hQ:∀ h' tk acc' c',(∀ b o,b≠it→t0.heap.get? b=some o→h'.get? b=some o)→h'.get? t0.heap.objs.size=some {cls:= .type "list",dict:=none,data:= .seq acc' c',slots:=#[]}→
   ItemsOf (fun i v=>items[items.size - 1 - i]? =some v) acc' items.size→Q (.ref t0.heap.objs.size) {t0 with heap:=h',toks:=tk}):
  wpAny (model P0 w0) A0 (call (.type "list") [.ref it]) Q E0' t0:=by
 have lt1:it < t0.heap.objs.size:=let ⟨o,e,_⟩:=hit;Heap.lt_size e
 have lt2:l < t0.heap.objs.size:=let ⟨o,e,_⟩:=hl;Heap.lt_size e
 refine callType_codes (Q₁:=fun obj s₁=>obj= .ref t0.heap.objs.size∧s₁={t0 with heap:=t0.heap.push {cls:= .type "list",data:= .seq #[]}}) F.called_list (F.typeCall_list_1 _) F.entry_list_init (code_list_new _ ⟨rfl,rfl⟩) fun obj s₁ h₁=>?_
 obtain ⟨rfl,rfl⟩:=h₁
 have hS:(t0.heap.push {cls:= .type "list",data:= .seq #[]}).get? t0.heap.objs.size=some {cls:= .type "list",data:= .seq #[]}:=Heap.get?_push_size _ rfl
 refine ⟨⟨_,hS,rfl⟩,F.args_list_init_2 _ _,Kk (A0:=A0.in1) hh hne (hit.at fun o e=>Heap.get?_push_of_some _ e) (let ⟨o,e,c⟩:=hl;⟨o,Heap.get?_push_of_some _ e,c⟩) hz _ hS (Ne.symm (Nat.ne_of_lt lt1)) (Ne.symm (Nat.ne_of_lt lt2)) fun h' tk acc' c' hk hS' hacc=>?_⟩
 exact ⟨rfl,hQ h' tk acc' c' (fun b o hb e=>hk b o (Nat.ne_of_lt (Heap.lt_size e)) hb (Heap.get?_push_of_some _ e)) hS' hacc⟩
end
theorem Inv.laidT {X:Cx} {pins:List (Addr×Obj)} {σ:St} {H:Hp} {s:Shared} {h':Heap} {a it:Addr} {o:HO} {t':Nat} (I:Inv X pins σ H s) (k:∀ b u,b≠it→s.heap.get? b=some u→h'.get? b=some u) (hp:s.heap.objs.size≤a)
  (new:dB X.prog X.w (upd H a o) h' a o) (fp:FpOk X pins H it):Inv X pins σ (upd H a o) {s with heap:=h',toks:=t'}:=by
 obtain ⟨f0,f1,f2,f3,f4,f5⟩:=fp
 have fr:H a=none:=I.hok.fresh hp
 have nit:∀ b u,H b=some u→b≠it:=fun b u e z=>by rw [z,f0] at e;cases e
 have nci:∀ {b:Addr},b∉[it]→b≠it:=fun hb z=>hb (by rw [z];exact List.mem_singleton.mpr rfl)
 refine I.step (g':=s.gens) (d':=s.drawn) (ch:=[it]) (fun b hb=>?_) (fun b ob _ _ hc e _=>k b ob (nci hc) e) (fun b ob _ _ hc e _=>⟨ob.slots,k b ob (nci hc) e⟩) (fun b ob _ e n=>?_) (fun b ob hc e=>⟨ob,k b ob (nci hc) e⟩)
  (fun b xs e=>by rw [ar (ah e fr)];exact e) (fun b ob u e=>by rw [ar (ah e fr)];exact e) (fun b ps e=>⟨#[],by rw [ar (ah e fr),e];simp⟩) (fun m hm=>?_) (fun b u e=>?_) I.bare
 ·have e:b=it:=List.mem_singleton.mp hb
  subst e
  exact ⟨f3,f1,f4,f5⟩
 ·rw [ar (Nat.ne_of_lt (Nat.lt_of_lt_of_le (Heap.lt_size e) hp))];exact n
 ·obtain ⟨ob,es,ep,ho,r⟩:=hm
  exact ⟨ob,es,ep,k _ ob (Ne.symm f1) ho,r⟩
 ·by_cases hb:b=a
  ·subst hb;rw [av] at e;cases e;exact new
  ·rw [ar hb] at e
   refine (I.hok b u e).stay (fun c v hc q=>k c v ?_ q) (fun c q=>by rw [ar (ah q fr)];exact q) fun c xs q=>by rw [ar (ah q fr)];exact q
   rcases hc with z | z
   ·rw [z];exact nit b u e
   ·exact nit c _ z
theorem Hv {its:List Value} {acc:Array Value} (h:ItemsOf (fun i v=>its.toArray[its.toArray.size - 1 - i]? =some v) acc its.toArray.size):acc=its.reverse.toArray:=by
 obtain ⟨h1,h2⟩:=h
 apply Array.ext_getElem?
 intro i
 have hs:its.toArray.size=its.length:=by simp
 by_cases hi:i < acc.size
 ·have e:=h2 i acc[i] (Array.getElem?_eq_getElem hi)
  rw [Array.getElem?_eq_getElem hi,← e]
  rw [List.getElem?_toArray,List.getElem?_toArray,List.getElem?_reverse (by omega),hs]
 ·rw [Array.getElem?_eq_none (by omega),Array.getElem?_eq_none (by simp;omega)]
noncomputable def tRev (K:PySem.W.Frag) (te:TE):TE:=fun σ H Q=>te σ H fun x H1=>∃ a xs,x= .ref a∧SqL K H1 a xs∧∀ l,H1 l=none→Q (.ref l) (upd H1 l (.lst xs.reverse))
section
variable {X:Cx}
theorem DL {e:Expr} {te:TE} {p1 p2 q1 q2:Pos} (g1:Gl X "list") (g2:Gl X "reversed") (n1:X.mg "list"=none) (n2:X.mg "reversed"=none) (hc:X.calm=true) (he:PE X e te)
  (h1:starEach [Expr.Call (.Name "reversed" p1) [e] [] p2] X.env=[(false,eval (.Call (.Name "reversed" p1) [e] [] p2) X.env)]:=by rfl) (h2:starEach [e] X.env=[(false,eval e X.env)]:=by rfl):
  PE X (.Call (.Name "list" q1) [.Call (.Name "reversed" p1) [e] [] p2] [] q2) (tRev X.K te):=by
 intro pins s σ H Q I h
 have inner:∀ Q':Value→Shared→Prop,(∀ v s1,(∃ a xs its H1 r,v= .ref r∧SqL X.K H1 a xs∧Vals xs its∧a≠r∧Inv X pins σ H1 s1∧s1.heap.IsRevIter r a ((its.toArray.size:Int) - 1)∧s1.heap.IsList a its.toArray∧its.length≤sizeLine∧H1 r=none∧FpOk X pins H1 r∧(∀ l,H1 l=none→Q (.ref l) (upd H1 l (.lst xs.reverse))))→Q' v s1)→
   wpAny (model X.prog X.w) X.A (eval (.Call (.Name "reversed" p1) [e] [] p2) X.env) Q' X.xe s:=fun Q' hQ'=>by
  refine Call_ (oq I g2 n2 PyProof.Rows.boot_reversed (PyProof.Rows.callWith_type1 (thn (aa he ad h2 p2 pins s σ H (fun vs H1=>match vs with | [x]=>∃ a xs,x= .ref a∧SqL X.K H1 a xs∧∀ l,H1 l=none→Q (.ref l) (upd H1 l (.lst xs.reverse)) | _=>False) I h) fun us s1 ⟨vs,H1,I1,r1,q1⟩=>?_) h2 rfl))
  match vs,r1,q1 with
  | [x],r1,⟨a,xs,e1,hq,q⟩=>
  obtain ⟨u,rfl,ru⟩:=r1.one
  subst e1
  cases ru
  obtain ⟨its,rv,pl,hz⟩:=I1.list hq
  have lt:a < s1.heap.objs.size:=let ⟨o,e,_⟩:=pl.isList;Heap.lt_size e
  refine call_reversed_list pl.isList (hQ' _ _ ⟨a,xs,its,H1,s1.heap.objs.size,rfl,hq,rv,Nat.ne_of_lt lt,I1.kept (t':=s1.toks) fun b o e=>Heap.get?_push_of_some _ e,⟨_,Heap.get?_push_size _ rfl,rfl,rfl⟩,let ⟨o,e,c⟩:=pl.isList;⟨o,Heap.get?_push_of_some _ e,c⟩,by rw [← rv.length];exact hz,I1.fresh,I1.fpOk (Nat.le_refl _) I1.fresh,q⟩)
 refine Call_ (oq I g1 n1 PyProof.Rows.boot_list (PyProof.Rows.callWith_type1 (Q:=EP X pins σ Q) ?_ h1 rfl))
 rw [h1]
 show wpAny _ _ (spliced ((false,eval (.Call (.Name "reversed" p1) [e] [] p2) X.env)::backTo q2 [])) _ _ s
 refine Calls.spliced_cons (inner _ fun v s1 hv=>Calls.spliced_nil ?_)
 obtain ⟨a,xs,its,H1,r,rfl,hq,rv,hne,I1,hit,hl,hz,hf,fp,q⟩:=hv
 refine xy (I1.ok.hd hc) hne hit hl (by simpa using hz) fun h' tk acc c hk hS hacc=>?_
 have e:=Hv hacc
 subst e
 exact ⟨.ref s1.heap.objs.size,upd H1 s1.heap.objs.size (.lst xs.reverse),I1.laidT hk (Nat.le_refl _) ⟨by rw [List.length_reverse,rv.length];exact hz,its.reverse,c,rv.reverse,hS⟩ fp,rfl,q _ I1.fresh⟩
end
section
variable {X:Cx} {K:PySem.W.Frag}
theorem ck (h:X.K=K):IxR X (rIxL K):=by subst h;exact ME
theorem cf (h:X.K=K):IxR X (rIxT K):=by subst h;exact OQ
theorem vN (h:X.K=K):SlR X (rSlL K):=by subst h;exact LL
theorem eU (h:X.K=K):jH X (.builtin "isinstance") (rIsi K):=by subst h;exact KF
noncomputable def rLen (K:PySem.W.Frag):List V→Hp→VK→Prop:=fun xs H Q=>∃ x n,xs=[x]∧LenV K x H n∧Q (.int n) H
theorem be (h:X.K=K):jH X (.builtin "len") (rLen K):=by subst h;exact KD
noncomputable def Af (K:PySem.W.Frag):List V→Hp→VK→Prop:=fun xs H Q=>∃ p ys,xs=[.ref p]∧(SqL K H p ys∨SqT K H p ys)∧∀ l,H l=none→Q (.ref l) (upd H l (.lst ys))
theorem fL (h:X.K=K):jH X (.type "list") (Af K):=by subst h;exact zw
noncomputable def GF (K:PySem.W.Frag):List V→Hp→VK→Prop:=fun xs H Q=>∃ p ys,xs=[.ref p]∧((SqL K H p ys∧∀ l,H l=none→Q (.ref l) (upd H l (.tup ys)))∨(SqT K H p ys∧Q (.ref p) H))
theorem b0 (h:X.K=K):jH X (.type "tuple") (GF K):=by subst h;exact xx
theorem cj {tg l:Expr} {tl:TE} (h:X.K=K) (hl:PE X l tl):PI X tg l (MG K tl):=by subst h;exact Mg hl
theorem mS {tg l:Expr} {tl:TE} (h:X.K=K) (hl:PE X l tl):PI X tg l (iTup K tl):=by subst h;exact Ol hl
theorem i5 {o e:Expr} {es:List Expr} {to:TE} {t:TA} {name:Str} {apos cpos:Pos} {T id:String} {r:V→List V→Hp→VK→Prop} (h:X.K=K) (pa:PlainAttrs T) (slot:Slot T name id) (hty:typeOf (.builtin id)=pure (.type "method_descriptor")) (hm:MtR X id r) (ho:PE X o to) (ha:PA X (e::es) t)
  (hbase:attributeBase o name X.env (eval o X.env)=eval o X.env:=by rfl)
  (hfew:((backTo cpos (starEach (e::es) X.env)).all (fun x=> !x.1)&&(backToKw cpos (keywordEach [] X.env)).all (fun x=>x.1.isSome)
   &&decide ((e::es).length + ([]:List Keyword).length + (if ([]:List Keyword).isEmpty then 0 else 1) < 30))=true:=by rfl)
  (hline:(apos.endLine == cpos.line)=true:=by rfl) (hs:starEach (e::es) X.env=(false,eval e X.env)::starEach es X.env:=by rfl) (hplain:(backTo cpos (starEach es X.env)).any (·.1)=false:=by rfl):
  PE X (.Call (.Attribute o name apos) (e::es) [] cpos) (tBM K T r to t):=by subst h;exact P9 pa slot hty hm ho ha hbase hfew hline hs hplain
end
section
variable {X:Cx}
noncomputable def rLeS:R2:=fun x y H Q=>∃ i j,x= .str i∧y= .str j∧Q (.bl (!decide (j.cps.toList < i.cps.toList))) H
theorem hX:OpR X (compareOp .LtE) rLeS:=by
 intro pins s σ H x y v u Q I rx ry h
 obtain ⟨i,j,rfl,rfl,q⟩:=h
 obtain ⟨t,rfl⟩:=rx
 obtain ⟨t',rfl⟩:=ry
 exact PySem.P.le_str (bQ I q rfl)
end
noncomputable def Its (x:Str):It:=⟨fun i _=>i < x.cps.size,fun i H v H'=>H'=H∧∃ c,x.cps[i]? =some c∧v= .str ⟨#[c]⟩,fun i _=>i=x.cps.size⟩
theorem BT {P:Program} {w:World} {K:PySem.W.Frag} {tg:Expr} {it:Addr} {x:Str} {t:Tok} {n:String}
  (hn:["enumerate","zip","dict_itemiterator","dict_reverseitemiterator","odict_iterator","itertools.zip_longest","itertools.pairwise"].contains n=false)
  (W:∀ A:Around,A.handled=none→Walks P w A it [it] [it] x.cps.size (SignAt x) (fun i h=>h.IsStrIter it n x t i))
  (hself:∀ (A:Around) (i:Nat) (s:Shared) (Q:Value→Shared→Prop) (E:Value→Shared→Prop),s.heap.IsStrIter it n x t i→Q (.ref it) s→wpAny (model P w) A (pyIter (.ref it)) Q E s):
  Turn P w K tg (Its x) [it] it (fun i h=>h.IsStrIter it n x t i) where
 mem:=by simp
 obj:=fun i h st b hb=>by
  have e:b=it:=by simpa using hb
  subst e
  obtain ⟨o,e,c,d⟩:=st
  exact ⟨o,e,fun v z=>by rw [d] at z;cases z⟩
 keep:=fun i h h' st k=>let ⟨o,e,r⟩:=st;⟨o,k it (by simp) o e,r⟩
 item:=by
  intro X hP hw hK hc i pins s σ H E I hf st hg
  subst hP hw hK
  obtain ⟨f0,f1,f2,f3,f4,f5⟩:=hf it (by simp)
  refine (W X.A (I.ok.hd hc)).item i s _ _ hg st fun v h' tk hv st' kk=>?_
  obtain ⟨c,u,hx,rfl⟩:=hv
  have I1:Inv X pins σ H {s with heap:=h',toks:=tk}:=I.turned (fun b o hb e=>kk b o (by simpa using hb) e) f0 f1 f3 f4 f5
  obtain ⟨o,e,c',d⟩:=id st'
  exact ⟨_,rfl,Ko (s:={s with heap:=h',toks:=tk}) (n:=n) e c' d hn ⟨.str ⟨#[c]⟩,H,I1,⟨u,rfl⟩,⟨rfl,c,hx,rfl⟩,st',fun b hb=>(hf b hb).1⟩⟩
 done:=by
  intro X hP hw hK hc i pins s σ H E I hf st hg
  subst hP hw hK
  obtain ⟨f0,f1,f2,f3,f4,f5⟩:=hf it (by simp)
  have hg:i=x.cps.size:=hg
  subst hg
  exact (W X.A (I.ok.hd hc)).done s _ _ st fun h' tk kk=>⟨rfl,I.turned (fun b o hb e=>kk b o (by simpa using hb) e) f0 f1 f3 f4 f5⟩
 self:=hself
noncomputable def iStr (tl:TE):TI:=fun σ H R=>tl σ H fun x H1=>∃ z,x= .str z∧R (Its z) H1
section
variable {X:Cx} {tg:Expr}
theorem K9 {l:Expr} {tl:TE} (hl:PE X l tl):PI X tg l (iStr tl):=by
 intro pins s σ H R I h
 refine thn (hl pins s σ H _ I h) fun v s1 ⟨x,H1,I1,r1,q1⟩=>?_
 obtain ⟨z,e,q⟩:=q1
 subst e
 obtain ⟨t,rfl⟩:=r1
 have fp:∀ (o:Obj),∀ b∈[s1.heap.objs.size],FpOk X pins H1 b:=fun o b hb=>by
  have e:b=s1.heap.objs.size:=by simpa using hb
  subst e
  exact I1.fpOk (Nat.le_refl _) (I1.hok.fresh (Nat.le_refl _))
 cases ha:z.cps.all (· < 128)
 ·refine wpAny_pyIter_wide ha ⟨s1.heap.objs.size,[s1.heap.objs.size],_,_,H1,rfl,I1.kept (t':=s1.toks) fun b o e=>Heap.get?_push_of_some _ e,
   BT (n:="str_iterator") (t:=t) (by decide) (fun A hA=>Walks.strWide hA _ z t) (fun _ _ _ _ _ st h=>wpAny_pyIter_striter_wide st h),⟨_,Heap.get?_push_size _ rfl,rfl,rfl⟩,fp default,q⟩
 ·refine wpAny_pyIter_ascii ha ⟨s1.heap.objs.size,[s1.heap.objs.size],_,_,H1,rfl,I1.kept (t':=s1.toks) fun b o e=>Heap.get?_push_of_some _ e,
   BT (n:="str_ascii_iterator") (t:=t) (by decide) (fun A hA=>Walks.strAscii hA _ z t) (fun _ _ _ _ _ st h=>wpAny_pyIter_striter_ascii st h),⟨_,Heap.get?_push_size _ rfl,rfl,rfl⟩,fp default,q⟩
end
section
variable {n:Nat} {fx:List Nat} {g:TG} {tc:TT} {te:TE} {σ:St} {H1:Hp} {D:Addr} {Q:Hp→Prop}
theorem Cr {z:Str} (Pv:Nat→List V→Hp→Prop) (h0:Pv 0 [] (upd H1 D (.lst [])))
  (hs:∀ i c ys H,z.cps[i]? =some c→Pv i ys H→g (.str ⟨#[c]⟩) (di n fx σ) H fun σ4 H4=>tc σ4 H4 fun b H5=>if b=true then te σ4 H5 fun v H6=>H6 D=some (.lst ys)∧ys.length < sizeLine∧Pv (i + 1) (ys++[v]) (upd H6 D (.lst (ys++[v]))) else Pv (i + 1) ys H5)
  (hd:∀ ys H,Pv z.cps.size ys H→Q H):
  ∃ W:Nat→Nat→List V→Hp→Prop,(∃ m,W 0 m [] (upd H1 D (.lst [])))∧∀ i m ys H2,W i m ys H2→((Its z).stop i H2∧Q H2)∨
    ((Its z).go i H2∧∃ N:List V→Hp→Prop,(∀ ys' H',N ys' H'→∃ m',m' < m∧W (i + 1) m' ys' H')∧∀ x H3,(Its z).yld i H2 x H3→g x (di n fx σ) H3 fun σ4 H4=>tc σ4 H4 fun b H5=>
      if b=true then te σ4 H5 fun v H6=>H6 D=some (.lst ys)∧ys.length < sizeLine∧N (ys++[v]) (upd H6 D (.lst (ys++[v]))) else N ys H5):=by
 refine ⟨fun i m ys H=>m=z.cps.size - i∧i≤z.cps.size∧Pv i ys H,⟨z.cps.size,by simp,Nat.zero_le _,h0⟩,?_⟩
 rintro i m ys H ⟨rfl,hi,p⟩
 by_cases hlt:i < z.cps.size
 ·refine .inr ⟨hlt,Pv (i + 1),fun ys' H' p'=>⟨z.cps.size - (i + 1),by omega,rfl,hlt,p'⟩,fun x H' y=>?_⟩
  obtain ⟨e,c,hc,y⟩:=y
  subst e;subst y
  exact hs i c ys _ hc p
 ·have e:i=z.cps.size:=by omega
  subst e
  exact .inl ⟨rfl,hd ys H p⟩
end
noncomputable def Oe (K:PySem.W.Frag):List V→Hp→VK→Prop:=fun xs H Q=>∃ (a:Addr) (bs:List Bool),xs=[.ref a]∧SqL K H a (bs.map V.bl)∧Q (.bl (bs.all id)) H
noncomputable def Od (K:PySem.W.Frag):List V→Hp→VK→Prop:=fun xs H Q=>∃ (a:Addr) (bs:List Bool),xs=[.ref a]∧SqL K H a (bs.map V.bl)∧Q (.bl (bs.any id)) H
section
variable {X:Cx} {K:PySem.W.Frag}
theorem Ir {bs:List Bool} {its:List Value} (rv:Vals (bs.map V.bl) its) {i:Nat} {v:Value} (h:its.toArray[i]? =some v):v= .bool (bs.getD i false):=by
 have h':its[i]? =some v:=by simpa using h
 have hi:i < its.length:=(List.getElem?_eq_some_iff.mp h').1
 have hl:=rv.length
 rw [List.length_map] at hl
 obtain ⟨u,e,r⟩:=rv.get (i:=i) (x:= .bl (bs.getD i false)) (by rw [List.getElem?_map,List.getElem?_eq_getElem (by omega),List.getD_eq_getElem?_getD,List.getElem?_eq_getElem (by omega)];rfl)
 rw [h'] at e
 cases e
 exact r
theorem Pf (bs:List Bool):(List.range bs.length).all (fun i=>bs.getD i false)=bs.all id:=by
 rw [Bool.eq_iff_iff,List.all_eq_true,List.all_eq_true]
 constructor
 ·intro h x hx
  obtain ⟨i,hi,e⟩:=List.mem_iff_getElem.mp hx
  have:=h i (List.mem_range.mpr hi)
  rw [List.getD_eq_getElem?_getD,List.getElem?_eq_getElem hi,e] at this
  exact this
 ·intro h i hi
  have hi:=List.mem_range.mp hi
  rw [List.getD_eq_getElem?_getD,List.getElem?_eq_getElem hi]
  exact h _ (List.getElem_mem hi)
theorem Pc (bs:List Bool):(List.range bs.length).any (fun i=>bs.getD i false)=bs.any id:=by
 rw [Bool.eq_iff_iff,List.any_eq_true,List.any_eq_true]
 constructor
 ·rintro ⟨i,hi,h⟩
  have hi:=List.mem_range.mp hi
  rw [List.getD_eq_getElem?_getD,List.getElem?_eq_getElem hi] at h
  exact ⟨_,List.getElem_mem hi,h⟩
 ·rintro ⟨x,hx,h⟩
  obtain ⟨i,hi,e⟩:=List.mem_iff_getElem.mp hx
  refine ⟨i,List.mem_range.mpr hi,?_⟩
  rw [List.getD_eq_getElem?_getD,List.getElem?_eq_getElem hi,e]
  exact h
theorem Il (h:X.K=K) (hc:X.calm=true):jH X (.builtin "all") (Oe K):=by
 subst h
 intro pins s σ H xs us Q I r h
 obtain ⟨a,bs,rfl,hq,q⟩:=h
 obtain ⟨u,rfl,ru⟩:=vK r
 cases ru
 obtain ⟨its,rv,pl,hz⟩:=I.list hq
 have lt:a < s.heap.objs.size:=let ⟨o,e,_⟩:=pl.isList;Heap.lt_size e
 have hl:its.toArray.size=bs.length:=by have:=rv.length;rw [List.length_map] at this;simp [this]
 refine call_all_walk (wpAny_pyIter_list pl.isList ⟨s.heap.objs.size,_,_,its.toArray.size,_,_,fun i=>bs.getD i false,rfl,Walks.list (A:=X.A.in1) (I.ok.hd hc) s.heap.objs.size a (Nat.ne_of_lt lt) its.toArray,⟨⟨_,Heap.get?_push_size _ rfl,rfl,rfl⟩,let ⟨o,e,c⟩:=pl.isList;⟨o,Heap.get?_push_of_some _ e,c⟩⟩,fun i v s Q E hv hQ=>by rw [Ir rv hv];exact wpAny_truthy_bool hQ,fun h' tk kk=>?_⟩)
 rw [hl,Pf]
 exact ⟨.bl _,H,I.kept (fun b o e=>kk b o (fun hm=>by have:=Heap.lt_size e;rw [List.mem_singleton.mp hm] at this;exact absurd this (Nat.lt_irrefl _)) (Heap.get?_push_of_some _ e)),rfl,q⟩
theorem zy (h:X.K=K) (hc:X.calm=true):jH X (.builtin "any") (Od K):=by
 subst h
 intro pins s σ H xs us Q I r h
 obtain ⟨a,bs,rfl,hq,q⟩:=h
 obtain ⟨u,rfl,ru⟩:=vK r
 cases ru
 obtain ⟨its,rv,pl,hz⟩:=I.list hq
 have lt:a < s.heap.objs.size:=let ⟨o,e,_⟩:=pl.isList;Heap.lt_size e
 have hl:its.toArray.size=bs.length:=by have:=rv.length;rw [List.length_map] at this;simp [this]
 refine call_any_walk (wpAny_pyIter_list pl.isList ⟨s.heap.objs.size,_,_,its.toArray.size,_,_,fun i=>bs.getD i false,rfl,Walks.list (A:=X.A.in1) (I.ok.hd hc) s.heap.objs.size a (Nat.ne_of_lt lt) its.toArray,⟨⟨_,Heap.get?_push_size _ rfl,rfl,rfl⟩,let ⟨o,e,c⟩:=pl.isList;⟨o,Heap.get?_push_of_some _ e,c⟩⟩,fun i v s Q E hv hQ=>by rw [Ir rv hv];exact wpAny_truthy_bool hQ,fun h' tk kk=>?_⟩)
 rw [hl,Pc]
 exact ⟨.bl _,H,I.kept (fun b o e=>kk b o (fun hm=>by have:=Heap.lt_size e;rw [List.mem_singleton.mp hm] at this;exact absurd this (Nat.lt_irrefl _)) (Heap.get?_push_of_some _ e)),rfl,q⟩
end
inductive Dt where
 | non | bl (b:Bool) | int (i:Int) | str (x:Str) | lst (xs:List Dt) | tup (xs:List Dt)
inductive Rep (K:PySem.W.Frag) (H:Hp):V→Dt→Prop where
 | non:Rep K H .non .non
 | bl (b:Bool):Rep K H (.bl b) (.bl b)
 | int (i:Int):Rep K H (.int i) (.int i)
 | str (x:Str):Rep K H (.str x) (.str x)
 | lst {p:Addr} {xs:List V} {ds:List Dt} (h:SqL K H p xs) (l:xs.length=ds.length) (r:∀ (i:Nat) x d,xs[i]? =some x→ds[i]? =some d→Rep K H x d):Rep K H (.ref p) (.lst ds)
 | tup {p:Addr} {xs:List V} {ds:List Dt} (h:SqT K H p xs) (l:xs.length=ds.length) (r:∀ (i:Nat) x d,xs[i]? =some x→ds[i]? =some d→Rep K H x d):Rep K H (.ref p) (.tup ds)
mutual
noncomputable def eqD:Dt→Dt→Bool
 | .non,.non=>true
 | .bl a,.bl b=>a == b
 | .bl a,.int b=>(if a then 1 else 0) == b
 | .int a,.bl b=>a == (if b then 1 else 0)
 | .int a,.int b=>a == b
 | .str a,.str b=>a == b
 | .lst xs,.lst ys=>eqDs xs ys
 | .tup xs,.tup ys=>eqDs xs ys
 | _,_=>false
noncomputable def eqDs:List Dt→List Dt→Bool
 | [],[]=>true
 | x::xs,y::ys=>eqD x y&&eqDs xs ys
 | _,_=>false
end
mutual
noncomputable def depD:Dt→Nat
 | .lst xs=>dO xs + 1
 | .tup xs=>dO xs + 1
 | _=>0
noncomputable def dO:List Dt→Nat
 | []=>0
 | x::xs=>max (depD x) (dO xs)
end
theorem HY {ds:List Dt} {d:Dt} (h:d∈ds):depD d≤dO ds:=by
 induction ds with
 | nil=>cases h
 | cons x xs ih=>
   rw [dO]
   rcases List.mem_cons.mp h with rfl | h
   ·omega
   ·have:=ih h;omega
theorem xo:∀ {xs ys:List Dt},xs.length≠ys.length→eqDs xs ys=false
 | [],[],h=>absurd rfl h
 | [],_::_,_=>rfl
 | _::_,[],_=>rfl
 | x::xs,y::ys,h=>by rw [eqDs,xo (fun z=>h (by simp [z])),Bool.and_false]
theorem xp:∀ {xs ys:List Dt},xs.length=ys.length→eqDs xs ys=(List.range xs.length).all fun i=>eqD (xs.getD i .non) (ys.getD i .non)
 | [],[],_=>rfl
 | [],_::_,h=>by cases h
 | _::_,[],h=>by cases h
 | x::xs,y::ys,h=>by
   rw [eqDs,xp (by simpa using h),List.length_cons,List.range_succ_eq_map,List.all_cons,List.all_map]
   rfl
theorem pQ:∀ d:Dt,eqD d d=true:=by
 intro d
 refine Dt.rec (motive_1:=fun d=>eqD d d=true) (motive_2:=fun ds=>eqDs ds ds=true) ?_ ?_ ?_ ?_ ?_ ?_ ?_ ?_ d
 ·rfl
 ·intro b;simp [eqD]
 ·intro b;simp [eqD]
 ·intro b;simp [eqD]
 ·intro xs h;rw [eqD];exact h
 ·intro xs h;rw [eqD];exact h
 ·rfl
 ·intro x xs h1 h2;rw [eqDs,h1,h2];rfl
theorem Lk:∀ {d e:Dt},d=e→eqD d e=true:=fun h=>by subst h;exact pQ _
section
variable {X:Cx} {pins:List (Addr×Obj)} {σ:St} {H:Hp} {s:Shared}
theorem Inv.notBoth (I:Inv X pins σ H s) {p:Addr} {xs ys:List V} (h1:SqL X.K H p xs) (h2:SqT X.K H p ys):False:=by
 obtain ⟨_,_,pl,_⟩:=I.list h1
 obtain ⟨_,_,⟨o,ho,hc,_⟩,_⟩:=I.tuple h2
 obtain ⟨o',n,ho',hc',_⟩:=pl
 rw [ho] at ho';cases ho'
 rw [hc] at hc'
 exact absurd hc' (by decide)
theorem Rep.fun (I:Inv X pins σ H s) {x:V} {d:Dt} (r:Rep X.K H x d):∀ {e:Dt},Rep X.K H x e→d=e:=by
 induction r with
 | non=>intro e q;cases q;rfl
 | bl b=>intro e q;cases q;rfl
 | int i=>intro e q;cases q;rfl
 | str z=>intro e q;cases q;rfl
 | lst h l r ih=>
   intro e q
   cases q with
   | lst h' l' r'=>
     have ex:=I.list_inj h h'
     subst ex
     congr 1
     refine List.ext_getElem? fun i=>?_
     rename_i xs ds ds'
     by_cases hi:i < ds.length
     ·rw [List.getElem?_eq_getElem hi,List.getElem?_eq_getElem (by omega)]
      have hx:i < xs.length:=by omega
      rw [ih i _ _ (List.getElem?_eq_getElem hx) (List.getElem?_eq_getElem hi) (r' i _ _ (List.getElem?_eq_getElem hx) (List.getElem?_eq_getElem (by omega)))]
     ·rw [List.getElem?_eq_none (by omega),List.getElem?_eq_none (by omega)]
   | tup h' l' r'=>exact (I.notBoth h h').elim
 | tup h l r ih=>
   intro e q
   cases q with
   | tup h' l' r'=>
     have ex:=I.tuple_inj h h'
     subst ex
     congr 1
     refine List.ext_getElem? fun i=>?_
     rename_i xs ds ds'
     by_cases hi:i < ds.length
     ·rw [List.getElem?_eq_getElem hi,List.getElem?_eq_getElem (by omega)]
      have hx:i < xs.length:=by omega
      rw [ih i _ _ (List.getElem?_eq_getElem hx) (List.getElem?_eq_getElem hi) (r' i _ _ (List.getElem?_eq_getElem hx) (List.getElem?_eq_getElem (by omega)))]
     ·rw [List.getElem?_eq_none (by omega),List.getElem?_eq_none (by omega)]
   | lst h' l' r'=>exact (I.notBoth h' h).elim
open SeqAt in
theorem rc_D (I:Inv X pins σ H s) {x:V} {d:Dt} (r:Rep X.K H x d):∀ {A:Around} {e:Dt} {y:V} {u v:Value} (n:Nat),Rep X.K H y e→RelV x u→RelV y v→depD d≤n→A.units + n < cLine→
  EqAt A s u v (eqD d e)∧RcAt A s u v (eqD d e)∧RcNeAt A s u v (!eqD d e):=by
 induction r with
 | non=>
   intro A e y u v n q ru rv hd hu
   cases ru
   cases q with
   | non=>cases rv;exact ⟨EqAt.same _,RcAt.none_none,RcNeAt.none_none⟩
   | bl b=>cases rv;exact ⟨EqAt.none_bool b,RcAt.none_bool b,RcNeAt.none_bool b⟩
   | int b=>obtain ⟨t,rfl⟩:=rv;exact ⟨EqAt.none_int b t,RcAt.none_int b t,RcNeAt.none_int b t⟩
   | str b=>obtain ⟨t,rfl⟩:=rv;exact ⟨EqAt.none_str b t,RcAt.none_str b t,RcNeAt.none_str b t⟩
   | lst h l r=>cases rv;obtain ⟨_,_,pl,_⟩:=I.list h;exact ⟨EqAt.none_list pl.isList (by omega),RcAt.none_list pl.isList (by omega),RcNeAt.none_list pl.isList (by omega)⟩
   | tup h l r=>cases rv;obtain ⟨_,_,pl,_⟩:=I.tuple h;exact ⟨EqAt.none_tuple pl (by omega),RcAt.none_tuple pl (by omega),RcNeAt.none_tuple pl (by omega)⟩
 | bl a=>
   intro A e y u v n q ru rv hd hu
   cases ru
   cases q with
   | non=>cases rv;exact ⟨EqAt.bool_none a,RcAt.bool_none a,RcNeAt.bool_none a⟩
   | bl b=>cases rv;exact ⟨EqAt.bool_bool a b,RcAt.bool_bool a b,RcNeAt.bool_bool a b⟩
   | int b=>obtain ⟨t,rfl⟩:=rv;exact ⟨EqAt.bool_int a b t,RcAt.bool_int a b t,RcNeAt.bool_int a b t⟩
   | str b=>obtain ⟨t,rfl⟩:=rv;exact ⟨EqAt.bool_str a b t,RcAt.bool_str a b t,RcNeAt.bool_str a b t⟩
   | lst h l r=>cases rv;obtain ⟨_,_,pl,_⟩:=I.list h;exact ⟨EqAt.bool_list a pl.isList (by omega),RcAt.bool_list a pl.isList (by omega),RcNeAt.bool_list a pl.isList (by omega)⟩
   | tup h l r=>cases rv;obtain ⟨_,_,pl,_⟩:=I.tuple h;exact ⟨EqAt.bool_tuple a pl (by omega),RcAt.bool_tuple a pl (by omega),RcNeAt.bool_tuple a pl (by omega)⟩
 | int a=>
   intro A e y u v n q ru rv hd hu
   obtain ⟨t',rfl⟩:=ru
   cases q with
   | non=>cases rv;exact ⟨EqAt.int_none a t',RcAt.int_none a t',RcNeAt.int_none a t'⟩
   | bl b=>cases rv;exact ⟨EqAt.int_bool a t' b,RcAt.int_bool a t' b,RcNeAt.int_bool a t' b⟩
   | int b=>obtain ⟨t,rfl⟩:=rv;exact ⟨EqAt.int_int a t' b t,RcAt.int_int a t' b t,RcNeAt.int_int a t' b t⟩
   | str b=>obtain ⟨t,rfl⟩:=rv;exact ⟨EqAt.int_str a t' b t,RcAt.int_str a t' b t,RcNeAt.int_str a t' b t⟩
   | lst h l r=>cases rv;obtain ⟨_,_,pl,_⟩:=I.list h;exact ⟨EqAt.int_list a t' pl.isList (by omega),RcAt.int_list a t' pl.isList (by omega),RcNeAt.int_list a t' pl.isList (by omega)⟩
   | tup h l r=>cases rv;obtain ⟨_,_,pl,_⟩:=I.tuple h;exact ⟨EqAt.int_tuple a t' pl (by omega),RcAt.int_tuple a t' pl (by omega),RcNeAt.int_tuple a t' pl (by omega)⟩
 | str a=>
   intro A e y u v n q ru rv hd hu
   obtain ⟨t',rfl⟩:=ru
   cases q with
   | non=>cases rv;exact ⟨EqAt.str_none a t',RcAt.str_none a t',RcNeAt.str_none a t'⟩
   | bl b=>cases rv;exact ⟨EqAt.str_bool a t' b,RcAt.str_bool a t' b,RcNeAt.str_bool a t' b⟩
   | int b=>obtain ⟨t,rfl⟩:=rv;exact ⟨EqAt.str_int a t' b t,RcAt.str_int a t' b t,RcNeAt.str_int a t' b t⟩
   | str b=>obtain ⟨t,rfl⟩:=rv;exact ⟨EqAt.str_str a t' b t,RcAt.str_str a t' b t,RcNeAt.str_str a t' b t⟩
   | lst h l r=>cases rv;obtain ⟨_,_,pl,_⟩:=I.list h;exact ⟨EqAt.str_list a t' pl.isList (by omega),RcAt.str_list a t' pl.isList (by omega),RcNeAt.str_list a t' pl.isList (by omega)⟩
   | tup h l r=>cases rv;obtain ⟨_,_,pl,_⟩:=I.tuple h;exact ⟨EqAt.str_tuple a t' pl (by omega),RcAt.str_tuple a t' pl (by omega),RcNeAt.str_tuple a t' pl (by omega)⟩
 | @lst p xs ds h l r ih=>
   intro A e y u v n q ru rv hd hu
   cases ru
   obtain ⟨its,rw1,pl,_⟩:=I.list h
   rw [depD] at hd
   cases q with
   | non=>cases rv;exact ⟨EqAt.list_none pl.isList (by omega),RcAt.list_none pl.isList (by omega),RcNeAt.list_none pl.isList (by omega)⟩
   | bl b=>cases rv;exact ⟨EqAt.list_bool b pl.isList (by omega),RcAt.list_bool b pl.isList (by omega),RcNeAt.list_bool b pl.isList (by omega)⟩
   | int b=>obtain ⟨t,rfl⟩:=rv;exact ⟨EqAt.list_int b t pl.isList (by omega),RcAt.list_int b t pl.isList (by omega),RcNeAt.list_int b t pl.isList (by omega)⟩
   | str b=>obtain ⟨t,rfl⟩:=rv;exact ⟨EqAt.list_str b t pl.isList (by omega),RcAt.list_str b t pl.isList (by omega),RcNeAt.list_str b t pl.isList (by omega)⟩
   | tup h' l' r'=>
     cases rv;obtain ⟨_,_,pl',_⟩:=I.tuple h'
     exact ⟨EqAt.list_tuple pl.isList pl' (by omega),RcAt.list_tuple pl.isList pl' (by omega),RcNeAt.list_tuple pl.isList pl' (by omega)⟩
   | @lst p' xs' ds' h' l' r'=>
     cases rv
     obtain ⟨its',rw2,pl',_⟩:=I.list h'
     have n1:=rw1.length
     have n2:=rw2.length
     have core:RcAt A s (.ref p) (.ref p') (eqDs ds ds')∧RcNeAt A s (.ref p) (.ref p') (!eqDs ds ds'):=by
      by_cases hl:ds.length=ds'.length
      ·have e:eqDs ds ds'=(List.range its.toArray.size).all fun i=>eqD (ds.getD i .non) (ds'.getD i .non):=by
        rw [xp hl,List.size_toArray,← n1,l]
       rw [e]
       have hz:its.toArray.size=its'.toArray.size:=by simp;omega
       have he:∀ j (h1:j < its.toArray.size) (h2:j < its'.toArray.size),EqAt A.in1 s its.toArray[j] its'.toArray[j] (eqD (ds.getD j .non) (ds'.getD j .non)):=fun j h1 h2=>by
        have h1':j < its.length:=by simpa using h1
        have h2':j < its'.length:=by simpa using h2
        have hx:j < xs.length:=by omega
        have hx':j < xs'.length:=by omega
        have hds:j < ds.length:=by omega
        have hds':j < ds'.length:=by omega
        have g1:xs[j]? =some (xs.getD j .non):=by rw [List.getD_eq_getElem?_getD,List.getElem?_eq_getElem hx];rfl
        have g2:ds[j]? =some (ds.getD j .non):=by rw [List.getD_eq_getElem?_getD,List.getElem?_eq_getElem hds];rfl
        have g3:xs'[j]? =some (xs'.getD j .non):=by rw [List.getD_eq_getElem?_getD,List.getElem?_eq_getElem hx'];rfl
        have g4:ds'[j]? =some (ds'.getD j .non):=by rw [List.getD_eq_getElem?_getD,List.getElem?_eq_getElem hds'];rfl
        have hn:n≠0:=by omega
        exact (ih j _ _ g1 g2 (n - 1) (r' j _ _ g3 g4) (vJ rw1 h1) (vJ rw2 h2) (by have:=HY (List.mem_of_getElem? g2);omega) (by show A.units + 1 + (n - 1) < cLine;omega)).1
       exact ⟨RcAt.lists pl.isList pl'.isList hz (by omega) he,RcNeAt.lists pl.isList pl'.isList hz (by omega) he⟩
      ·rw [xo hl]
       have hz:(its.toArray.size != its'.toArray.size)=true:=by simp;omega
       exact ⟨RcAt.lists_lengths pl.isList pl'.isList hz (by omega),RcNeAt.lists_lengths pl.isList pl'.isList hz (by omega)⟩
     rw [eqD]
     refine ⟨?_,core⟩
     by_cases hp:p=p'
     ·subst hp
      have e:Dt.lst ds=Dt.lst ds':=(Rep.lst h l r).fun I (.lst h' l' r')
      have e2:eqDs ds ds'=true:=by have:=Lk e;rw [eqD] at this;exact this
      rw [e2]
      exact EqAt.same _
     ·exact EqAt.of_refs hp core.1
 | @tup p xs ds h l r ih=>
   intro A e y u v n q ru rv hd hu
   cases ru
   obtain ⟨its,rw1,pl,_⟩:=I.tuple h
   rw [depD] at hd
   cases q with
   | non=>cases rv;exact ⟨EqAt.tuple_none pl (by omega),RcAt.tuple_none pl (by omega),RcNeAt.tuple_none pl (by omega)⟩
   | bl b=>cases rv;exact ⟨EqAt.tuple_bool b pl (by omega),RcAt.tuple_bool b pl (by omega),RcNeAt.tuple_bool b pl (by omega)⟩
   | int b=>obtain ⟨t,rfl⟩:=rv;exact ⟨EqAt.tuple_int b t pl (by omega),RcAt.tuple_int b t pl (by omega),RcNeAt.tuple_int b t pl (by omega)⟩
   | str b=>obtain ⟨t,rfl⟩:=rv;exact ⟨EqAt.tuple_str b t pl (by omega),RcAt.tuple_str b t pl (by omega),RcNeAt.tuple_str b t pl (by omega)⟩
   | lst h' l' r'=>
     cases rv;obtain ⟨_,_,pl',_⟩:=I.list h'
     exact ⟨EqAt.tuple_list pl pl'.isList (by omega),RcAt.tuple_list pl pl'.isList (by omega),RcNeAt.tuple_list pl pl'.isList (by omega)⟩
   | @tup p' xs' ds' h' l' r'=>
     cases rv
     obtain ⟨its',rw2,pl',_⟩:=I.tuple h'
     have n1:=rw1.length
     have n2:=rw2.length
     have core:RcAt A s (.ref p) (.ref p') (eqDs ds ds')∧RcNeAt A s (.ref p) (.ref p') (!eqDs ds ds'):=by
      have e:eqDs ds ds'=((List.range (min its.toArray.size its'.toArray.size)).all (fun i=>eqD (ds.getD i .non) (ds'.getD i .non))&&its.toArray.size == its'.toArray.size):=by
       by_cases hl:ds.length=ds'.length
       ·have z1:its.toArray.size=ds.length:=by simp;omega
        have z2:its'.toArray.size=ds.length:=by simp;omega
        rw [xp hl,z1,z2,Nat.min_self,beq_self_eq_true,Bool.and_true]
       ·have z:(its.toArray.size == its'.toArray.size)=false:=by rw [beq_eq_false_iff_ne];simp;omega
        rw [xo hl,z,Bool.and_false]
      rw [e]
      have he:∀ j (h1:j < its.toArray.size) (h2:j < its'.toArray.size),EqAt A.in1 s its.toArray[j] its'.toArray[j] (eqD (ds.getD j .non) (ds'.getD j .non)):=fun j h1 h2=>by
       have h1':j < its.length:=by simpa using h1
       have h2':j < its'.length:=by simpa using h2
       have hx:j < xs.length:=by omega
       have hx':j < xs'.length:=by omega
       have hds:j < ds.length:=by omega
       have hds':j < ds'.length:=by omega
       have g1:xs[j]? =some (xs.getD j .non):=by rw [List.getD_eq_getElem?_getD,List.getElem?_eq_getElem hx];rfl
       have g2:ds[j]? =some (ds.getD j .non):=by rw [List.getD_eq_getElem?_getD,List.getElem?_eq_getElem hds];rfl
       have g3:xs'[j]? =some (xs'.getD j .non):=by rw [List.getD_eq_getElem?_getD,List.getElem?_eq_getElem hx'];rfl
       have g4:ds'[j]? =some (ds'.getD j .non):=by rw [List.getD_eq_getElem?_getD,List.getElem?_eq_getElem hds'];rfl
       have hn:n≠0:=by omega
       exact (ih j _ _ g1 g2 (n - 1) (r' j _ _ g3 g4) (vJ rw1 h1) (vJ rw2 h2) (by have:=HY (List.mem_of_getElem? g2);omega) (by show A.units + 1 + (n - 1) < cLine;omega)).1
      exact ⟨RcAt.tuples pl pl' (by omega) he,RcNeAt.tuples pl pl' (by omega) he⟩
     rw [eqD]
     refine ⟨?_,core⟩
     by_cases hp:p=p'
     ·subst hp
      have e:Dt.tup ds=Dt.tup ds':=(Rep.tup h l r).fun I (.tup h' l' r')
      have e2:eqDs ds ds'=true:=by have:=Lk e;rw [eqD] at this;exact this
      rw [e2]
      exact EqAt.same _
     ·exact EqAt.of_refs hp core.1
end
noncomputable def rEqD (K:PySem.W.Frag) (neg:Bool):R2:=fun x y H Q=>∃ d e,Rep K H x d∧Rep K H y e∧depD d≤100∧Q (.bl (if neg then !eqD d e else eqD d e)) H
section
variable {X:Cx} {K:PySem.W.Frag}
theorem Mm (h:X.K=K) (hu:X.A.units + 100 < cLine):OpR X (compareOp .Eq) (rEqD K false):=by
 subst h
 intro pins s σ H x y v u Q I rx ry h
 obtain ⟨d,e,r1,r2,hd,q⟩:=h
 exact (rc_D I r1 100 r2 rx ry hd hu).2.1 X.prog X.w X.xe _ ⟨.bl _,H,I,rfl,q⟩
theorem mV (h:X.K=K) (hu:X.A.units + 100 < cLine):OpR X (compareOp .NotEq) (rEqD K true):=by
 subst h
 intro pins s σ H x y v u Q I rx ry h
 obtain ⟨d,e,r1,r2,hd,q⟩:=h
 exact (rc_D I r1 100 r2 rx ry hd hu).2.2 X.prog X.w X.xe _ ⟨.bl _,H,I,rfl,q⟩
end
inductive Fy:St→Nat→Option V→St→Prop where
 | z {a v:Option V} {l:St}:Fy (a::l) 0 v (v::l)
 | s {a v:Option V} {l l':St} {i:Nat}:Fy l i v l'→Fy (a::l) (i + 1) v (a::l')
theorem Fy.eq {l l':St} {i:Nat} {v:Option V} (h:Fy l i v l'):l.set i v=l':=by
 induction h with
 | z=>rfl
 | s _ ih=>rw [List.set_cons_succ,ih]
inductive Fz:St→Nat→V→Prop where
 | z {v:V} {l:St}:Fz (some v::l) 0 v
 | s {a:Option V} {v:V} {l:St} {i:Nat}:Fz l i v→Fz (a::l) (i + 1) v
theorem Fz.eq {l:St} {i:Nat} {v:V} (h:Fz l i v):l[i]? =some (some v):=by
 induction h with
 | z=>rfl
 | s _ ih=>rw [List.getElem?_cons_succ];exact ih
section
variable {σ σ':St} {H:Hp} {Q:VK} {D:Ends} {ta tb tc te:TE} {t u:TS} {tt tt':TT} {r r':R2} {x y v:V}
theorem aP {N:List Str} {vs:List V} {t:TS} (e:start N vs=σ') (h:t D σ' H):t D (start N vs) H:=by rw [e];exact h
theorem PF {i:Nat} (e:Fz σ i v) (h:Q v H):tVar i σ H Q:=⟨v,e.eq,h⟩
theorem s_c (h:Q v H):tC v σ H Q:=h
theorem s_op (h:ta σ H fun x H1=>tb σ H1 fun y H2=>r x y H2 Q):tOp r ta tb σ H Q:=h
theorem s_rI {C:Int→Int→Prop} {g:Int→Int→V} {i j:Int} (c:C i j) (h:Q (g i j) H):rI C g (.int i) (.int j) H Q:=⟨i,j,rfl,rfl,c,h⟩
theorem PP {g:Int→Int→V} {i j:Int} (h:Q (g i j) H):rI0 g (.int i) (.int j) H Q:=⟨i,j,rfl,rfl,h⟩
theorem PQ (e:scal x y=true) (h:Q (.bl (decide (x=y))) H):rEq x y H Q:=⟨e,h⟩
theorem PN (e:scal x y=true) (h:Q (.bl (!decide (x=y))) H):rNe x y H Q:=⟨e,h⟩
theorem PY {i j:Str} (h:Q (.bl (!decide (j.cps.toList < i.cps.toList))) H):rLeS (.str i) (.str j) H Q:=⟨i,j,rfl,rfl,h⟩
theorem NC {Q:Bool→Hp→Prop} (h:te σ H fun x H'=>∃ k,x= .bl k∧Q k H'):LD te σ H Q:=h
theorem s_tB {Q:Bool→Hp→Prop} (h:te σ H fun x H'=>∃ k,x= .bl k∧Q k H'):tB te σ H Q:=h
theorem s_chain (h:ta σ H fun x H1=>tb σ H1 fun y H2=>r x y H2 fun z H3=>∃ k,z= .bl k∧(if k=true then tc σ H3 fun w' H4=>r' y w' H4 Q else Q (.bl false) H3)):KW r r' ta tb tc σ H Q:=h
theorem P8 {Q:Bool→Hp→Prop} (h:tt σ H fun c H1=>if c=true then tt' σ H1 Q else Q false H1):tAnd tt tt' σ H Q:=h
theorem s_or {Q:Bool→Hp→Prop} (h:tt σ H fun c H1=>if c=true then Q true H1 else tt' σ H1 Q):tOr tt tt' σ H Q:=h
theorem PR {Q:Bool→Hp→Prop} (h:tt σ H fun c H1=>Q (!c) H1):tNot tt σ H Q:=h
theorem N4 (h:ta σ H fun x H1=>∃ c,x= .bl c∧if c=true then tb σ H1 Q else Q (.bl false) H1):Nr ta tb σ H Q:=h
theorem P3 (h:tt σ H fun c H1=>if c=true then ta σ H1 Q else tb σ H1 Q):tIf tt ta tb σ H Q:=h
theorem NG (h:D.nx σ H):Nj D σ H:=h
theorem PL (h:t {D with nx:=u D} σ H):tSeq t u D σ H:=h
theorem NW (h:te σ H fun _ H1=>D.nx σ H1):No te D σ H:=h
theorem PM (h:te σ H D.rt):tRet te D σ H:=h
theorem s_if (h:tt σ H fun b H1=>if b=true then t D σ H1 else u D σ H1):tIfS tt t u D σ H:=h
theorem P7 {g:TG} (h:te σ H fun x H1=>g x σ H1 D.nx):tAsg te g D σ H:=h
theorem LX {i:Nat} {Q:St→Hp→Prop} (e:Fy σ i (some v) σ') (h:Q σ' H):HK i v σ H Q:=by show Q (σ.set i (some v)) H;rw [e.eq];exact h
theorem NU {Q:St→Hp→Prop} (h:Q σ H):gNil [] σ H Q:=⟨rfl,h⟩
theorem LY {g:TG} {gs:TGs} {vs:List V} {Q:St→Hp→Prop} (h:g v σ H fun σ' H'=>gs vs σ' H' Q):MJ g gs (v::vs) σ H Q:=⟨v,vs,rfl,h⟩
theorem NT {K:PySem.W.Frag} {n:Nat} {gs:TGs} {p:Addr} {xs:List V} {Q:St→Hp→Prop} (e:SqT K H p xs) (l:xs.length=n) (h:gs xs σ H Q):gTup K n gs (.ref p) σ H Q:=⟨p,xs,rfl,e,l,h⟩
theorem PU {Q:List V→Hp→Prop} (h:Q [] H):tNil σ H Q:=h
theorem N2 {tr:TA} {Q:List V→Hp→Prop} (h:ta σ H fun x H1=>tr σ H1 fun xs H2=>Q (x::xs) H2):Nq ta tr σ H Q:=h
noncomputable def NewT (Q:VK) (xs:List V) (H:Hp):Prop:=xs.length≤sizeLine∧∀ p,H p=none→Q (.ref p) (upd H p (.tup xs))
noncomputable def NewL (Q:VK) (xs:List V) (H:Hp):Prop:=xs.length≤sizeLine∧∀ p,H p=none→Q (.ref p) (upd H p (.lst xs))
theorem PJ {tr:TA} (h:tr σ H (NewT Q)):tTup tr σ H Q:=h
theorem PX {tr:TA} (h:tr σ H (NewL Q)):tLst tr σ H Q:=h
theorem bH {H:Hp} {D:Addr} {o:HO} (h:H D=none):Same H (upd H D o):=fun b u e=>by rw [ar (ah e h)];exact e
theorem fR {o:HO} (h:∀ p H2,H p=none→Same H H2→H2 p=some o→Q (.ref p) H2):∀ p,H p=none→Q (.ref p) (upd H p o):=fun p hp=>h p _ hp (bH hp) av
theorem Same.get {H H':Hp} (e:Same H H') {b:Addr} {o:HO} (h:H b=some o):H' b=some o:=e b o h
theorem NH {xs:List V} (l:xs.length≤sizeLine) (h:∀ p H2,H p=none→Same H H2→H2 p=some (.tup xs)→Q (.ref p) H2):NewT Q xs H:=⟨l,fR h⟩
theorem NI {xs:List V} (l:xs.length≤sizeLine) (h:∀ p H2,H p=none→Same H H2→H2 p=some (.lst xs)→Q (.ref p) H2):NewL Q xs H:=⟨l,fR h⟩
theorem L8 {sp:Sp} {E:XK} {tr:TA} (h:tr σ H fun vs H1=>sp vs H1 Q E):Jr sp [] E tr σ H Q:=by unfold Jr;simp only [List.append_nil];exact h
theorem s_cb {r:List V→Hp→VK→Prop} {tr:TA} (h:tr σ H fun vs H1=>r vs H1 Q):tCB r tr σ H Q:=h
theorem JB {Q:Option Int→Hp→Prop} (h:Q none H):F3 σ H Q:=h
theorem NF {Q:Option Int→Hp→Prop} (h:te σ H fun x H1=>∃ i,x= .int i∧Q (some i) H1):Ni te σ H Q:=h
theorem s_sl {r:V→Option Int→Option Int→Hp→VK→Prop} {tl th:TO} (h:te σ H fun x H1=>tl σ H1 fun l H2=>th σ H2 fun u H3=>r x l u H3 Q):tSl r te tl th σ H Q:=h
theorem PK {K:PySem.W.Frag} {p:Addr} {xs:List V} {lo hi:Option Int} (e:SqL K H p xs) (h:∀ q H2,H q=none→Same H H2→H2 q=some (.lst (cutV xs lo hi))→Q (.ref q) H2):rSlL K (.ref p) lo hi H Q:=⟨p,xs,rfl,e,fR h⟩
theorem P1 {K:PySem.W.Frag} {p:Addr} {xs:List V} {i:Int} (e:SqL K H p xs) (a:atI xs i=some v) (h:Q v H):rIxL K (.ref p) (.int i) H Q:=⟨p,xs,i,v,rfl,rfl,e,a,h⟩
theorem PZ {K:PySem.W.Frag} {p:Addr} {xs:List V} {i:Int} (e:SqT K H p xs) (a:atI xs i=some v) (h:Q v H):rIxT K (.ref p) (.int i) H Q:=⟨p,xs,i,v,rfl,rfl,e,a,h⟩
theorem JD {z:Str} {i:Int} {c:Nat} (e:z.length≤sizeLine) (a:atI z.cps.toList i=some c) (h:Q (.str ⟨#[c]⟩) H):rIxS (.str z) (.int i) H Q:=⟨z,i,c,rfl,rfl,e,a,h⟩
theorem s_bm {K:PySem.W.Frag} {T:String} {r:V→List V→Hp→VK→Prop} {tr:TA} (h:te σ H fun x H1=>tyV K T x H1∧tr σ H1 fun xs H2=>r x xs H2 Q):tBM K T r te tr σ H Q:=h
theorem He {n:Nat} (h:n≤1000):n≤sizeLine:=Nat.le_of_lt (bg h)
theorem Ae {K:PySem.W.Frag} {neg:Bool} {d e:Dt} (r1:Rep K H x d) (r2:Rep K H y e) (hd:depD d≤100) (h:Q (.bl (if neg then !eqD d e else eqD d e)) H):rEqD K neg x y H Q:=⟨d,e,r1,r2,hd,h⟩
theorem s_ty {K:PySem.W.Frag} {T:String} {A:Prop} (e:tyV K T x H) (h:A):tyV K T x H∧A:=⟨e,h⟩
theorem NN {K:PySem.W.Frag} {p:Addr} {xs:List V} (e:SqL K H p xs) (h:Q (.int xs.length) H):rLen K [.ref p] H Q:=⟨_,_,rfl,.inl ⟨xs,e,rfl⟩,h⟩
theorem NL {K:PySem.W.Frag} {p:Addr} {xs:List V} (e:SqT K H p xs) (h:Q (.int xs.length) H):rLen K [.ref p] H Q:=⟨_,_,rfl,.inr ⟨xs,e,rfl⟩,h⟩
theorem NM {K:PySem.W.Frag} {z:Str} (e:z.length≤sizeLine) (h:Q (.int z.length) H):rLen K [.str z] H Q:=⟨_,_,rfl,⟨e,rfl⟩,h⟩
theorem P2 {K:PySem.W.Frag} {T k:String} (e:uy K H x k) (m:T∈["int","bool","str","list","tuple","dict"]) (h:Q (.bl (subB k T)) H):rIsi K [x,.ty T] H Q:=⟨x,k,T,rfl,e,m,h⟩
theorem NZ (h:∀ p H2,H p=none→Same H H2→H2 p=some (.dK [])→Q (.ref p) H2):KU σ H Q:=fR h
theorem P4 {wi:TI} {g:TG} {tb:TS} (h:wi σ H fun J H1=>∃ W:Nat→Nat→St→Hp→Prop,(∃ m,W 0 m σ H1)∧∀ i m σ H,W i m σ H→(J.stop i H∧D.nx σ H)∨(J.go i H∧∃ N:St→Hp→Prop,(∀ σ' H',N σ' H'→∃ m',m' < m∧W (i + 1) m' σ' H')∧∀ x H',J.yld i H x H'→g x σ H' fun σ2 H2=>tb {D with nx:=N,ct:=N,bk:=D.nx} σ2 H2)):tFor wi g tb D σ H:=h
theorem LV {K:PySem.W.Frag} {R:It→Hp→Prop} (h:te σ H fun x H1=>∃ a,x= .ref a∧(∃ xs,SqL K H1 a xs)∧R (Itl K a) H1):MG K te σ H R:=h
theorem NR {K:PySem.W.Frag} {R:It→Hp→Prop} (h:te σ H fun x H1=>∃ a,x= .ref a∧(∃ xs,SqT K H1 a xs)∧R (Itt K a) H1):iTup K te σ H R:=h
theorem NS {R:It→Hp→Prop} (h:te σ H fun x H1=>∃ z,x= .str z∧R (Its z) H1):iStr te σ H R:=h
theorem ND {tr:TA} {R:It→Hp→Prop} (h:tr σ H fun vs H1=>∃ j:Int,vs=[.int j]∧-(2 ^ 62)≤j∧j < 2 ^ 62∧R (Itr 0 j.toNat) H1):OR tr σ H R:=h
theorem PD {Q:Bool→Hp→Prop} (h:Q true H):tYes σ H Q:=h
theorem NB {A B:Prop} (h:A):if true=true then A else B:=by rw [if_pos rfl];exact h
theorem LZ {A B:Prop} (h:B):if false=true then A else B:=by rw [if_neg Bool.false_ne_true];exact h
theorem gK {c:Bool} {A B:Prop} (e:c=true) (h:A):if c=true then A else B:=by rw [if_pos e];exact h
theorem eR {c:Bool} {A B:Prop} (e:c=false) (h:B):if c=true then A else B:=by rw [e,if_neg Bool.false_ne_true];exact h
theorem N3 {n:Nat} {fx:List Nat} {wi:TI} {g:TG} (h:wi σ H fun J H1=>∀ D,H1 D=none→
 ∃ W:Nat→Nat→List V→Hp→Prop,(∃ m,W 0 m [] (upd H1 D (.lst [])))∧∀ i m ys H2,W i m ys H2→(J.stop i H2∧Q (.ref D) H2)∨
   (J.go i H2∧∃ N:List V→Hp→Prop,(∀ ys' H',N ys' H'→∃ m',m' < m∧W (i + 1) m' ys' H')∧∀ x H3,J.yld i H2 x H3→g x (di n fx σ) H3 fun σ4 H4=>tt σ4 H4 fun b H5=>
    if b=true then te σ4 H5 fun v H6=>H6 D=some (.lst ys)∧ys.length < sizeLine∧N (ys++[v]) (upd H6 D (.lst (ys++[v]))) else N ys H5)):Jq n fx wi g tt te σ H Q:=h
theorem N5 {K:PySem.W.Frag} {p:Addr} {bs:List Bool} (e:SqL K H p (bs.map V.bl)) (h:Q (.bl (bs.all id)) H):Oe K [.ref p] H Q:=⟨p,bs,rfl,e,h⟩
theorem KZ {K:PySem.W.Frag} {p:Addr} {bs:List Bool} (e:SqL K H p (bs.map V.bl)) (h:Q (.bl (bs.any id)) H):Od K [.ref p] H Q:=⟨p,bs,rfl,e,h⟩
theorem JE {j:Int} {A:Prop} (h1: -(2 ^ 62)≤j) (h2:j < 2 ^ 62) (h:A): -(2 ^ 62)≤j∧j < 2 ^ 62∧A:=⟨h1,h2,h⟩
end
noncomputable def tCut (t u:TS):TS:=fun D σ H=>∃ P:St→Hp→Prop,t {D with nx:=P} σ H∧∀ σ' H',P σ' H'→u D σ' H'
theorem v7 {X:Cx} {st:Stmt} {rest:List Stmt} {t u:TS} (h1:PS X st t) (h2:PSs X rest u):PSs X (st::rest) (tCut t u):=by
 intro pins s σ H D I ⟨P,a,b⟩
 refine wpAny_execs_cons (thn (h1 pins s σ H {D with nx:=P} I a) fun f s1 q=>?_)
 cases f with
 | next=>obtain ⟨σ1,H1,I1,q1⟩:=q;exact h2 pins s1 σ1 H1 D I1 (b σ1 H1 q1)
 | brk=>exact q
 | cont=>exact q
 | ret v=>exact q
theorem s_cut {t u:TS} {D:Ends} {σ:St} {H:Hp} (P:St→Hp→Prop) (h:t {D with nx:=P} σ H) (k:∀ σ' H',P σ' H'→u D σ' H'):tCut t u D σ H:=⟨P,h,k⟩
section
variable {K:PySem.W.Frag} {n:Nat} {fx:List Nat} {g:TG} {tc:TT} {te:TE} {σ:St} {H1:Hp} {D:Addr} {Q:Hp→Prop}
structure Cs (Pv:Nat→List V→Prop) (H1:Hp) (D:Addr) (i:Nat) (ys:List V) (H:Hp):Prop where
 pv:Pv i ys
 same:Same H1 H
 at':H D=some (.lst ys)
 len:ys.length≤i
theorem Cs.put {Pv:Nat→List V→Prop} {i:Nat} {ys:List V} {v:V} {H6:Hp} (f:H1 D=none) (s:Same H1 H6) (e:H6 D=some (.lst ys)) (l:ys.length≤i) (hi:i < 16777216) (p:Pv (i + 1) (ys++[v])):
  H6 D=some (.lst ys)∧ys.length < sizeLine∧Cs Pv H1 D (i + 1) (ys++[v]) (upd H6 D (.lst (ys++[v]))):=
 ⟨e,by rw [sizeLine_eq];omega,p,fun b o h=>by rw [ar (ah h f)];exact s b o h,av,by rw [List.length_append];simpa using l⟩
theorem Cs.skip {Pv:Nat→List V→Prop} {i:Nat} {ys:List V} {H6:Hp} (s:Same H1 H6) (e:H6 D=some (.lst ys)) (l:ys.length≤i) (p:Pv (i + 1) ys):Cs Pv H1 D (i + 1) ys H6:=⟨p,s,e,by omega⟩
theorem Cs.zero {Pv:Nat→List V→Prop} (f:H1 D=none) (p:Pv 0 []):Cs Pv H1 D 0 [] (upd H1 D (.lst [])):=⟨p,bH f,av,Nat.le_refl _⟩
end
structure Lx (K:PySem.W.Frag) (C:Addr) (m:Str) (f:Addr):Prop where
 ga:PySem.W.specialIn K (.ref C) "__getattribute__"=some (some (.builtin "type.__getattribute__"))
 rd:PySem.W.readsIn K C (.type "type")=true
 fd:PySem.W.findCls K (.ref C) (.type "type") m=some (.val (.ref f))
 hd:PySem.W.handedIn (.ref f)=true
 kp:PySem.W.keepIn K (.ref f)=true
section
variable {X:Cx} {CX:CXT} {k:Nat} {f C:Addr} {fd:FuncData} {ps:List Str} {sp:Sp} {dvs:List V} {ds:List Value} {E:XK} {x m:Str} {p pos apos:Pos} {e o:Expr} {es:List Expr} {ta:TE} {t:TA}
theorem ql {pl:Sem Bool} (hg:Gl X x) (hx:X.mg x=some (.ref C)) (c:Lx X.K C m f) (F:FnOk X.prog X.w X.K X.mg X.base CX k f fd ps sp) (hr:Room k X.A) (hb:bM X.K fd ps ds) (hd:Vals dvs ds) (hpass:oA CX X E) (ha:PA X (e::es) t)
  (hdb:(x == ("__debug__":Str))=false:=by decide) (hst:starEach (e::es) X.env=(false,eval e X.env)::starEach es X.env:=by rfl) (hpl:(backTo pos (starEach es X.env)).any (·.1)=false:=by rfl)
  (ht:eval (.Call (.Attribute (.Name x p) m apos) (e::es) [] pos) X.env=(do
   let ov ← eval (.Name x p) X.env
   standAt apos.atName
   let (f,first) ← holding [ov] (getMethod ov m pl)
   callWith pos f first (backTo pos (starEach (e::es) X.env)) (backToKw pos (keywordEach [] X.env))):=by rfl):
  PE X (.Call (.Attribute (.Name x p) m apos) (e::es) [] pos) (Jr sp dvs E t):=by
 intro pins s σ H Q I h
 refine PySem.W.methodCall_KW (pl:=pl) (gO I hg hx ?_ hdb) ht
 refine PySem.W.method_cls I.kIn c.ga (PySem.W.cls_value I.kIn c.rd c.fd c.hd ?_)
 have I1:=I.tok (s.toks + 1)
 refine PySem.W.callWith_K (first:=[]) (h₀:=X.base) I1.ok.mod.kin c.kp (thn (ha pos pins _ σ H _ I1 h) fun us s2 ⟨vs,H2,I2,r,q2⟩=>⟨I2.kIn,?_⟩) hst hpl
 exact GD (us:=us) (vs:=vs) F hr hb hd hpass I2 r q2
end
structure IL (K:PySem.W.Frag) (D:Addr):Prop where
 cls:Cls K D
 ha:PySem.W.findIn K (.ref D) "__class__"=some (some (.builtin "object.__class__"))
 hn:PySem.W.specialIn K (.builtin "object.__class__") "__get__"=some (some (.builtin "getset_descriptor.__get__"))
 tk:PySem.W.takesIn K (.builtin "object.__class__")=some true
 hm:PySem.W.mroIn K D (.type "object")=some true
theorem Cd {K:PySem.W.Frag} {C D:Addr} {b:Bool} (h1:PySem.W.isClsIn K D=true) (h2:PySem.W.typeIn K (.ref D)=some (.type "type")) (h3:PySem.W.mroIn K C (.ref D)=some b) (h4:PySem.W.mroIn K D (.ref D)=some true):PySem.W.kitOne K (.ref C) (.ref D)=some b:=by
 unfold PySem.W.kitOne
 by_cases e:C=D
 ·subst e
  rw [h4] at h3
  cases h3
  rw [if_pos (beq_self_eq_true _)]
 ·rw [if_neg (fun z=>e (by have:=eq_of_beq z;injection this))]
  unfold PySem.W.kitCls
  dsimp only
  rw [if_pos (by unfold PySem.W.isClsIn at h1;rw [h1,h2];rfl)]
  exact h3
section
variable {X:Cx} {K:PySem.W.Frag}
theorem dj {e:Expr} {ta:TE} {f:Str} {pos:Pos} (h:X.K=K) (he:PE X e ta) (hb:attributeBase e f X.env (eval e X.env)=eval e X.env):PE X (.Attribute e f pos) (tFld K ta f):=by subst h;exact Op he hb
theorem fT {o value:Expr} {ta tv:TE} {f:Str} {pos pos':Pos} (h:X.K=K) (ha:PE X o ta) (hv:PE X value tv) (hs:swapsWith value (some (.Attribute o f pos')) pos.line X.env=pure false):PS X (.Assign [.Attribute o f pos'] value pos) (sFld K ta tv f):=by subst h;exact Oh ha hv hs
end
section
variable {σ:St} {H:Hp} {Q:VK} {D:Ends} {te tv ta:TE} {x y v:V}
noncomputable def MY (K:PySem.W.Frag) (f:Str) (Q:VK) (x:V) (H:Hp):Prop:=∃ a C dx fs v,x= .ref a∧H a=some (.ins C dx fs)∧Cls K C∧aq K C f∧fs.lookup f=some v∧Q v H
theorem P5 {K:PySem.W.Frag} {f:Str} (h:te σ H (MY K f Q)):tFld K te f σ H Q:=h
theorem cF {K:PySem.W.Frag} {f:Str} {p C dx:Addr} {fs:List (Str×V)} (e:H p=some (.ins C dx fs)) (c:Cls K C) (n:aq K C f) (l:fs.lookup f=some v) (h:Q v H):MY K f Q (.ref p) H:=⟨p,C,dx,fs,v,rfl,e,c,n,l,h⟩
structure Upd (H H':Hp) (p:Addr) (o:HO):Prop where
 at':H' p=some o
 oth:∀ b u,b≠p→H b=some u→H' b=some u
 non:∀ b,b≠p→H b=none→H' b=none
theorem Upd.of {H:Hp} {p:Addr} {o:HO}:Upd H (upd H p o) p o:=⟨av,fun b u n h=>by rw [ar n];exact h,fun b n h=>by rw [ar n];exact h⟩
noncomputable def Pm (K:PySem.W.Frag) (f:Str) (y:V) (D:Ends) (σ:St) (x:V) (H:Hp):Prop:=∃ a C dx fs,x= .ref a∧H a=some (.ins C dx fs)∧Cls K C∧aq K C f∧fs.length < 1000∧D.nx σ (upd H a (.ins C dx (putF f y fs)))
theorem JA {K:PySem.W.Frag} {f:Str} (h:tv σ H fun y H1=>te σ H1 (Pm K f y D σ)):sFld K te tv f D σ H:=h
theorem fO {K:PySem.W.Frag} {f:Str} {p C dx:Addr} {fs fs':List (Str×V)} (e:H p=some (.ins C dx fs)) (c:Cls K C) (n:aq K C f) (l:fs.length < 1000) (ef:putF f y fs=fs') (h:∀ H2,Upd H H2 p (.ins C dx fs')→D.nx σ H2):
  Pm K f y D σ (.ref p) H:=⟨p,C,dx,fs,rfl,e,c,n,l,by rw [ef];exact h _ Upd.of⟩
noncomputable def Lr (C:Addr) (sp:Sp) (E:XK) (Q:VK) (vs:List V) (H:Hp):Prop:=∀ x dx,H x=none→H dx=none→dx≠x→sp (.ref x::(vs++[])) (upd (upd H dx (.own x)) x (.ins C dx [])) (fun v H2=>v= .non∧Q (.ref x) H2) E
theorem NK {C:Addr} {sp:Sp} {E:XK} {tr:TA} (h:tr σ H (Lr C sp E Q)):Nl C sp [] E tr σ H Q:=h
theorem JC {C:Addr} {sp:Sp} {E:XK} {vs:List V} (h:∀ x dx H2,H x=none→Same H H2→H2 x=some (.ins C dx [])→sp (.ref x::vs) H2 (fun v H2=>v= .non∧Q (.ref x) H2) E):Lr C sp E Q vs H:=by
 intro x dx f1 f2 n
 rw [List.append_nil]
 exact h x dx _ f1 (fun b o e=>by rw [ar (ah e f1),ar (ah e f2)];exact e) av
theorem Upd.trans {H2 H3:Hp} {p:Addr} {o o':HO} (u:Upd H H2 p o) (w:Upd H2 H3 p o'):Upd H H3 p o':=⟨w.at',fun b q n e=>w.oth b q n (u.oth b q n e),fun b n e=>w.non b n (u.non b n e)⟩
end
theorem Inv.laidCh {X:Cx} {pins:List (Addr×Obj)} {σ:St} {H:Hp} {s:Shared} {h':Heap} {a:Addr} {o:HO} {t':Nat} {ch:List Addr} (I:Inv X pins σ H s) (k:∀ b u,b∉ch→s.heap.get? b=some u→h'.get? b=some u) (hp:s.heap.objs.size≤a)
  (new:dB X.prog X.w (upd H a o) h' a o) (fp:∀ b∈ch,FpOk X pins H b):Inv X pins σ (upd H a o) {s with heap:=h',toks:=t'}:=by
 have fr:H a=none:=I.hok.fresh hp
 have nit:∀ b u,H b=some u→b∉ch:=fun b u e z=>by rw [(fp b z).1] at e;cases e
 refine I.step (g':=s.gens) (d':=s.drawn) (ch:=ch) (fun b hb=>?_) (fun b ob _ _ hc e _=>k b ob hc e) (fun b ob _ _ hc e _=>⟨ob.slots,k b ob hc e⟩) (fun b ob _ e n=>?_) (fun b ob hc e=>⟨ob,k b ob hc e⟩)
  (fun b xs e=>by rw [ar (ah e fr)];exact e) (fun b ob u e=>by rw [ar (ah e fr)];exact e) (fun b ps e=>⟨#[],by rw [ar (ah e fr),e];simp⟩) (fun m hm=>?_) (fun b u e=>?_) I.bare
 ·obtain ⟨f0,f1,f2,f3,f4,f5⟩:=fp b hb
  exact ⟨f3,f1,f4,f5⟩
 ·rw [ar (Nat.ne_of_lt (Nat.lt_of_lt_of_le (Heap.lt_size e) hp))];exact n
 ·obtain ⟨ob,es,ep,ho,r⟩:=hm
  exact ⟨ob,es,ep,k _ ob (fun z=>(fp _ z).2.1 rfl) ho,r⟩
 ·by_cases hb:b=a
  ·subst hb;rw [av] at e;cases e;exact new
  ·rw [ar hb] at e
   refine (I.hok b u e).stay (fun c v hc q=>k c v ?_ q) (fun c q=>by rw [ar (ah q fr)];exact q) fun c xs q=>by rw [ar (ah q fr)];exact q
   rcases hc with z | z
   ·rw [z];exact nit b u e
   ·exact nit c _ z
theorem Inv.turnedCh {X:Cx} {pins:List (Addr×Obj)} {σ:St} {H:Hp} {s:Shared} {h':Heap} {t':Nat} {ch:List Addr} (I:Inv X pins σ H s) (k:∀ b u,b∉ch→s.heap.get? b=some u→h'.get? b=some u)
  (fp:∀ b∈ch,FpOk X pins H b):Inv X pins σ H {s with heap:=h',toks:=t'}:=by
 have nit:∀ b u,H b=some u→b∉ch:=fun b u e z=>by rw [(fp b z).1] at e;cases e
 refine I.step (g':=s.gens) (d':=s.drawn) (ch:=ch) (fun b hb=>?_) (fun b ob _ _ hc e _=>k b ob hc e) (fun b ob _ _ hc e _=>⟨ob.slots,k b ob hc e⟩) (fun b ob _ e n=>n) (fun b ob hc e=>⟨ob,k b ob hc e⟩)
  (fun b xs e=>e) (fun b ob u e=>e) (fun b ps e=>⟨#[],by rw [e];simp⟩) (fun m hm=>?_) (fun b u e=>?_) I.bare
 ·obtain ⟨f0,f1,f2,f3,f4,f5⟩:=fp b hb
  exact ⟨f3,f1,f4,f5⟩
 ·obtain ⟨ob,es,ep,ho,r⟩:=hm
  exact ⟨ob,es,ep,k _ ob (fun z=>(fp _ z).2.1 rfl) ho,r⟩
 ·refine (I.hok b u e).stay (fun c v hc q=>k c v ?_ q) (fun c q=>q) fun c xs q=>q
  rcases hc with z | z
  ·rw [z];exact nit b u e
  ·exact nit c _ z
noncomputable def Ite (K:PySem.W.Frag) (a:Addr):It:=
 ⟨fun i H=>∃ xs x,SqL K H a xs∧xs[i]? =some x,fun i H x H'=>∃ p v,H p=none∧x= .ref p∧H'=upd H p (.tup [.int i,v])∧∀ xs,SqL K H a xs→xs[i]? =some v,fun i H=>∃ xs,SqL K H a xs∧xs.length=i⟩
noncomputable def Itz (x:Str):It:=⟨fun i _=>i < x.cps.size,fun i H v H'=>∃ p c,H p=none∧v= .ref p∧H'=upd H p (.tup [.int i,.str ⟨#[c]⟩])∧x.cps[i]? =some c,fun i _=>i=x.cps.size⟩
theorem F0:(2:Nat)≤sizeLine:=by rw [sizeLine_eq];decide
theorem vb {P:Program} {w:World} {K:PySem.W.Frag} {elts:List Expr} {k:Nat} {pos:Pos} (a e it:Addr) (hei:e≠it):
  Turn P w K (.Tuple elts k pos) (Ite K a) [e,it] e (fun i h=>(∃ old,IsEnum h e it i old)∧h.IsListIter it a i) where
 mem:=by simp
 obj:=fun i h st b hb=>by
  obtain ⟨⟨old,he⟩,⟨o,ho,hc,hd⟩⟩:=st
  rcases List.mem_cons.mp hb with z | z
  ·subst z;exact ⟨_,he,fun v z=>by cases z⟩
  ·rw [List.mem_singleton.mp z];exact ⟨o,ho,fun v z=>by rw [hd] at z;cases z⟩
 keep:=fun i h h' st k=>⟨let ⟨old,he⟩:=st.1;⟨old,k e (by simp) _ he⟩,st.2.at fun o z=>k it (by simp) o z⟩
 item:=by
  intro X hP hw hK hc i pins s σ H E I hf st hg
  subst hP hw hK
  obtain ⟨xs,x,hq,hx⟩:=hg
  obtain ⟨its,rv,p,hz⟩:=I.list hq
  obtain ⟨⟨old,he⟩,hl⟩:=st
  have hai:a≠it:=fun z=>by
   obtain ⟨o,ho,hcl,_⟩:=hl
   obtain ⟨o',n,ho',hcl',_⟩:=p
   rw [z,ho] at ho';cases ho';rw [hcl] at hcl';exact absurd hcl' (by decide)
  have hae:a≠e:=fun z=>by
   obtain ⟨o',n,ho',hcl',_⟩:=p
   rw [z,he] at ho';cases ho';exact absurd (show Value.type "enumerate"= .type "list" from hcl') (by decide)
  have W:=WalksT.enumerateD (prog:=X.prog) (w:=X.w) (A:=X.A) (Draws.list (A:=X.A.in1) (I.ok.hd hc) it a hai its.toArray) e hei (by simp [hei,Ne.symm hae]) (by simp)
  have hi:i < its.toArray.size:=by have:=rv.length;have:=(List.getElem?_eq_some_iff.mp hx).1;simp;omega
  refine W.item i s _ _ hi ⟨⟨old,he⟩,hl,p.isList⟩ fun T vals h' tk hPt hT htup hmid hk=>⟨_,rfl,W.go elts k pos i T _ _ _ hmid fun h'' hst hk2=>?_⟩
  obtain ⟨t,x',hx',rfl⟩:=hPt
  have hap:=W.apart i T h' hmid
  have ru:RelV x x':=by
   obtain ⟨u,hu,r⟩:=rv.get hx
   have hx'':its[i]? =some x':=by simpa using hx'
   rw [hu] at hx'';cases hx'';exact r
  have kk:∀ b u,b∉[e,it]→s.heap.get? b=some u→h''.get? b=some u:=fun b u hb q=>hk2 b u hb (hk b u hb q)
  have fr:H T=none:=I.hok.fresh hT
  refine ⟨.ref T,upd H T (.tup [.int i,x]),I.laidCh (t':=tk) kk hT ⟨F0,[.int i t,x'],.cons ⟨t,rfl⟩ (.cons ru .nil),?_⟩ hf,rfl,⟨T,x,fr,rfl,rfl,fun ys hy=>by rw [I.list_inj hy hq];exact hx⟩,⟨hst.1,hst.2.1⟩,fun b hb=>?_⟩
  ·obtain ⟨o,ho,r⟩:=htup
   exact ⟨o,hk2 T o hap ho,r⟩
  ·have fb:=(hf b hb)
   rw [ar (fun z=>?_)]
   ·exact fb.1
   ·have lt:b < s.heap.objs.size:=by
     rcases List.mem_cons.mp hb with z | z
     ·subst z;exact Heap.lt_size he
     ·rw [List.mem_singleton.mp z];obtain ⟨o,ho,_⟩:=hl;exact Heap.lt_size ho
    rw [z] at lt
    exact absurd (Nat.lt_of_lt_of_le lt hT) (Nat.lt_irrefl _)
 done:=by
  intro X hP hw hK hc i pins s σ H E I hf st hg
  subst hP hw hK
  obtain ⟨xs,hq,hx⟩:=hg
  obtain ⟨its,rv,p,hz⟩:=I.list hq
  obtain ⟨⟨old,he⟩,hl⟩:=st
  have hai:a≠it:=fun z=>by
   obtain ⟨o,ho,hcl,_⟩:=hl
   obtain ⟨o',n,ho',hcl',_⟩:=p
   rw [z,ho] at ho';cases ho';rw [hcl] at hcl';exact absurd hcl' (by decide)
  have hae:a≠e:=fun z=>by
   obtain ⟨o',n,ho',hcl',_⟩:=p
   rw [z,he] at ho';cases ho';exact absurd (show Value.type "enumerate"= .type "list" from hcl') (by decide)
  have W:=WalksT.enumerateD (prog:=X.prog) (w:=X.w) (A:=X.A) (Draws.list (A:=X.A.in1) (I.ok.hd hc) it a hai its.toArray) e hei (by simp [hei,Ne.symm hae]) (by simp)
  have hn:its.toArray.size=i:=by have:=rv.length;simp;omega
  subst hn
  exact W.done s _ _ ⟨⟨old,he⟩,hl,p.isList⟩ fun h' tk hk=>⟨rfl,I.turnedCh hk hf⟩
 self:=fun _ _ _ _ _ st h=>let ⟨_,he⟩:=st.1;wpAny_pyIter_enum he h
theorem C3 {P:Program} {w:World} {K:PySem.W.Frag} {elts:List Expr} {k:Nat} {pos:Pos} {x:Str} {t:Tok} {n:String} (e it:Addr) (hei:e≠it)
  (D:∀ A:Around,A.handled=none→Draws P w A it [it] x.cps.size (fun i v=>∃ c u,x.cps[i]? =some c∧v= .str ⟨#[c]⟩ u) (fun i h=>h.IsStrIter it n x t i)):
  Turn P w K (.Tuple elts k pos) (Itz x) [e,it] e (fun i h=>(∃ old,IsEnum h e it i old)∧h.IsStrIter it n x t i) where
 mem:=by simp
 obj:=fun i h st b hb=>by
  obtain ⟨⟨old,he⟩,⟨o,ho,hc,hd⟩⟩:=st
  rcases List.mem_cons.mp hb with z | z
  ·subst z;exact ⟨_,he,fun v z=>by cases z⟩
  ·rw [List.mem_singleton.mp z];exact ⟨o,ho,fun v z=>by rw [hd] at z;cases z⟩
 keep:=fun i h h' st k=>⟨let ⟨old,he⟩:=st.1;⟨old,k e (by simp) _ he⟩,let ⟨o,ho,r⟩:=st.2;⟨o,k it (by simp) o ho,r⟩⟩
 item:=by
  intro X hP hw hK hc i pins s σ H E I hf st hg
  subst hP hw hK
  obtain ⟨⟨old,he⟩,hl⟩:=st
  have W:=WalksT.enumerateD (prog:=X.prog) (w:=X.w) (A:=X.A) (D X.A.in1 (I.ok.hd hc)) e hei (by simp [hei]) (by simp)
  refine W.item i s _ _ hg ⟨⟨old,he⟩,hl⟩ fun T vals h' tk hPt hT htup hmid hk=>⟨_,rfl,W.go elts k pos i T _ _ _ hmid fun h'' hst hk2=>?_⟩
  obtain ⟨t1,x',⟨c,u,hx',rfl⟩,rfl⟩:=hPt
  have hap:=W.apart i T h' hmid
  have kk:∀ b u,b∉[e,it]→s.heap.get? b=some u→h''.get? b=some u:=fun b u hb q=>hk2 b u hb (hk b u hb q)
  have fr:H T=none:=I.hok.fresh hT
  refine ⟨.ref T,upd H T (.tup [.int i,.str ⟨#[c]⟩]),I.laidCh (t':=tk) kk hT ⟨F0,[.int i t1,.str ⟨#[c]⟩ u],.cons ⟨t1,rfl⟩ (.cons ⟨u,rfl⟩ .nil),?_⟩ hf,rfl,⟨T,c,fr,rfl,rfl,hx'⟩,⟨hst.1,hst.2⟩,fun b hb=>?_⟩
  ·obtain ⟨o,ho,r⟩:=htup
   exact ⟨o,hk2 T o hap ho,r⟩
  ·have fb:=(hf b hb)
   rw [ar (fun z=>?_)]
   ·exact fb.1
   ·have lt:b < s.heap.objs.size:=by
     rcases List.mem_cons.mp hb with z | z
     ·subst z;exact Heap.lt_size he
     ·rw [List.mem_singleton.mp z];obtain ⟨o,ho,_⟩:=hl;exact Heap.lt_size ho
    rw [z] at lt
    exact absurd (Nat.lt_of_lt_of_le lt hT) (Nat.lt_irrefl _)
 done:=by
  intro X hP hw hK hc i pins s σ H E I hf st hg
  subst hP hw hK
  obtain ⟨⟨old,he⟩,hl⟩:=st
  have W:=WalksT.enumerateD (prog:=X.prog) (w:=X.w) (A:=X.A) (D X.A.in1 (I.ok.hd hc)) e hei (by simp [hei]) (by simp)
  have hg:i=x.cps.size:=hg
  subst hg
  exact W.done s _ _ ⟨⟨old,he⟩,hl⟩ fun h' tk hk=>⟨rfl,I.turnedCh hk hf⟩
 self:=fun _ _ _ _ _ st h=>let ⟨_,he⟩:=st.1;wpAny_pyIter_enum he h
noncomputable def OS (K:PySem.W.Frag) (tl:TE):TI:=fun σ H R=>tl σ H fun x H1=>(∃ a,x= .ref a∧(∃ xs,SqL K H1 a xs)∧R (Ite K a) H1)∨∃ z,x= .str z∧R (Itz z) H1
section
variable {X:Cx} {K:PySem.W.Frag}
theorem Mh {l:Expr} {tl:TE} {elts:List Expr} {k:Nat} {tpos p pos:Pos} (h:X.K=K) (hg:Gl X "enumerate") (hm:X.mg "enumerate"=none) (hl:PE X l tl) (hs:starEach [l] X.env=[(false,eval l X.env)]:=by rfl):
  PI X (.Tuple elts k tpos) (.Call (.Name "enumerate" p) [l] [] pos) (OS K tl):=by
 subst h
 intro pins s σ H R I h
 refine Call_ (oq I hg hm boot_enumerate (PyProof.Rows.callWith_type1 (thn (aa hl ad hs pos pins s σ H (fun vs H1=>match vs with | [x]=>(∃ a,x= .ref a∧(∃ xs,SqL X.K H1 a xs)∧R (Ite X.K a) H1)∨∃ z,x= .str z∧R (Itz z) H1 | _=>False) I h) fun us s1 ⟨vs,H1,I1,r1,q1⟩=>?_) hs rfl))
 match vs,r1,q1 with
 | [x],r1,q1=>
 obtain ⟨u,rfl,ru⟩:=r1.one
 rcases q1 with ⟨a,rfl,⟨xs,hq⟩,q⟩ | ⟨z,rfl,q⟩
 ·cases ru
  obtain ⟨its,rv,pl,hz⟩:=I1.list hq
  refine call_enumerate_list pl.isList fun h' he hit hsz hk=>wpAny_pyIter_enum he ?_
  refine ⟨s1.heap.objs.size + 1,[s1.heap.objs.size + 1,s1.heap.objs.size],_,_,H1,rfl,I1.kept (t':=s1.toks) hk,vb a _ _ (Nat.ne_of_gt (Nat.lt_succ_self _)),⟨⟨_,he⟩,hit⟩,fun b hb=>?_,q⟩
  have hb':s1.heap.objs.size≤b:=(List.mem_cons.mp hb).elim (fun z=>by rw [z];exact Nat.le_succ _) (fun z=>by rw [List.mem_singleton.mp z];exact Nat.le_refl _)
  exact I1.fpOk hb' (I1.hok.fresh hb')
 ·obtain ⟨t,rfl⟩:=ru
  refine call_enumerate_str fun h' he hit hsz hk=>wpAny_pyIter_enum he ?_
  have fin:∀ n,(h'.IsStrIter s1.heap.objs.size n z t 0)→(∀ A:Around,A.handled=none→Draws X.prog X.w A s1.heap.objs.size [s1.heap.objs.size] z.cps.size (fun i v=>∃ c u,z.cps[i]? =some c∧v= .str ⟨#[c]⟩ u) (fun i h=>h.IsStrIter s1.heap.objs.size n z t i))→
    PIE X pins σ (.Tuple elts k tpos) R (.ref (s1.heap.objs.size + 1)) {s1 with heap:=h'}:=fun n hn D=>by
   refine ⟨s1.heap.objs.size + 1,[s1.heap.objs.size + 1,s1.heap.objs.size],_,_,H1,rfl,I1.kept (t':=s1.toks) hk,C3 _ _ (Nat.ne_of_gt (Nat.lt_succ_self _)) D,⟨⟨_,he⟩,hn⟩,fun b hb=>?_,q⟩
   have hb':s1.heap.objs.size≤b:=(List.mem_cons.mp hb).elim (fun z=>by rw [z];exact Nat.le_succ _) (fun z=>by rw [List.mem_singleton.mp z];exact Nat.le_refl _)
   exact I1.fpOk hb' (I1.hok.fresh hb')
  unfold strIterType at hit
  split at hit
  ·exact fin _ hit fun A hA=>Draws.strAscii hA _ z t
  ·exact fin _ hit fun A hA=>Draws.strWide hA _ z t
end
theorem Ck {K:PySem.W.Frag} {a:Addr} {xs:List V} {g:TG} {tb:TS} {D:Ends} {σ:St} {H:Hp} (Pv:Nat→St→Hp→Prop) (h0:Pv 0 σ H) (hl:∀ i σ H,i≤xs.length→Pv i σ H→SqL K H a xs)
  (hs:∀ i x σ H p H',xs[i]? =some x→Pv i σ H→H p=none→Same H H'→H' p=some (.tup [.int i,x])→g (.ref p) σ H' fun σ2 H2=>tb {D with nx:=Pv (i + 1),ct:=Pv (i + 1),bk:=D.nx} σ2 H2) (hd:∀ σ H,Pv xs.length σ H→D.nx σ H):
  ∃ W:Nat→Nat→St→Hp→Prop,(∃ m,W 0 m σ H)∧∀ i m σ H,W i m σ H→
    ((Ite K a).stop i H∧D.nx σ H)∨((Ite K a).go i H∧∃ N:St→Hp→Prop,(∀ σ' H',N σ' H'→∃ m',m' < m∧W (i + 1) m' σ' H')∧∀ x H',(Ite K a).yld i H x H'→g x σ H' fun σ2 H2=>tb {D with nx:=N,ct:=N,bk:=D.nx} σ2 H2):=by
 refine ⟨fun i m σ H=>m=xs.length - i∧i≤xs.length∧Pv i σ H,⟨xs.length,by simp,Nat.zero_le _,h0⟩,?_⟩
 rintro i m σ H ⟨rfl,hi,p⟩
 have q:=hl i σ H hi p
 by_cases hlt:i < xs.length
 ·refine .inr ⟨⟨xs,xs[i],q,by simp [hlt]⟩,Pv (i + 1),fun σ' H' p'=>⟨xs.length - (i + 1),by omega,rfl,hlt,p'⟩,fun x H' y=>?_⟩
  obtain ⟨r,v,f,e1,e2,y⟩:=y
  subst e1 e2
  exact hs i v σ H r _ (y xs q) p f (bH f) av
 ·have e:i=xs.length:=by omega
  subst e
  exact .inl ⟨⟨xs,q,rfl⟩,hd σ H p⟩
section
variable {σ:St} {H:Hp} {te:TE} {R:It→Hp→Prop}
theorem LW {K:PySem.W.Frag} (h:te σ H fun x H1=>(∃ a,x= .ref a∧(∃ xs,SqL K H1 a xs)∧R (Ite K a) H1)∨∃ z,x= .str z∧R (Itz z) H1):OS K te σ H R:=h
end
noncomputable def K1:V→List V→Hp→VK→Prop:=fun x xs H Q=>∃ z y,x= .str z∧xs=[.str y]∧y.length≠0∧z.length + 2≤sizeLine∧∀ D,H D=none→Q (.ref D) (upd H D (.lst ((Txt.split z y).map V.str)))
theorem x3:∀ (ss:List Str) (n:Nat),Vals (ss.map V.str) (strsFrom n ss)
 | [],_=> .nil
 | x::r,n=> .cons ⟨n,rfl⟩ (x3 r (n + 1))
section
variable {X:Cx}
theorem B7:MtR X "str.split" K1:=by
 intro pins s σ H x xs v us Q I rx rs h
 obtain ⟨z,y,rfl,rfl,hy,hz,q⟩:=h
 obtain ⟨t,rfl⟩:=rx
 obtain ⟨u,rfl,ru⟩:=vK rs
 obtain ⟨t',rfl⟩:=ru
 have hy:(y.length == 0)=false:=beq_eq_false_iff_ne.mpr hy
 have hle:=split_le z y
 have fr:=I.hok.fresh (Nat.le_refl s.heap.objs.size)
 have itself:Txt.split z y=[z]→EP X pins σ Q (.ref s.heap.objs.size) {s with heap:=s.heap.push {cls:= .type "list",data:= .seq [Value.str z t].toArray}}:=fun e=>
  ⟨.ref s.heap.objs.size,_,I.laid (t':=s.toks) (o:= .lst ((Txt.split z y).map V.str)) (fun b o e=>Heap.get?_push_of_some _ e) (Nat.le_refl _) ⟨by rw [List.length_map];omega,[.str z t],0,by rw [e];exact .cons ⟨t,rfl⟩ .nil,Heap.get?_push_size _ rfl⟩,rfl,q _ fr⟩
 cases h1:(decide (z.length < y.length)||decide (Builtin.Str.strKind z < Builtin.Str.strKind y)) with
 | true=>exact call_meets F.slot_str_split (typeIs_str _ _ _) F.entry_str_split (F.args_str_split_2 _ _) (meets_str_split_cannot_occur z y t t' h1) (itself (if_pos h1))
 | false=>
   cases hf:(Builtin.Str.occurrences z y 0 z.length (z.length + 1)).isEmpty with
   | true=>exact call_meets F.slot_str_split (typeIs_str _ _ _) F.entry_str_split (F.args_str_split_2 _ _) (meets_str_split_not_found z y t t' h1 hy hf) (itself ((if_neg (ne_true_of_eq_false h1)).trans (if_pos hf)))
   | false=>
     have e:Txt.split z y=Builtin.Str.partsBetween z (Builtin.Str.occurrences z y 0 z.length (z.length + 1)) y.length:=(if_neg (ne_true_of_eq_false h1)).trans (if_neg (ne_true_of_eq_false hf))
     refine call_meets F.slot_str_split (typeIs_str _ _ _) F.entry_str_split (F.args_str_split_2 _ _) (meets_str_split_sep z y t t' h1 hy hf (by omega) (by rw [← e];omega)) ?_
     refine ⟨.ref s.heap.objs.size,_,I.laid (fun b o e=>Heap.get?_push_of_some _ e) (Nat.le_refl _) (o:= .lst ((Txt.split z y).map V.str)) ⟨by rw [List.length_map];omega,_,0,?_,Heap.get?_push_size _ rfl⟩,rfl,q _ fr⟩
     rw [e]
     exact x3 _ _
end
section
variable {σ:St} {H:Hp} {Q:VK} {D:Ends} {te ty tv td:TE} {x y v:V}
theorem LQ {z w:Str} (hw:w.length≠0) (hz:z.length + 2≤sizeLine) (h:∀ p H2,H p=none→Same H H2→H2 p=some (.lst ((Txt.split z w).map V.str))→Q (.ref p) H2):K1 (.str z) [.str w] H Q:=⟨z,w,rfl,rfl,hw,hz,fR h⟩
theorem gw {l:Addr} {xs:List V} (e:H l=some (.lst xs)) (hz:xs.length < sizeLine) (h:∀ H2,Upd H H2 l (.lst (xs++[y]))→Q .non H2):GH (.ref l) [y] H Q:=⟨l,xs,y,rfl,rfl,e,hz,h _ Upd.of⟩
noncomputable def Lu (v:V) (x:V) (D:Ends) (σ:St) (y:V) (H:Hp):Prop:=∃ a H4,x= .ref a∧DPut H a y v H4∧D.nx σ H4
theorem NX (h:tv σ H fun v H1=>td σ H1 fun x H2=>ty σ H2 (Lu v x D σ)):N7 td ty tv D σ H:=h
theorem L4 {p:Addr} {kvs:List (Key×V)} {z:Str} (e:H p=some (.dK kvs)) (hl:kvs.length < sizeLine) (h:∀ H2,Upd H H2 p (.dK (putK kvs (Sum.inr z) v))→D.nx σ H2):Lu v (.ref p) D σ (.str z) H:=⟨p,_,rfl,DPut.k (k:=Sum.inr z) e hl,h _ Upd.of⟩
noncomputable def Lw (x:V) (Q:VK) (y:V) (H:Hp):Prop:=∃ a v,x= .ref a∧DGet H a y (some v)∧Q v H
theorem N1 (h:td σ H fun x H1=>ty σ H1 (Lw x Q)):Np td ty σ H Q:=h
theorem L6 {p:Addr} {kvs:List (Key×V)} {z:Str} (e:H p=some (.dK kvs)) (l:valV kvs (Sum.inr z)=some v) (h:Q v H):Lw (.ref p) Q (.str z) H:=⟨p,v,rfl,by rw [← l];exact DGet.k (k:=Sum.inr z) e,h⟩
noncomputable def Lq (C:Addr) (m:Str) (sp:Sp) (E:XK) (tr:TA) (σ:St) (Q:VK) (x:V) (H:Hp):Prop:=∃ a dx fs,x= .ref a∧H a=some (.ins C dx fs)∧fs.lookup m=none∧tr σ H fun vs H2=>sp (x::(vs++[])) H2 Q E
theorem NJ {C:Addr} {m:Str} {sp:Sp} {E:XK} {tr:TA} (h:te σ H (Lq C m sp E tr σ Q)):Nk C m sp [] E te tr σ H Q:=h
theorem dG {C dx p:Addr} {m:Str} {fs:List (Str×V)} {sp:Sp} {E:XK} {tr:TA} (e:H p=some (.ins C dx fs)) (l:fs.lookup m=none) (h:tr σ H fun vs H2=>sp (.ref p::vs) H2 Q E):Lq C m sp E tr σ Q (.ref p) H:=⟨p,dx,fs,rfl,e,l,by simp only [List.append_nil];exact h⟩
theorem LT {K:PySem.W.Frag} {p:Addr} {xs:List V} (e:SqL K H p xs) (h:∀ q H2,H q=none→Same H H2→H2 q=some (.lst xs)→Q (.ref q) H2):Af K [.ref p] H Q:=⟨p,xs,rfl,.inl e,fR h⟩
theorem LS {K:PySem.W.Frag} {p:Addr} {xs:List V} (e:SqT K H p xs) (h:∀ q H2,H q=none→Same H H2→H2 q=some (.lst xs)→Q (.ref q) H2):Af K [.ref p] H Q:=⟨p,xs,rfl,.inr e,fR h⟩
theorem Nz {K:PySem.W.Frag} {p:Addr} {xs:List V} (e:SqL K H p xs) (h:∀ q H2,H q=none→Same H H2→H2 q=some (.tup xs)→Q (.ref q) H2):GF K [.ref p] H Q:=⟨p,xs,rfl,.inl ⟨e,fR h⟩⟩
theorem Ny {K:PySem.W.Frag} {p:Addr} {xs:List V} (e:SqT K H p xs) (h:Q (.ref p) H):GF K [.ref p] H Q:=⟨p,xs,rfl,.inr ⟨e,h⟩⟩
end
noncomputable def Mv (ch fr:List Addr) (h h':Heap):Prop:=(∀ b o,b∉ch→b∉fr→h.get? b=some o→h'.get? b=some o)∧∀ b o,b∉ch→b∈fr→h.get? b=some o→∃ sl,h'.get? b=some {o with slots:=sl}
noncomputable def FE (h:Heap) (e:Addr) (C:Value) (dx:Option Addr) (T:Option (Addr×Value)):Prop:=
 ∃ oe vs,h.get? e=some oe∧oe.cls=C∧oe.dict=dx∧oe.data= .fields vs∧1 < vs.size∧
   match T with
   | none=>vs[1]? =some .none
   | some (t,fl)=>vs[1]? =some (.ref t)∧t≠e∧∃ oT ts,h.get? t=some oT∧oT.data= .fields ts∧ts[3]? =some fl
section
variable {M:Model} {A:Around} {E:Value→Shared→Prop} {s:Shared}
theorem zd {h:Heap} {a:Addr} {o:Obj} {vs:Array Value} {i:Nat} {v:Value} (ho:h.get? a=some o) (hd:o.data= .fields vs):
  ∃ o',(h.update a (Obj.mapFields (·.setIfInBounds i v))).get? a=some o'∧o'.cls=o.cls∧o'.dict=o.dict∧o'.data= .fields (vs.setIfInBounds i v):=by
 have hd':=Obj.data_mapFields hd (·.setIfInBounds i v)
 refine ⟨_,Heap.get?_update_self (Obj.mapFields (·.setIfInBounds i v)) ho (Obj.isFreed_of_fields hd'),Obj.cls_mapFields _ _,?_,hd'⟩
 obtain ⟨c,d,dt,sl⟩:=o
 have hd:dt= .fields vs:=hd
 subst hd
 rfl
theorem Kt {base:Heap} {env:Env} {outer:List Env} {L e:Addr} {oe:Obj} {vs:Array Value} {head:Value} {b:Bool} {Q:Unit→Shared→Prop}
  (hfr:A.frames=some (env::outer)) (hl:s.heap.FunFrames base (env::outer)) (hf:env.frame=some L) (he:s.heap.get? e=some oe) (hd:oe.data= .fields vs) (hsz:1 < vs.size)
  (h:∀ h',Mv [e] (frs (env::outer)) s.heap h'→FE h' e oe.cls oe.dict (some (s.heap.objs.size,rawInt L))→Q () {s with heap:=h'}):
  wpAny M A (do let a ← frameOf env;let pl ← entryPlaceOf L b;let t ← EntryCells.newEntry head a .none (rawInt L) .none pl;setField (.ref e) 1 t) Q E s:=by
 have ne:e∉frs (env::outer):=fun hm=>by
  obtain ⟨_,o,ho,hnf⟩:=hl.mem hm
  rw [he] at ho;cases ho;exact hnf vs hd
 refine wpAny_bind (wpAny_frameOf_fun hfr hl hf fun g1 z1=>?_)
 refine wpAny_bind (wpAny_entryPlaceOf fun pl isp=>?_)
 unfold EntryCells.newEntry newFields
 refine wpAny_bind (wpAny_newObj_type ?_ (isp.sizeOk5 _ _ _ _ _))
 have e1:g1.get? e=some oe:=(z1.2.1 e ne).trans he
 have sz:g1.objs.size=s.heap.objs.size:=z1.1
 generalize hob:({cls:= .type "traceback",dict:=none,data:= .fields ([head,.ref L,.none,rawInt L,.none]++(if pl.isEmpty then List.replicate 6 Value.none else pl)).toArray}:Obj)=ob
 have e2:(g1.push ob).get? e=some oe:=Heap.get?_push_of_some ob e1
 refine wpAny_setField e2 hd hsz ?_
 have lt:e < g1.objs.size:=Heap.lt_size e1
 obtain ⟨o',q1,q2,q3,q4⟩:=zd (i:=1) (v:= .ref g1.objs.size) e2 hd
 have oth:∀ c,c≠e→((g1.push ob).update e (Obj.mapFields (·.setIfInBounds 1 (Value.ref g1.objs.size)))).get? c=(g1.push ob).get? c:=fun c hc=>Heap.get?_update_other _ _ (Ne.symm hc)
 have old:∀ c o,c≠e→g1.get? c=some o→((g1.push ob).update e (Obj.mapFields (·.setIfInBounds 1 (Value.ref g1.objs.size)))).get? c=some o:=fun c o hc q=>(oth c hc).trans (Heap.get?_push_of_some ob q)
 refine h _ ⟨fun c o n m q=>old c o (fun z=>n (by rw [z];exact List.mem_singleton.mpr rfl)) ((z1.2.1 c m).trans q),fun c o n m q=>?_⟩ ⟨o',_,q1,q2,q3,q4,by simpa using hsz,?_⟩
 ·obtain ⟨sl,q'⟩:=z1.2.2 c o q
  exact ⟨sl,old c _ (fun z=>n (by rw [z];exact List.mem_singleton.mpr rfl)) q'⟩
 ·have nt:g1.objs.size≠e:=Nat.ne_of_gt lt
  refine ⟨by rw [← sz];simp [hsz],by rw [← sz];exact nt,ob,_,?_,by rw [← hob],?_⟩
  ·rw [← sz,oth _ nt]
   exact Heap.get?_push_size g1 (by rw [← hob];rfl)
  ·first | (simp;done) | (rcases isp with rfl | ⟨_,_,_,_,_,_,_,rfl⟩<;>simp)
theorem HP {e t:Addr} {C:Value} {dx:Option Addr} {fl:Value} {fr:Option Addr} {Q:Unit→Shared→Prop} (x:FE s.heap e C dx (some (t,fl)))
  (h:∀ h',(∀ b o,b≠t→s.heap.get? b=some o→h'.get? b=some o)→FE h' e C dx (some (t,fr.elim .none fun f=>rawInt f))→Q () {s with heap:=h'}):wpAny M A (setFlight (.ref e) fr) Q E s:=by
 obtain ⟨oe,vs,he,hc,hdx,hd,hsz,h1,hte,oT,ts,hT,hdT,h3⟩:=x
 unfold setFlight
 refine wpAny_bind (wpAny_field he hd h1 ?_)
 rw [if_pos (show (Value.ref t != Value.none)=true from by simp)]
 refine wpAny_setField hT hdT (Array.getElem?_eq_some_iff.mp h3).1 ?_
 obtain ⟨o',q1,q2,q3,q4⟩:=zd (i:=3) (v:=fr.elim .none fun f=>rawInt f) hT hdT
 have oth:∀ c,c≠t→(s.heap.update t (Obj.mapFields (·.setIfInBounds 3 (fr.elim Value.none fun f=>rawInt f)))).get? c=s.heap.get? c:=fun c hc=>Heap.get?_update_other _ _ (Ne.symm hc)
 refine h _ (fun b o hb q=>(oth b hb).trans q) ⟨oe,vs,(oth e (Ne.symm hte)).trans he,hc,hdx,hd,hsz,h1,hte,o',_,q1,q4,?_⟩
 have:=(Array.getElem?_eq_some_iff.mp h3).1
 simp [this]
end
section
variable {X:Cx} {pins:List (Addr×Obj)} {σ:St} {H:Hp} {s:Shared}
theorem Inv.mv {h':Heap} {ch:List Addr} (I:Inv X pins σ H s) (m:Mv ch (frs X.stack) s.heap h') (fp:∀ b∈ch,FpOk X pins H b):Inv X pins σ H {s with heap:=h'}:=by
 have nit:∀ b u,H b=some u→b∉ch:=fun b u e z=>by rw [(fp b z).1] at e;cases e
 have nfr:∀ b u,H b=some u→b∉frs X.stack:=fun b u e z=>by rw [I.stkFree b z] at e;cases e
 have any:∀ b o,b∉ch→s.heap.get? b=some o→∃ sl,h'.get? b=some {o with slots:=sl}:=fun b o n e=>by
  by_cases z:b∈frs X.stack
  ·exact m.2 b o n z e
  ·exact ⟨o.slots,m.1 b o n z e⟩
 refine I.step (g':=s.gens) (d':=s.drawn) (t':=s.toks) (ch:=ch) (fun b hb=>?_) (fun b ob hL hb hc e _=>m.1 b ob hc (fun z=>(List.mem_cons.mp (I.stkSub b z)).elim hL hb) e) (fun b ob _ _ hc e _=>any b ob hc e) (fun b ob _ e n=>n) (fun b ob hc e=>let ⟨sl,q⟩:=any b ob hc e;⟨_,q⟩)
  (fun b xs e=>e) (fun b ob u e=>e) (fun b ps e=>⟨#[],by rw [e];simp⟩) (fun m' hm=>?_) (fun b u e=>?_) I.bare
 ·obtain ⟨f0,f1,f2,f3,f4,f5⟩:=fp b hb
  exact ⟨f3,f1,f4,f5⟩
 ·obtain ⟨ob,es,ep,ho,r⟩:=hm
  obtain ⟨sl,q⟩:=any _ ob (fun z=>(fp _ z).2.1 rfl) ho
  exact ⟨_,es,ep,q,r⟩
 ·refine (I.hok b u e).stay (fun c v hc q=>m.1 c v ?_ ?_ q) (fun c q=>q) fun c xs q=>q
  ·rcases hc with z | z
   ·rw [z];exact nit b u e
   ·exact nit c _ z
  ·rcases hc with z | z
   ·rw [z];exact nfr b u e
   ·exact nfr c _ z
theorem dB.there {P:Program} {w:World} {h:Heap} {a:Addr} {o:HO} (x:dB P w H h a o):∃ o',h.get? a=some o':=by
 cases o with
 | lst xs=>obtain ⟨_,_,_,_,e⟩:=x;exact ⟨_,e⟩
 | tup xs=>obtain ⟨_,_,_,_,e,_⟩:=x;exact ⟨_,e⟩
 | dK kvs=>obtain ⟨_,_,_,_,o,_,_,e,_⟩:=x;exact ⟨_,e⟩
 | dT kvs=>obtain ⟨_,_,_,_,o,_,_,e,_⟩:=x;exact ⟨_,e⟩
 | set S n=>obtain ⟨o,_,_,_,e,_⟩:=x;exact ⟨_,e⟩
 | ins C dx fs=>obtain ⟨_,_,_,e,_⟩:=x;exact ⟨_,e⟩
 | own y=>obtain ⟨_,e⟩:=x;exact ⟨_,e⟩
 | xd fs=>obtain ⟨_,⟨_,_,_,e,_⟩,_⟩:=x;exact ⟨_,e⟩
 | rng lo hi=>obtain ⟨_,_,_,e⟩:=x;exact ⟨_,e⟩
 | frz ob u=>obtain ⟨e,_⟩:=x;exact ⟨_,e⟩
 | tbl ps=>exact ⟨_,(show h.get? a=some _ from x)⟩
 | met f y=>exact ⟨_,(show h.get? a=some _ from x)⟩
 | ext φ=>obtain ⟨_,⟨_,e⟩,_⟩:=x;exact ⟨_,e⟩
theorem HOk.none_ {P:Program} {w:World} {h:Heap} {a:Addr} (x:HOk P w H h) (e:h.get? a=none):H a=none:=by
 cases q:H a with
 | none=>rfl
 | some u=>obtain ⟨o,z⟩:=(x a u q).there;rw [e] at z;cases z
noncomputable def FpN (X:Cx) (pins:List (Addr×Obj)) (H:Hp) (b:Addr):Prop:=
 H b=none∧b≠X.env.locals∧b∉X.fs∧(b∈X.ex∨X.s₀.heap.get? b=none)∧(∀ x c,X.env.cells.lookup x=some c→c≠b)∧∀ p∈X.pn++pins,p.1≠b
theorem FpOk.n {b:Addr} (f:FpOk X pins H b):FpN X pins H b:=⟨f.1,f.2.1,f.2.2.1,f.2.2.2.1.imp id Heap.get?_none_of_le,f.2.2.2.2⟩
theorem Inv.fpN {H':Hp} {b:Addr} (I:Inv X pins σ H s) (hb:s.heap.get? b=none) (hn:H' b=none):FpN X pins H' b:=by
 refine ⟨hn,fun z=>?_,fun z=>?_,?_,fun x c e z=>?_,fun p hp z=>?_⟩
 ·obtain ⟨m,⟨o,es,ep,ho,r⟩,_⟩:=I.loc
  rw [← z,hb] at ho;cases ho
 ·obtain ⟨_,o,ho,_⟩:=I.ok.funs.mem z
  obtain ⟨o',e'⟩:=I.base.there b o ho fun y=>I.ok.exfs b y z
  rw [hb] at e';cases e'
 ·by_cases z:b∈X.ex
  ·exact .inl z
  ·cases q:X.s₀.heap.get? b with
   | none=>exact .inr rfl
   | some o=>obtain ⟨o',e'⟩:=I.base.there b o q z;rw [hb] at e';cases e'
 ·obtain ⟨v,o,q,_⟩:=I.cell x c e
  rw [z,hb] at q;cases q
 ·have:=(I.pin p hp).1
  rw [z,hb] at this;cases this
theorem Inv.mvN {h':Heap} {ch:List Addr} (I:Inv X pins σ H s) (m:Mv ch (frs X.stack) s.heap h') (fp:∀ b∈ch,FpN X pins H b):Inv X pins σ H {s with heap:=h'}:=by
 have out:∀ b o,X.s₀.heap.get? b=some o→b∉X.ex→b∉ch++X.ex:=fun b o e n z=>by
  rcases List.mem_append.mp z with z | z
  ·rcases (fp b z).2.2.2.1 with y | y
   ·exact n y
   ·rw [e] at y;cases y
  ·exact n z
 have sub:∀ b,b∉ch++X.ex→b∉X.ex:=fun b n z=>n (List.mem_append_right _ z)
 have ok:Cx.Ok {X with ex:=ch++X.ex}:=⟨I.ok.mod,I.ok.kind,I.ok.glob,I.ok.blt,I.ok.above,I.ok.inj,I.ok.has,I.ok.cab,I.ok.hd,I.ok.frames,I.ok.stk,
  fun b hb=>(List.mem_append.mp hb).elim (fun z=>⟨(fp b z).2.1,(fp b z).2.2.2.2.1⟩) (I.ok.exf b),I.ok.bs,I.ok.bsz,fun b o e=>out b o (I.ok.bs b o e).1 (I.ok.noex b o e),
  fun b hb=>(List.mem_append.mp hb).elim (fun z=>(fp b z).2.2.1) (I.ok.exfs b),I.ok.funs,I.ok.frf⟩
 have U:=I.base
 have J:Inv {X with ex:=ch++X.ex} pins σ H s:=⟨ok,I.os,I.bare,⟨fun b o e n f z=>U.keep b o e n f (sub b z),fun b o e n f z=>U.slot b o e n f (sub b z),fun b o e n z=>U.free b o e n (sub b z),fun b o e z=>U.there b o e (sub b z),U.tups,U.frzs,U.tbls⟩,
  I.loc,I.cell,I.free,I.freeC,I.pin,I.hok,I.len⟩
 have J':=J.mv (h':=h') (ch:=ch) m fun b hb=>⟨(fp b hb).1,(fp b hb).2.1,(fp b hb).2.2.1,.inl (List.mem_append_left _ hb),(fp b hb).2.2.2.2⟩
 have V:=J'.base
 exact ⟨I.ok,J'.os,J'.bare,⟨fun b o e n f z=>V.keep b o e n f (out b o e z),fun b o e n f z=>V.slot b o e n f (out b o e z),fun b o e n z=>V.free b o e n (out b o e z),fun b o e z=>V.there b o e (out b o e z),V.tups,V.frzs,V.tbls⟩,
  J'.loc,J'.cell,J'.free,J'.freeC,J'.pin,J'.hok,J'.len⟩
structure Fly (X:Cx) (pins:List (Addr×Obj)) (H:Hp) (e:Addr) (C:Value) (dx:Option Addr) (T:Option (Addr×Value)) (h:Heap):Prop where
 at_:FE h e C dx T
 fe:FpN X pins H e
 ft:∀ t fl,T=some (t,fl)→FpN X pins H t
noncomputable def Own (X:Cx):Prop:=X.stack=X.env::X.outer∧X.env.frame=some X.env.locals
theorem GZ {M:Model} {E:Value→Shared→Prop} {e:Addr} {C:Value} {dx:Option Addr} {T:Option (Addr×Value)} {Q:Unit→Shared→Prop} (I:Inv X pins σ H s) (ow:Own X) (f:Fly X pins H e C dx T s.heap)
  (h:∀ h' t,Inv X pins σ H {s with heap:=h'}→Fly X pins H e C dx (some (t,rawInt X.env.locals)) h'→Q () {s with heap:=h'}):wpAny M X.A (noteFrame (.ref e) X.env) Q E s:=by
 obtain ⟨ho,hf⟩:=ow
 have hfr:X.A.frames=some (X.env::X.outer):=by rw [I.ok.frames,ho]
 have hst:s.heap.FunFrames X.base (X.env::X.outer):=by rw [← ho];exact I.stack
 obtain ⟨⟨oe,vs,he,hc,hdx,hd,hsz,hT⟩,fe,ft⟩:=f
 have fin:∀ (s1:Shared) (oe1:Obj) (vs1:Array Value) (hd1:Value) (b1:Bool),Inv X pins σ H s1→s1.heap.objs.size=s.heap.objs.size→s1={s with heap:=s1.heap}→s1.heap.get? e=some oe1→oe1.cls=C→oe1.dict=dx→oe1.data= .fields vs1→1 < vs1.size→
   wpAny M X.A (do let a ← frameOf X.env;let pl ← entryPlaceOf X.env.locals b1;let t ← EntryCells.newEntry hd1 a .none (rawInt X.env.locals) .none pl;setField (.ref e) 1 t) Q E s1:=by
  intro s1 oe1 vs1 hd1 b1 I1 hz hs1 q1 q2 q3 q4 q5
  have hst1:s1.heap.FunFrames X.base (X.env::X.outer):=by rw [← ho];exact I1.stack
  refine Kt hfr hst1 hf q1 q4 q5 fun h' m x=>?_
  have I2:Inv X pins σ H {s1 with heap:=h'}:=I1.mvN (ch:=[e]) (by rw [ho];exact m) fun b hb=>by rw [List.mem_singleton.mp hb];exact fe
  have e2:({s1 with heap:=h'}:Shared)={s with heap:=h'}:=by rw [hs1]
  rw [e2] at I2 ⊢
  rw [q2,q3] at x
  exact h h' _ I2 ⟨x,fe,fun t fl z=>by cases z;exact (I1.fpOk (Nat.le_refl _) (I1.hok.fresh (Nat.le_refl _))).n⟩
 unfold noteFrame
 simp only [hf]
 cases T with
 | none=>
   have h1:vs[1]? =some .none:=hT
   refine wpAny_bind (wpAny_field he hd h1 ?_)
   rw [if_neg (by decide)]
   exact fin s oe vs _ _ I rfl rfl he hc hdx hd hsz
 | some p=>
   obtain ⟨t,fl⟩:=p
   obtain ⟨h1,hte,oT,ts,hTt,hdT,h3⟩:=hT
   refine wpAny_bind (wpAny_field he hd h1 ?_)
   rw [if_pos (show (Value.ref t != Value.none)=true from by simp)]
   refine wpAny_bind (wpAny_field hTt hdT h3 ?_)
   by_cases hz:(fl == rawInt X.env.locals)=true
   ·rw [if_pos hz]
    have hz':=eq_of_beq hz
    subst hz'
    exact wpAny_pure (h s.heap t I ⟨⟨oe,vs,he,hc,hdx,hd,hsz,h1,hte,oT,ts,hTt,hdT,h3⟩,fe,ft⟩)
   ·rw [if_neg hz]
    refine wpAny_bind (wpAny_setField hTt hdT (Array.getElem?_eq_some_iff.mp h3).1 ?_)
    have oth:∀ c,c≠t→(s.heap.update t (Obj.mapFields (·.setIfInBounds 3 Value.none))).get? c=s.heap.get? c:=fun c hc=>Heap.get?_update_other _ _ (Ne.symm hc)
    have m1:Mv [t] (frs X.stack) s.heap (s.heap.update t (Obj.mapFields (·.setIfInBounds 3 Value.none))):=
     ⟨fun b o n _ q=>(oth b (fun z=>n (by rw [z];exact List.mem_singleton.mpr rfl))).trans q,fun b o n _ q=>⟨o.slots,(oth b (fun z=>n (by rw [z];exact List.mem_singleton.mpr rfl))).trans q⟩⟩
    have I1:=I.mvN m1 fun b hb=>by rw [List.mem_singleton.mp hb];exact ft t fl rfl
    exact fin _ oe vs _ _ I1 (Heap.size_after_update ..) rfl ((oth e (Ne.symm hte)).trans he) hc hdx hd hsz
theorem Cl {M:Model} {A:Around} {E:Value→Shared→Prop} {e t:Addr} {C:Value} {dx:Option Addr} {fl:Value} {fr:Option Addr} {Q:Unit→Shared→Prop} (I:Inv X pins σ H s) (f:Fly X pins H e C dx (some (t,fl)) s.heap)
  (h:∀ h',Inv X pins σ H {s with heap:=h'}→Fly X pins H e C dx (some (t,fr.elim .none fun f=>rawInt f)) h'→Q () {s with heap:=h'}):wpAny M A (setFlight (.ref e) fr) Q E s:=by
 refine HP f.at_ fun h' k x=>h h' (I.mvN (ch:=[t]) ⟨fun b o n _ q=>k b o (fun z=>n (by rw [z];exact List.mem_singleton.mpr rfl)) q,fun b o n _ q=>⟨o.slots,k b o (fun z=>n (by rw [z];exact List.mem_singleton.mpr rfl)) q⟩⟩ fun b hb=>by rw [List.mem_singleton.mp hb];exact f.ft t fl rfl) ⟨x,f.fe,fun t' fl' z=>by cases z;exact f.ft t fl rfl⟩
end
noncomputable abbrev XW:=St→XK
noncomputable def XE (X:Cx) (W:XW) (e:Value) (s:Shared):Prop:=∃ pins x C dx T σ H,e= .ref x∧Inv X pins σ H s∧Fly X pins H x C dx T s.heap∧W σ C dx H
noncomputable def Thr (X:Cx) (W:XW):Prop:=∀ e s,XE X W e s→X.xe e s
noncomputable abbrev Cx.thr (X:Cx) (W:XW):Cx:=X.wish (XE X W)
noncomputable abbrev W0:XW:=fun _ _ _ _=>False
section
variable {X:Cx} {W:XW} {pins:List (Addr×Obj)} {σ:St} {H:Hp} {s:Shared}
theorem Fly.wish {E:Value→Shared→Prop} {e:Addr} {C:Value} {dx:Option Addr} {T:Option (Addr×Value)} {h:Heap} (f:Fly (X.wish E) pins H e C dx T h):Fly X pins H e C dx T h:=⟨f.at_,f.fe,f.ft⟩
theorem fz:Thr (X.thr W) W:=fun e s ⟨pins,x,C,dx,T,σ,H,he,I,f,w⟩=>⟨pins,x,C,dx,T,σ,H,he,I.unwish,f.wish,w⟩
theorem thr0:Thr X W0:=fun e s ⟨pins,x,C,dx,T,σ,H,he,I,f,w⟩=>w.elim
theorem PSs.thr {st:List Stmt} {t:TS} (h:PSs (X.thr W) st t) (k:Thr X W):PSs X st t:=fun pins s σ H D I hw=>
 wpAny_mono (h pins s σ H D (I.wish _) hw) (fun _ _ q=>q.unwish) k
end
noncomputable def CX1 (P:Program) (w:World):CXT:=fun outer H s E e s'=>∃ x C dx t H',e= .ref x∧s'.os=s.os∧AllBare s'.gens∧Un (frs outer) [] H H' s.heap s'.heap∧HOk P w H' s'.heap∧
 FE s'.heap x C dx (some (t,.none))∧s.heap.get? x=none∧s.heap.get? t=none∧H' x=none∧H' t=none∧E C dx H'
section
variable {P:Program} {w:World} {K:PySem.W.Frag} {mg:Str→Option Value} {base:Heap}
theorem Kg {N:List Str} {qual:Str} {scope:Scope} {f:Addr} {cd:Value} {A:Around} {outer:List Env} {s:Shared} {H:Hp} {E:XK}:
  Thr (cxOf (CX1 P w) P w K mg base N qual scope f cd A outer s H E) fun _=>E:=by
 intro e s' ⟨pins,x,C,dx,T,σ,H',he,I,f',wq⟩
 subst he
 have own:Own (cxOf (CX1 P w) P w K mg base N qual scope f cd A outer s H E):=⟨rfl,rfl⟩
 show wpAny _ _ (leaving _ _) _ _ _
 unfold leaving
 refine wpAny_bind (GZ I own f' fun h1 t I1 f1=>?_)
 refine Cl (fr:=none) I1 f1 fun h2 I2 f2=>?_
 have fx:=f2.fe
 have ft:=f2.ft t _ rfl
 have no:∀ b:Addr,(b∈([]:List Addr)∨s.heap.get? b=none)→s.heap.get? b=none:=fun b z=>z.elim (fun q=>absurd q (by simp)) id
 exact ⟨x,C,dx,t,H',rfl,I2.os,I2.bare,I2.base,I2.hok,f2.at_,no x fx.2.2.2.1,no t ft.2.2.2.1,fx.1,ft.1,wq⟩
theorem Fun.okX {x qual:Str} {st:Stmt} {f:Addr} {fd:FuncData} {N ps:List Str} {k:Nat} {sp:Sp} (F:Fun K x qual st f fd) (S:aI N ps (ae st)) (len:∀ vs H Q E,sp vs H Q E→vs.length=ps.length)
  (hbody:∀ (cdv:Value) (A:Around) (outer:List Env) (s:Shared) (H:Hp) (vs:List V) (Q:VK) (E:XK),Room k (A.deeper (envOfC qual (ae st) s.heap.objs.size f cdv))→sp vs H Q E→
   ∃ t,PSs ((cxOf (CX1 P w) P w K mg base N qual (ae st) f cdv A outer s H E).thr fun _=>E) (aE st) t∧t {nx:=fun _ H'=>Q .non H',rt:=Q} (start N vs) H):FnOk P w K mg base (CX1 P w) (k + 1) f fd ps sp:=by
 obtain ⟨oc,od,kV,doc,pm,an,cdv,ct,osl,rfl,lk,hcd⟩:=F.ex
 refine OV lk hcd S len fun A outer s H vs Q E hr hsp=>?_
 obtain ⟨t,h,q⟩:=hbody cdv A outer s H vs Q E hr hsp
 exact ⟨t,h.thr Kg,q⟩
end
section
variable {X:Cx} {W:XW} {pins:List (Addr×Obj)} {σ:St} {H:Hp} {s s':Shared}
theorem Inv.afterX {e:Value} (I:Inv X pins σ H s) (hx:Thr X W) (h:CX1 X.prog X.w X.stack H s (W σ) e s'):X.xe e s':=by
 obtain ⟨x,C,dx,t,H',rfl,os,bare,un,hok,ea,zx,zt,nx,nt,w⟩:=h
 refine hx _ _ ⟨pins,x,C,dx,_,σ,H',rfl,I.call' (ch:=[]) os un hok bare (fun b z=>absurd z (by simp)),⟨ea,I.fpN zx nx,fun t' fl z=>?_⟩,w⟩
 cases z
 exact I.fpN zt nt
variable {k:Nat} {f C:Addr} {fd:FuncData} {ps:List Str} {sp:Sp} {dvs:List V} {ds:List Value} {x m:Str} {p pos apos:Pos} {e o:Expr} {es:List Expr} {ta:TE} {t:TA}
theorem GC {Q:VK} {us:List Value} {vs:List V} (F:FnOk X.prog X.w X.K X.mg X.base (CX1 X.prog X.w) k f fd ps sp) (hr:Room k X.A) (hb:bM X.K fd ps ds) (hd:Vals dvs ds) (hx:Thr X W)
  (I:Inv X pins σ H s) (r:Vals vs us) (h:sp (vs++dvs) H Q (W σ)):wpAny (model X.prog X.w) X.A (call (.ref f) us) (EP X pins σ Q) X.xe s:=by
 have r2:Vals (vs++dvs) (us++ds):=r.append hd
 have hl:(us++ds).length=ps.length:=by rw [← r2.length];exact F.len _ _ _ _ h
 refine wpAny_call (codeAny_mono (F.run X.A X.stack s H ⟨us,[]⟩ (us++ds) (vs++dvs) Q (W σ) hr I.env0 (hb s us I.kIn hl) r2 h) fun r s' hq=>?_)
 cases r with
 | error e=>exact I.afterX hx hq
 | ok fl=>
   cases fl with
   | ret u=>exact I.after hq
   | next=>exact False.elim hq
   | brk=>exact False.elim hq
   | cont=>exact False.elim hq
noncomputable def F5 (sp:Sp) (dvs:List V) (W:XW) (t:TA):TE:=fun σ H Q=>t σ H fun vs H1=>sp (vs++dvs) H1 Q (W σ)
theorem L7 {σ:St} {H:Hp} {Q:VK} {sp:Sp} {W:XW} {t:TA} (h:t σ H fun vs H1=>sp vs H1 Q (W σ)):F5 sp [] W t σ H Q:=by
 unfold F5
 simpa using h
theorem jI (F:FnOk X.prog X.w X.K X.mg X.base (CX1 X.prog X.w) k f fd ps sp) (hr:Room k X.A) (hg:Gl X x) (hm:X.mg x=some (.ref f)) (hk:PySem.W.keepIn X.K (.ref f)=true) (hb:bM X.K fd ps ds) (hd:Vals dvs ds) (hx:Thr X W)
  (ha:PA X (e::es) t) (hdb:(x == ("__debug__":Str))=false:=by decide) (he:starEach (e::es) X.env=(false,eval e X.env)::starEach es X.env:=by rfl) (hpl:(backTo pos (starEach es X.env)).any (·.1)=false:=by rfl):
  PE X (.Call (.Name x p) (e::es) [] pos) (F5 sp dvs W t):=by
 intro pins s σ H Q I h
 refine wpAny_Call_Name_kw (gO I hg hm ?_ hdb)
 refine PySem.W.callWith_K (h₀:=X.base) I.ok.mod.kin hk (thn (ha pos pins s σ H _ I h) fun us s1 ⟨vs,H1,I1,r,q⟩=>⟨I1.kIn,?_⟩) he hpl
 exact GC F hr hb hd hx I1 r q
noncomputable def KR (C:Addr) (m:Str) (sp:Sp) (dvs:List V) (W:XW) (ta:TE) (t:TA):TE:=fun σ H Q=>ta σ H fun x H1=>∃ a dx fs,x= .ref a∧H1 a=some (.ins C dx fs)∧fs.lookup m=none∧
 t σ H1 fun vs H2=>sp (x::(vs++dvs)) H2 Q (W σ)
theorem JO {pl:Sem Bool} (he:PE X o ta) (c:Cls X.K C) (hm:Meth X.K C m f) (F:FnOk X.prog X.w X.K X.mg X.base (CX1 X.prog X.w) k f fd ps sp) (hr:Room k X.A) (hb:bM X.K fd ps ds) (hd:Vals dvs ds) (hx:Thr X W) (ha:PA X (e::es) t)
  (hst:starEach (e::es) X.env=(false,eval e X.env)::starEach es X.env:=by rfl) (hpl:(backTo pos (starEach es X.env)).any (·.1)=false:=by rfl)
  (ht:eval (.Call (.Attribute o m apos) (e::es) [] pos) X.env=(do
   let ov ← eval o X.env
   standAt apos.atName
   let (f,first) ← holding [ov] (getMethod ov m pl)
   callWith pos f first (backTo pos (starEach (e::es) X.env)) (backToKw pos (keywordEach [] X.env))):=by rfl):
  PE X (.Call (.Attribute o m apos) (e::es) [] pos) (KR C m sp dvs W ta t):=by
 intro pins s σ H Q I h
 refine PySem.W.methodCall_KW (pl:=pl) (thn (he pins s σ H _ I h) fun u s1 ⟨x,H1,I1,rx,a,dx,fs,ex,ea,l,q⟩=>?_) ht
 subst ex
 obtain rfl:u=Value.ref a:=rx
 refine vx I1 ea c hm l ?_
 refine PySem.W.callWith_K (first:=[.ref a]) (h₀:=X.base) I.ok.mod.kin hm.kp (thn (ha pos pins s1 σ H1 _ I1 q) fun us s2 ⟨vs,H2,I2,r,q2⟩=>⟨I2.kIn,?_⟩) hst hpl
 exact GC (us:= .ref a::us) (vs:= .ref a::vs) F hr hb hd hx I2 (.cons rfl r) q2
end
structure XCls (h:Heap) (C:Addr) (bmB:List Value) (newId:String):Prop where
 obj:∃ bm N nm q bs hdct sn sub ab col dd k0 k1 k2 k3 k5 mN,h.get? C=some (excClassObj nm q C N bs bm hdct sn sub ab col dd k0 k1 k2 k3 k5 newId)∧h.Ns N mN∧mN "__init__"=none∧OwnTail h bmB bm
theorem LB {K:PySem.W.Frag} {h:Heap} {C:Addr} {bmB:List Value} {newId:String} (X:K.In h) (q:PySem.W.excIn K C bmB newId=true):XCls h C bmB newId:=by
 refine ⟨?_⟩
 unfold PySem.W.excIn at q
 split at q
 next dd cd sl ho=>
  split at q
  next C' bm k0 k1 k2 k3 n k5 hm hs=>
   simp only [Bool.and_eq_true,beq_iff_eq,Bool.not_eq_true'] at q
   obtain ⟨⟨⟨⟨⟨e1,e2⟩,hdel⟩,ht⟩,hok⟩,hni⟩:=q
   subst e1 e2
   cases cd with
   | mk nm bs mro ns qn hd sn sub ab col del=>
   have hm:mro=_:=hm
   have hdel:del=false:=hdel
   subst hm hdel
   have hsl:sl=#[k0,k1,k2,k3,some (.builtin n),k5]:=by rw [← hs]
   subst hsl
   exact ⟨bm,ns,nm,qn,bs,hd,sn,sub,ab,col,dd,k0,k1,k2,k3,k5,_,X _ _ ho,.of_isNs (PySem.W.isNs_of_in X hok),PySem.W.nsMap_none_of_in X hok hni,PySem.W.tail_of_in X ht⟩
  next=>cases q
 next=>cases q
section
variable {X:Cx} {W:XW} {C:Addr} {x:Str} {np cpos pos:Pos} {e:Expr} {es:List Expr} {t:TA} {B newId initId:String} {bmB:List Value}
noncomputable def KQ (C:Addr) (W:XW) (t:TA):TS:=fun _ σ H=>t σ H fun vs H1=>vs.length≤sizeLine∧W σ (.ref C) none H1
theorem G9 {pins:List (Addr×Obj)} {σ:St} {H:Hp} {s:Shared} {h':Heap} {a:Addr} {vs:List Value} (I:Inv X pins σ H s) (m:Heap.MadeExcOf s.heap h' a (.ref C) vs):
  Inv X pins σ H {s with heap:=h'}∧Fly X pins H a (.ref C) none none h':=by
 obtain ⟨tt,q1,q2,q3⟩:=m.there
 exact ⟨I.mvN (ch:=[]) ⟨fun b o _ _ e=>m.keeps b o e,fun b o _ _ e=>⟨o.slots,m.keeps b o e⟩⟩ fun b z=>absurd z (by simp),⟨⟨_,_,q1,rfl,rfl,rfl,by simp,by simp⟩,I.fpN m.new (I.hok.none_ m.new),fun t fl z=>by cases z⟩⟩
theorem JM (FB:ExcBaseFacts B newId initId bmB) (q:PySem.W.excIn X.K C bmB newId=true) (hx:Thr X W) (hc:X.calm=true) (hg:Gl X x) (hm:X.mg x=some (.ref C)) (ha:PA X (e::es) t)
  (hdb:(x == ("__debug__":Str))=false:=by decide) (he:starEach (e::es) X.env=(false,eval e X.env)::starEach es X.env:=by rfl) (hpl:(backTo cpos (starEach es X.env)).any (·.1)=false:=by rfl):
  PS X (.Raise (some (.Call (.Name x np) (e::es) [] cpos)) none pos) (KQ C W t):=by
 intro pins s σ H D I h
 obtain ⟨tl,N,nm,qn,bs,hdct,sn,sub,ab,col,dd,k0,k1,k2,k3,k5,mN,hC,hN,hni,T⟩:=(LB I.ok.mod.kin q).obj
 refine wpAny_Raise_call_subT (C:=C) (nm:=nm) (q:=qn) (N:=N) (bs:=bs) (bm:=tl) (hdct:=hdct) (sn:=sn) (sub:=sub) (ab:=ab) (col:=col) (dd:=dd) (k0:=k0) (k1:=k1) (k2:=k2) (k3:=k3) (k5:=k5)
  FB (mN:=mN) (T.hasType FB.hasBase) (I.ok.hd hc) (by rw [he];show (false||(backTo cpos (starEach es X.env)).any (·.1))=false;rw [hpl];rfl) hni (gO I hg hm ⟨rfl,?_⟩ hdb)
 have ha':=ha cpos pins s σ H _ I h
 rw [he] at ha' ⊢
 refine Calls.evalArgs_plain (wpAny_mono ha' (fun us s2 ⟨vs,H1,I1,r,z,w⟩=>⟨rfl,?_,I1.bk _ _ hC,hN.keeps I1.bk,T.keeps I1.bk,fun h' a m=>?_⟩) fun _ _ y=>y)
 ·show us.length≤_
  rw [← r.length];exact z
 ·obtain ⟨I2,f2⟩:=G9 I1 m
  exact hx _ _ ⟨pins,a,.ref C,none,none,σ,H1,rfl,I2,f2,w⟩
end
structure nZ (K:PySem.W.Frag) (G:Addr):Prop where
 ty:PySem.W.typeIn K (.ref G)=some (.type "type")
 cls:PySem.W.isClsIn K G=true
 base:PySem.W.mroIn K G (.type "BaseException")=some true
theorem om {K:PySem.W.Frag} {M:Model} {h:Heap} {G:Addr} (X:K.In h) (c:PySem.W.isClsIn K G=true):PySem.W.Looks M h (isType (.ref G)) true:=by
 unfold PySem.W.isClsIn PySem.W.clsIn at c
 split at c
 next c' d' cd' sl' ho=>
  intro A' Q' E' s' k q
  unfold isType loadHead
  exact wpAny_bind (wpAny_loadPart (k _ _ (X _ _ ho)) (wpAny_pure q))
 next=>cases c
theorem vo {K:PySem.W.Frag} {M:Model} {A:Around} {E:Value→Shared→Prop} {s:Shared} {a G C:Addr} {oe:Obj} {b:Bool} {Q:Bool→Shared→Prop} (X:K.In s.heap) (c:nZ K G) (he:s.heap.get? a=some oe) (hc:oe.cls= .ref C)
  (hm:PySem.W.mroIn K C (.ref G)=some b) (q:Q b s):wpAny M A (excMatches (.ref a) (.ref G)) Q E s:=by
 unfold excMatches isInstance
 refine wpAny_bind (wpAny_bind ((PySem.W.looks_typeIn X c.ty).here ?_))
 rw [tc_notTuple]
 refine wpAny_pure ?_
 simp only [Bool.false_eq_true,if_false]
 refine wpAny_bind (wpAny_pure ?_)
 simp only [List.forIn_cons,List.forIn_nil]
 unfold isExcClass
 refine wpAny_bind (wpAny_bind (wpAny_bind (wpAny_bind ((om X c.cls).here ?_))))
 simp only [if_true]
 refine (PySem.W.looks_mroIn X c.base).here ?_
 simp only [Bool.not_true,Bool.false_eq_true,if_false]
 refine wpAny_pure (wpAny_pure ?_)
 have L:PySem.W.Looks M s.heap (typeOf (.ref a)) (.ref C):=hc ▸ (PySem.W.Looks.ld he).andThen .now
 refine wpAny_bind (L.here ?_)
 refine wpAny_bind (wpAny_bind (wpAny_bind ((PySem.W.looks_mroIn X hm).here ?_)))
 cases b<;>simp only [Bool.false_eq_true,if_false,if_true]
 ·exact wpAny_pure (wpAny_pure (wpAny_pure q))
 ·exact wpAny_pure (wpAny_pure (wpAny_pure q))
section
variable {X:Cx} {pins:List (Addr×Obj)} {σ:St} {H:Hp} {s:Shared}
theorem xg {M:Model} {A:Around} {E:Value→Shared→Prop} {i:Nat} {n:Str} {pos:Pos} {Q:Unit→Shared→Prop} (I:Inv X pins σ H s) (hN:X.N.Nodup) (hi:X.N[i]? =some n) (hk:X.env.scope.names.lookup n=some .local)
  (h:∀ s',Inv X pins (σ.set i none) H s'→Q () s'):wpAny M A (do bindName X.env n .none;unbindBehindTheSuite X.env n pos) Q E s:=by
 obtain ⟨m,hn,hl⟩:=id I.loc
 have hcls:(X.env.scope.kind == .class||(X.env.scope.kind == .module&&X.env.locals != X.env.globals))=false:=by rw [I.ok.kind];rfl
 refine wpAny_nameGoes_keeps hk hn hcls fun h' v hn' hs=>h _ ?_
 obtain ⟨oL,_,_,hoL,_⟩:=id hn
 have far:∀ b o,X.s₀.heap.get? b=some o→b≠X.env.locals:=fun b o e=>Nat.ne_of_lt (Nat.lt_of_lt_of_le (Heap.lt_size e) I.ok.above)
 have U:=I.base
 refine ⟨I.ok,I.os,I.bare,⟨fun b o e n hb hx=>(hs.2 b (far b o e)).trans (U.keep b o e n hb hx),fun b o e n hb hx=>?_,U.free,fun b o e hx=>?_,U.tups,U.frzs,U.tbls⟩,⟨_,hn',fun j y v' e1 e2 e3=>?_⟩,fun y c e=>?_,I.free,I.freeC,fun p hp=>?_,fun b ob e=>?_,by simpa using I.len⟩
 ·obtain ⟨sl,e1⟩:=U.slot b o e n hb hx
  exact ⟨sl,(hs.2 b (far b o e)).trans e1⟩
 ·obtain ⟨o',e1⟩:=U.there b o e hx
  exact ⟨o',(hs.2 b (far b o e)).trans e1⟩
 ·by_cases hj:j=i
  ·subst hj
   have hiσ:j < σ.length:=by rw [I.len];exact (List.getElem?_eq_some_iff.mp hi).1
   rw [List.getElem?_set_self hiσ] at e2
   cases e2
  ·rw [List.getElem?_set_ne (Ne.symm hj)] at e2
   obtain ⟨u',r',q⟩:=hl j y v' e1 e2 e3
   refine ⟨u',r',?_⟩
   rcases q with ⟨k,e⟩ | ⟨k,c,e,z⟩
   ·refine .inl ⟨k,?_⟩
    have:y≠n:=fun e=>hj (wL hN e1 (e ▸ hi))
    simp [this,e]
   ·exact .inr ⟨k,c,e,z.sameBut hs (I.cne y c e)⟩
 ·obtain ⟨w',z⟩:=I.cell y c e
  exact ⟨w',z.sameBut hs (I.cne y c e)⟩
 ·obtain ⟨e,n,ne,nf,d⟩:=I.pin p hp
  exact ⟨(hs.2 p.1 ne).trans e,n,ne,nf,d⟩
 ·refine (I.hok b ob e).stay (fun c w' hc q=>(hs.2 c ?_).trans q) (fun _ q=>q) fun _ _ q=>q
  intro z
  subst z
  rcases hc with hc | hc
  ·rw [← hc,I.free] at e;cases e
  ·rw [I.free] at hc;cases hc
theorem Inv.track {x:Addr} {o:HO} (I:Inv X pins σ H s) (f:FpN X pins H x) (new:dB X.prog X.w (upd H x o) s.heap x o):Inv X pins σ (upd H x o) s:=by
 obtain ⟨f0,f1,f2,f3,f4,f5⟩:=f
 have ne:∀ b u,H b=some u→b≠x:=fun b u e z=>by rw [z,f0] at e;cases e
 have old:∀ b u,H b=some u→upd H x o b=some u:=fun b u e=>by rw [ar (ne b u e)];exact e
 have U:=I.base
 refine ⟨I.ok,I.os,I.bare,⟨U.keep,U.slot,fun b ob e n hx=>?_,U.there,fun b xs e=>old b _ (U.tups b xs e),fun b ob u e=>old b _ (U.frzs b ob u e),fun b ps e=>?_⟩,I.loc,I.cell,?_,fun y c e=>?_,fun p hp=>?_,fun b ob e=>?_,I.len⟩
 ·rw [ar (fun z=>?_)]
  ·exact U.free b ob e n hx
  ·subst z
   rcases f3 with y | y
   ·exact hx y
   ·rw [e] at y;cases y
 ·obtain ⟨m,q⟩:=U.tbls b ps e
  exact ⟨m,old b _ q⟩
 ·rw [ar (Ne.symm f1)];exact I.free
 ·rw [ar (f4 y c e)];exact I.freeC y c e
 ·obtain ⟨e,n,r⟩:=I.pin p hp
  exact ⟨e,by rw [ar (f5 p hp)];exact n,r⟩
 ·by_cases z:b=x
  ·subst z
   rw [av] at e
   cases e
   exact new
  ·rw [ar z] at e
   exact (I.hok b ob e).stay (fun _ _ _ q=>q) (fun c q=>old c _ q) fun c xs q=>old c _ q
end
noncomputable def ExcO (x:Addr) (C:Value) (dx:Option Addr):HO:= .ext fun h=>∃ oe vs,h.get? x=some oe∧oe.cls=C∧oe.dict=dx∧oe.data= .fields vs
theorem ML {P:Program} {w:World} {H:Hp} {h:Heap} {x:Addr} {C:Value} {dx:Option Addr} {T:Option (Addr×Value)} (e:FE h x C dx T):dB P w H h x (ExcO x C dx):=by
 obtain ⟨oe,vs,q1,q2,q3,q4,_⟩:=e
 exact ⟨⟨oe,vs,q1,q2,q3,q4⟩,⟨oe,q1⟩,fun h1 h2 ⟨oe,vs,q1,q2,q3,q4⟩ k=>⟨oe,vs,k _ q1,q2,q3,q4⟩⟩
noncomputable abbrev Cx.pin (X:Cx) (pins:List (Addr×Obj)):Cx:={X with pn:=X.pn++pins}
noncomputable abbrev Cx.mark (X:Cx) (pins:List (Addr×Obj)) (e:Value):Cx:={X with A:=X.A.mark (some e),calm:=false,pn:=X.pn++pins,xe:=fun _ _=>False}
section
variable {X:Cx} {pins pins':List (Addr×Obj)} {σ:St} {H:Hp} {s:Shared} {e:Value}
theorem Inv.toPin (I:Inv X pins σ H s):Inv (X.pin pins) [] σ H s:=
 ⟨⟨I.ok.mod,I.ok.kind,I.ok.glob,I.ok.blt,I.ok.above,I.ok.inj,I.ok.has,I.ok.cab,I.ok.hd,I.ok.frames,I.ok.stk,I.ok.exf,I.ok.bs,I.ok.bsz,I.ok.noex,I.ok.exfs,I.ok.funs,I.ok.frf⟩,I.os,I.bare,I.base,I.loc,I.cell,I.free,I.freeC,
   fun p hp=>I.pin p (by simpa using hp),I.hok,I.len⟩
theorem Inv.ofPin (ok:X.Ok) (I:Inv (X.pin pins) pins' σ H s):Inv X pins σ H s:=
 ⟨ok,I.os,I.bare,I.base,I.loc,I.cell,I.free,I.freeC,fun p hp=>I.pin p (List.mem_append_left _ hp),I.hok,I.len⟩
theorem Inv.toMark (I:Inv X pins σ H s):Inv (X.mark pins e) [] σ H s:=
 ⟨⟨I.ok.mod,I.ok.kind,I.ok.glob,I.ok.blt,I.ok.above,I.ok.inj,I.ok.has,I.ok.cab,(fun z=>absurd (show false=true from z) (by decide)),I.ok.frames,I.ok.stk,I.ok.exf,I.ok.bs,I.ok.bsz,I.ok.noex,I.ok.exfs,I.ok.funs,I.ok.frf⟩,I.os,I.bare,I.base,I.loc,I.cell,I.free,I.freeC,
   fun p hp=>I.pin p (by simpa using hp),I.hok,I.len⟩
theorem Inv.ofMark (ok:X.Ok) (I:Inv (X.mark pins e) pins' σ H s):Inv X pins σ H s:=
 ⟨ok,I.os,I.bare,I.base,I.loc,I.cell,I.free,I.freeC,fun p hp=>I.pin p (List.mem_append_left _ hp),I.hok,I.len⟩
theorem FpN.ofPin {b:Addr} (f:FpN (X.pin pins) pins' H b):FpN X pins H b:=⟨f.1,f.2.1,f.2.2.1,f.2.2.2.1,f.2.2.2.2.1,fun p hp=>f.2.2.2.2.2 p (List.mem_append_left _ hp)⟩
theorem Fly.ofPin {x:Addr} {C:Value} {dx:Option Addr} {T:Option (Addr×Value)} {h:Heap} (f:Fly (X.pin pins) pins' H x C dx T h):Fly X pins H x C dx T h:=⟨f.at_,f.fe.ofPin,fun t fl z=>(f.ft t fl z).ofPin⟩
end
noncomputable def Ends.less (D:Ends) (i:Nat):Ends:={nx:=fun σ H=>D.nx (σ.set i none) H,rt:=D.rt,bk:=fun σ H=>D.bk (σ.set i none) H,ct:=fun σ H=>D.ct (σ.set i none) H}
noncomputable def WTry (K:PySem.W.Frag) (G:Addr) (i:Nat) (Wo:XW) (ts:TS) (D:Ends):XW:=fun σ C dx H=>∃ c,C= .ref c∧((PySem.W.mroIn K c (.ref G)=some true∧∀ x,H x=none→ts (D.less i) (σ.set i (some (.ref x))) (upd H x (ExcO x C dx)))∨
 (PySem.W.mroIn K c (.ref G)=some false∧Wo σ C dx H))
structure XIsi (K:PySem.W.Frag) (D:Addr):Prop where
 cls:PySem.W.isClsIn K D=true
 ga:PySem.W.findIn K (.ref D) "__getattribute__"=some (some (.builtin "BaseException.__getattribute__"))
 gr:PySem.W.findIn K (.ref D) "__getattr__"=some none
 ha:PySem.W.findIn K (.ref D) "__class__"=some (some (.builtin "object.__class__"))
 hn:PySem.W.specialIn K (.builtin "object.__class__") "__get__"=some (some (.builtin "getset_descriptor.__get__"))
 tk:PySem.W.takesIn K (.builtin "object.__class__")=some true
 hm:PySem.W.mroIn K D (.type "object")=some true
 base:PySem.W.mroIn K D (.type "BaseException")=some true
section
variable {prog:Program} {w:World} {A:Around} {E:Value→Shared→Prop} {s:Shared} {K:PySem.W.Frag} {x D:Addr} {ox:Obj} {odo:Option Obj} {name:Str}
theorem Pz {a g:Value} {od:Option Obj} (hc:(PySem.W.clsIn K D).isSome=true) (ha:PySem.W.findIn K (.ref D) name=some (some a)) (hg:PySem.W.specialIn K a "__get__"=some (some g)) (ht:PySem.W.takesIn K a=some true):PySem.W.findObj K D od name=some (.bind g a):=by
 obtain ⟨cd,hc⟩:=Option.isSome_iff_exists.mp hc
 unfold PySem.W.findObj
 rw [hc,Option.bind_some,ha,Option.bind_some]
 simp [hg,ht]
theorem xget {g a:Value} {Q:Option Value→Shared→Prop} (X:K.In s.heap) (c:XIsi K D) (I:PySem.W.InstAt s.heap x ox D odo) (hf:PySem.W.findObj K D odo name=some (.bind g a)) (hgn:∀ id,g= .builtin id→True)
  (h:∀ A':Around,wpAny (model prog w) A' (call g [a,.ref x,.ref D]) (fun v s'=>handedOut v=pure v∧Q (some v) s') (fun _ _=>False) {s with toks:=s.toks + 1}):
  wpAny (model prog w) A (getAttr? (.ref x) name) Q E s:=by
 obtain ⟨hh,gg,d,t,os⟩:=s
 have L0:=I.type (M:=model prog w)
 have L1:=PySem.W.looks_findIn (M:=model prog w) X c.ga
 have L2:=PySem.W.looks_findIn (M:=model prog w) X c.gr
 have L3:=PySem.W.looks_find (M:=model prog w) X I hf
 have LI:PySem.W.Looks (model prog w) hh (isInstance (.ref x) (.type "BaseException")) true:=L0.andThen (PySem.W.looks_mroIn X c.base)
 unfold getAttr? getAttrBy? getAttrBy
 refine wpAny_bind (wpAny_mkText (wpAny_bind (wpAny_attempt (wpAny_holding (wpAny_bind (L0.at (wpAny_bind (L1.at ?_))))))))
 dsimp only
 have hx2:(Value.builtin "BaseException.__getattribute__" == Value.builtin "object.__getattribute__")=false:=by decide +kernel
 rw [if_neg (by rw [hx2,Bool.and_false];exact Bool.false_ne_true)]
 unfold getAttrByItsOwn hookBefore
 rw [if_pos (by rfl)]
 refine wpAny_bind (L2.at (wpAny_bind (wpAny_attempt (wpAny_holding ?_))))
 unfold callGetattribute
 rw [if_neg (by simp)]
 unfold boundAndCalled
 refine wpAny_bind (wpAny_of_eq (F.attr_ValueError.ga.bind _) ?_)
 have hk:builtinKind "BaseException.__getattribute__"=some .slot:=by decide +kernel
 have hsplit:splitId "BaseException.__getattribute__"=some ("BaseException","__getattribute__"):=by decide +kernel
 have pl:=F.attr_ValueError.ga.plain
 have en:=F.entry_bexc_ga
 show wpAny _ _ (call (.builtin "BaseException.__getattribute__") [.ref x,.str name t]) _ _ _
 refine wpAny_call (codeAny_call_builtin pl en ?_)
 have ag:=F.args_bexc_ga (.ref x) (.str name t)
 generalize hgid:"BaseException.__getattribute__"=id0 at hk hsplit ag ⊢
 refine PySem.W.check_slot (self:= .ref x) (rest:=[.str name t]) (kw:=[]) hk hsplit LI ag ?_
 unfold Builtin.«object.__getattribute__»
 refine wpAny_bind (wpAny_of_eq (a:=(Value.ref x,[Value.str name t])) rfl ?_)
 dsimp only
 refine wpAny_bind (wpAny_of_eq (a:=name) rfl ?_)
 refine wpAny_bind (L0.at (wpAny_bind (L3.at ?_)))
 show wpAny _ _ (holding [a] (call g [a,.ref x,.ref D]) >>=ret) _ _ _
 refine wpAny_bind (wpAny_holding (wpAny_mono (h _) (fun v s' ⟨z,q⟩=>wpAny_pure ?_) fun _ _ z=>z.elim))
 show wpAny _ _ (handedOut v) _ _ _
 rw [z]
 exact wpAny_pure (wpAny_pure q)
end
noncomputable def dV:V→Value
 | .ref a=> .ref a
 | .ty n=> .type n
 | _=> .none
theorem O5 {u:V} {v:Value} (a:RelV u v) (b:RelV u (dV u)):v=dV u:=by
 cases u with
 | ref x=>exact a
 | ty n=>exact a
 | non=>exact a
 | bl x=>exact absurd b (fun z=>by cases z)
 | int i=>exact absurd b (fun ⟨_,z⟩=>by cases z)
 | str i=>exact absurd b (fun ⟨_,z⟩=>by cases z)
 | byt i=>exact absurd b (fun ⟨_,z⟩=>by cases z)
 | flt i=>exact absurd b (fun ⟨_,z⟩=>by cases z)
section
variable {σ:St} {H:Hp} {Q:VK} {D:Ends} {W:XW} {t:TA}
theorem LR {C:Addr} (h:t σ H fun vs H1=>vs.length≤sizeLine∧W σ (.ref C) none H1):KQ C W t D σ H:=h
theorem pO {K:PySem.W.Frag} {G c:Addr} {i:Nat} {Wo:XW} {ts:TS} {dx:Option Addr} (m:PySem.W.mroIn K c (.ref G)=some true) (h:∀ x H',H x=none→Upd H H' x (ExcO x (.ref c) dx)→ts (D.less i) (σ.set i (some (.ref x))) H'):WTry K G i Wo ts D σ (.ref c) dx H:=
 ⟨c,rfl,.inl ⟨m,fun x n=>h x _ n Upd.of⟩⟩
theorem ve {K:PySem.W.Frag} {G c:Addr} {i:Nat} {Wo:XW} {ts:TS} {dx:Option Addr} (m:PySem.W.mroIn K c (.ref G)=some false) (h:Wo σ (.ref c) dx H):WTry K G i Wo ts D σ (.ref c) dx H:=⟨c,rfl,.inr ⟨m,h⟩⟩
theorem BW {i:Nat} (h:D.nx (σ.set i none) H):(D.less i).nx σ H:=h
end
theorem AZ {K:PySem.W.Frag} {C:Addr} {b:Bool} (h:PySem.W.mroIn K C (.type "ValueError")=some b):PySem.W.kitOne K (.ref C) (.type "ValueError")=some b:=by
 unfold PySem.W.kitOne
 rw [if_neg (fun z=>by cases beq_iff_eq.mp z)]
 unfold PySem.W.kitCls
 dsimp only
 rw [if_pos (by decide +kernel)]
 exact h
theorem qj {X:Cx} {K:PySem.W.Frag} {es:List Expr} {k:Nat} {t:TGs} {n:Nat} {pos:Pos} (h:X.K=K) (hc:X.calm=true) (ht:PGs X es t)
  (hn:(assignEach es X.env).length=n:=by rfl) (hst:(assignEach es X.env).findIdx? (·.1)=none:=by rfl):PG X (.Tuple es k pos) (gTup K n t):=by subst h;exact yr hc ht hn hst
noncomputable def yT (kvs:List (Key×V)):List V:=kvs.map fun kv=>kV kv.1
noncomputable def K2:List V→Hp→VK→Prop:=fun xs H Q=>∃ p kvs,xs=[.ref p]∧H p=some (.dK kvs)∧∀ l,H l=none→Q (.ref l) (upd H l (.lst (yT kvs)))
theorem L9 {k:Key} {v:Value} (h:A2 k v=true):RelV (kV k) v:=by
 rcases cb h with ⟨i,t,rfl,rfl⟩ | ⟨x,t,rfl,rfl⟩
 ·exact ⟨t,rfl⟩
 ·exact ⟨t,rfl⟩
theorem qm {α β:Type} {F:α→β→Prop}:∀ {l:List α} {m:List β},l.length=m.length→(∀ (i:Nat) (a:α) (b:β),l[i]? =some a→m[i]? =some b→F a b)→Paired F l m
 | [],[],_,_=> .nil
 | a::l,b::m,hl,h=> .cons (h 0 a b rfl rfl) (qm (by simpa using hl) fun i x y hx hy=>h (i + 1) x y (by simpa using hx) (by simpa using hy))
 | [],_::_,hl,_=>by simp at hl
 | _::_,[],hl,_=>by simp at hl
section
variable {X:Cx}
theorem Fh (hc:X.calm=true):jH X (.type "list") K2:=by
 intro pins s σ H xs us Q I r h
 obtain ⟨p,kvs,rfl,hp,q⟩:=h
 obtain ⟨u,rfl,rx⟩:=vK r
 cases rx
 obtain ⟨hz,lo,vs,rel,dd⟩:=O1 I.hok hp
 obtain ⟨ep,hat⟩:=dd.dictAt
 refine PySem.W.kdl_call (PySem.W.kdl_dict (knd:=cO X.prog X.w) (kvs:=vs) (ep:=ep) lo) (I.ok.hd hc) hat (by rw [← rel.length];exact hz) fun h' tk acc' c' hk hD hacc=>?_
 have rv:Vals (yT kvs) acc'.toList:=by
  refine qm (by unfold yT;rw [List.length_map,rel.length,Array.length_toList];exact hacc.1.symm) fun i a b ha hb=>?_
  unfold yT at ha
  rw [List.getElem?_map] at ha
  obtain ⟨kv,hkv,rfl⟩:=Option.map_eq_some_iff.mp ha
  rw [Array.getElem?_toList] at hb
  obtain ⟨k,x,hx,hki⟩:=hacc.2 i b hb
  have e:kv.1=k:=by
   have e1:(kvs.map (·.1))[i]? =some kv.1:=by rw [List.getElem?_map,hkv];rfl
   rw [rel.keys,List.getElem?_map,hx] at e1
   exact (Option.some.inj e1).symm
  rw [e]
  exact L9 hki
 exact ⟨.ref s.heap.objs.size,_,I.laid (t':=tk) hk (Nat.le_refl _) (show dB X.prog X.w _ h' _ (.lst (yT kvs)) from ⟨by unfold yT;rw [List.length_map];exact hz,acc'.toList,c',rv,by simpa using hD⟩),rfl,q _ (I.hok.fresh (Nat.le_refl _))⟩
end
section
variable {σ:St} {H:Hp} {Q:VK} {D:Ends} {te ty tv td:TE} {x y v:V}
theorem LU {p:Addr} {kvs:List (Key×V)} (e:H p=some (.dK kvs)) (h:∀ q H2,H q=none→Same H H2→H2 q=some (.lst (yT kvs))→Q (.ref q) H2):K2 [.ref p] H Q:=⟨p,kvs,rfl,e,fR h⟩
noncomputable def Pq (y:V) (Q:VK) (x:V) (H:Hp):Prop:=∃ a o,x= .ref a∧DGet H a y o∧Q (.bl o.isSome) H
theorem P6 (h:ty σ H fun y H1=>td σ H1 (Pq y Q)):tDIn ty td σ H Q:=h
theorem KY {p:Addr} {kvs:List (Key×V)} {z:Str} (e:H p=some (.dK kvs)) (h:Q (.bl (valV kvs (Sum.inr z)).isSome) H):Pq (.str z) Q (.ref p) H:=⟨p,_,rfl,DGet.k (k:=Sum.inr z) e,h⟩
noncomputable def Lv (y:V) (Q:VK) (x:V) (H:Hp):Prop:=∃ a o,x= .ref a∧DGet H a y o∧Q (.bl (!o.isSome)) H
theorem NY (h:ty σ H fun y H1=>td σ H1 (Lv y Q)):F4 ty td σ H Q:=h
theorem L5 {p:Addr} {kvs:List (Key×V)} {z:Str} (e:H p=some (.dK kvs)) (h:Q (.bl (!(valV kvs (Sum.inr z)).isSome)) H):Lv (.str z) Q (.ref p) H:=⟨p,_,rfl,DGet.k (k:=Sum.inr z) e,h⟩
theorem qa {l b:Addr} {xs zs:List V} (e:H l=some (.lst xs)) (e':H b=some (.lst zs)) (hz:xs.length + zs.length≤sizeLine) (h:∀ p H2,H p=none→Same H H2→H2 p=some (.lst (xs++zs))→Q (.ref p) H2):rCat (.ref l) (.ref b) H Q:=⟨l,b,xs,zs,rfl,rfl,e,e',hz,fR h⟩
end
section
variable {X:Cx} {W:XW} {k:Nat} {f C:Addr} {fd:FuncData} {ps:List Str} {sp:Sp} {dvs:List V} {ds:List Value} {x m:Str} {p pos apos:Pos} {e o:Expr} {es:List Expr} {ta:TE} {t:TA}
theorem GB {pins:List (Addr×Obj)} {σ:St} {H:Hp} {s:Shared} {Q:VK} {us:List Value} {vs:List V} (M:Mk X.K C f) (F:FnOk X.prog X.w X.K X.mg X.base (CX1 X.prog X.w) k f fd ps sp) (hr:Room (k + 1) X.A) (hb:bM X.K fd ps ds) (hd:Vals dvs ds)
  (hx:Thr X W) (I:Inv X pins σ H s) (r:Vals vs us)
  (h:∀ x dx,H x=none→H dx=none→dx≠x→sp (.ref x::(vs++dvs)) (upd (upd H dx (.own x)) x (.ins C dx [])) (fun v H2=>v= .non∧Q (.ref x) H2) (W σ)):
  wpAny (model X.prog X.w) X.A (call (.ref C) us) (EP X pins σ Q) X.xe s:=by
 have hq:=h (s.heap.objs.size + 1) s.heap.objs.size (I.hok.fresh (Nat.le_succ _)) (I.hok.fresh (Nat.le_refl _)) (Nat.ne_of_lt (Nat.lt_succ_self _))
 have I2:=Inv.made (C:=C) I
 have r2:Vals (V.ref (s.heap.objs.size + 1)::(vs++dvs)) (Value.ref (s.heap.objs.size + 1)::(us++ds)):= .cons rfl (r.append hd)
 have hl:(Value.ref (s.heap.objs.size + 1)::us++ds).length=ps.length:=by
  have e:=r2.length
  rw [F.len _ _ _ _ hq] at e
  exact e.symm
 refine wpAny_call (Ca (f:=f) I.kIn M.makes M.init (beq_iff_eq.mp M.fn) (codeAny_mono (F.run _ X.stack _ _ ⟨Value.ref (s.heap.objs.size + 1)::us,[]⟩ (Value.ref (s.heap.objs.size + 1)::(us++ds)) _ _ (W σ) (hr.make C us [])
  (I2.env0.make C us []) (hb _ (Value.ref (s.heap.objs.size + 1)::us) I2.kIn hl) r2 hq) fun r s' hq'=>?_))
 cases r with
 | error e=>exact I2.afterX hx hq'
 | ok fl=>
   cases fl with
   | ret u=>
     obtain ⟨v,H',I3,rv,ev,q3⟩:=I2.after hq'
     subst ev
     exact ⟨rv,⟨V.ref (s.heap.objs.size + 1),H',I3,rfl,q3⟩⟩
   | next=>exact False.elim hq'
   | brk=>exact False.elim hq'
   | cont=>exact False.elim hq'
noncomputable def KS (C:Addr) (sp:Sp) (dvs:List V) (W:XW) (t:TA):TE:=fun σ H Q=>t σ H fun vs H1=>∀ x dx,H1 x=none→H1 dx=none→dx≠x→sp (.ref x::(vs++dvs)) (upd (upd H1 dx (.own x)) x (.ins C dx [])) (fun v H2=>v= .non∧Q (.ref x) H2) (W σ)
theorem BZ (M:Mk X.K C f) (F:FnOk X.prog X.w X.K X.mg X.base (CX1 X.prog X.w) k f fd ps sp) (hr:Room (k + 1) X.A) (hg:Gl X x) (hm:X.mg x=some (.ref C)) (hb:bM X.K fd ps ds) (hd:Vals dvs ds) (hx:Thr X W)
  (ha:PA X (e::es) t) (hdb:(x == ("__debug__":Str))=false:=by decide) (he:starEach (e::es) X.env=(false,eval e X.env)::starEach es X.env:=by rfl) (hpl:(backTo pos (starEach es X.env)).any (·.1)=false:=by rfl):
  PE X (.Call (.Name x p) (e::es) [] pos) (KS C sp dvs W t):=by
 intro pins s σ H Q I h
 refine wpAny_Call_Name_kw (gO I hg hm ?_ hdb)
 refine PySem.W.callWith_K (h₀:=X.base) I.ok.mod.kin M.kp (thn (ha pos pins s σ H _ I h) fun us s1 ⟨vs,H1,I1,r,q⟩=>⟨I1.kIn,?_⟩) he hpl
 exact GB M F hr hb hd hx I1 r q
end
open AutoSeq1 (wpAny_loadPart')
section
variable {prog:Program} {w:World} {A:Around} {E:Value→Shared→Prop} {s:Shared}
theorem nh {it t:Addr} {i:Nat} {items:Array Value} {x:Value} {Q:Value→Shared→Prop} (hit:s.heap.IsTupleIter it t i) (ht:s.heap.IsTuple t items) (hx:items[i]? =some x)
  (hQ:∀ h',h'.IsTupleIter it t (i + 1)→Heap.SameBut it s.heap h'→Q x {s with heap:=h'}):
  wpAny (model prog w) A (Builtin.SmallTypes.nextOf (.ref it)) Q E s:=by
 obtain ⟨o,ho,hc,hd⟩:=id hit
 obtain ⟨ol,hol,_,nl,hdl⟩:=ht
 unfold Builtin.SmallTypes.nextOf
 refine wpAny_bind (wpAny_callSpecial?_slot (name:=Str.ofString "__next__") hit.typeIs F.slot_tuple_iterator_next
  (wpAny_call_entry F.slot_tuple_iterator_next hit.typeIs F.entry_tuple_iterator_next ?_ (F.args_tuple_iterator_next_1 _)))
 show wpAny _ _ (field (.ref it) 0 >>=_) _ _ s
 refine wpAny_bind (wpAny_field ho hd (x:= .ref t) rfl ?_)
 show wpAny _ _ (if (Value.ref t == Value.none)=true then _ else _) _ _ s
 rw [if_neg (show ¬ ((Value.ref t == Value.none)=true) from Bool.false_ne_true)]
 show wpAny _ _ (field (.ref it) 1 >>=_) _ _ s
 refine wpAny_bind (wpAny_field ho hd (x:= .int i 0) rfl ?_)
 show wpAny _ _ (seqItems? (.ref t) >>=_) _ _ s
 refine wpAny_bind (wpAny_seqItems hol hdl ?_)
 simp only [Int.toNat_natCast,hx]
 refine wpAny_bind (wpAny_setField ho hd (by simp) (wpAny_pure ⟨x,rfl,wpAny_pure (hQ _ ?_ (Heap.SameBut.update ..))⟩))
 exact ⟨_,Heap.get?_update_self _ ho (Obj.isFreed_of_fields (Obj.data_mapFields hd _)),(Obj.cls_mapFields ..).trans hc,by
  rw [Obj.data_mapFields hd];simp [rawInt]⟩
theorem o9 {it t:Addr} {i:Nat} {items:Array Value} {Q:Value→Shared→Prop} (hh:A.handled=none) (hit:s.heap.IsTupleIter it t i) (ht:s.heap.IsTuple t items) (hx:items[i]? =none)
  (hE:∀ h' e,Heap.ExtBut it s.heap h'→(∃ o,h'.get? e=some o∧o.cls= .type "StopIteration")→E (.ref e) {s with heap:=h'}):
  wpAny (model prog w) A (Builtin.SmallTypes.nextOf (.ref it)) Q E s:=by
 obtain ⟨o,ho,hc,hd⟩:=id hit
 obtain ⟨ol,hol,_,nl,hdl⟩:=ht
 unfold Builtin.SmallTypes.nextOf
 refine wpAny_bind (wpAny_callSpecial?_slot (name:=Str.ofString "__next__") hit.typeIs F.slot_tuple_iterator_next
  (wpAny_call_entry F.slot_tuple_iterator_next hit.typeIs F.entry_tuple_iterator_next ?_ (F.args_tuple_iterator_next_1 _)))
 show wpAny _ _ (field (.ref it) 0 >>=_) _ _ s
 refine wpAny_bind (wpAny_field ho hd (x:= .ref t) rfl ?_)
 show wpAny _ _ (if (Value.ref t == Value.none)=true then _ else _) _ _ s
 rw [if_neg (show ¬ ((Value.ref t == Value.none)=true) from Bool.false_ne_true)]
 show wpAny _ _ (field (.ref it) 1 >>=_) _ _ s
 refine wpAny_bind (wpAny_field ho hd (x:= .int i 0) rfl ?_)
 show wpAny _ _ (seqItems? (.ref t) >>=_) _ _ s
 refine wpAny_bind (wpAny_seqItems hol hdl ?_)
 simp only [Int.toNat_natCast,hx]
 refine wpAny_bind (wpAny_rule (wpAny_bind (wpAny_setField ho hd (by simp) ?_)))
 show wpAny _ _ (newExc (.type "StopIteration") [] >>=_) _ _ _
 refine wpAny_bind ?_
 simp only [newExc,newTuple]
 refine wpAny_bind (wpAny_newObj_type ?_ (by size_fits))
 refine wpAny_bind (m:=firstArgMember _ _) (wpAny_of_eq (a:=Value.none) (by first | rfl | (simp only [firstArgMember];rfl)) ?_)
 refine wpAny_newObj_type ?_ (by size_fits)
 simp only [raiseNew]
 refine wpAny_bind (wpAny_handled ?_)
 first | rw [show A.in1.handled=none from hh] | rw [hh]
 refine wpAny_bind (wpAny_pure (wpAny_throw ?_))
 exact hE _ _ (((Heap.SameBut.update ..).extBut.push _).push _) ⟨_,Heap.get?_push_size _ rfl,rfl⟩
end
theorem Draws.tuple {prog:Program} {w:World} {A:Around} (hh:A.handled=none) (it l:Addr) (hne:l≠it) (items:Array Value):
  Draws prog w A it [it,l] items.size (fun i v=>items[i]? =some v) (fun i h=>h.IsTupleIter it l i∧h.IsTuple l items) where
 live:=fun _ _ st=>let ⟨o,ho,_⟩:=st.1;⟨o,ho⟩
 frame:=fun _ _ _ st hk=>⟨let ⟨o,ho,r⟩:=st.1;⟨o,hk it (by simp) o ho,r⟩,let ⟨o,ho,r⟩:=st.2;⟨o,hk l (by simp) o ho,r⟩⟩
 item:=fun i s Q E hi st hQ=>by
  refine nh st.1 st.2 (x:=items[i]) (by simp [hi]) fun h' hit' hs'=>?_
  exact hQ _ h' s.toks (by simp [hi]) ⟨hit',st.2.extBut hs'.extBut hne⟩ hs'
 done:=fun s Q E st hE=>o9 hh st.1 st.2 (by simp) hE
theorem jS (l:Addr) (items:Array Value) (n:Nat) (dct:Option Addr) (sl:Array (Option Value)):
  Meets (Builtin.«enumerate.__new__» ⟨[.type "enumerate",.ref l],[]⟩) (fun _ R s=>s.heap.get? l=some {cls:= .type "tuple",dict:=dct,data:= .seq items n,slots:=sl}∧
   R (.ok (.ret (.ref (s.heap.push {cls:= .type "tuple_iterator",data:= .fields #[.ref l,.int 0 0]}).objs.size)))
     {s with heap:=(s.heap.push {cls:= .type "tuple_iterator",data:= .fields #[.ref l,.int 0 0]}).push {cls:= .type "enumerate",data:= .fields #[.none,.bool false,.ref s.heap.objs.size,rawInt 0,.none,.none]}}):=
 .of_wp fun prog w A R s h=>by
  obtain ⟨hp,g,d,tk,os⟩:=s;obtain ⟨hl,h⟩:=h
  have hsub:=sub_enumerate
  have hL:Heap.IsTuple (Shared.heap ⟨hp,g,d,tk,os⟩) l items:=⟨_,hl,rfl,n,rfl⟩
  wp_walk using wpAny_loadPart' hl
  refine wpAny_stack_any fun st=>wpAny_pure ?_
  split
  ·rename_i c _ _ _ _ _
   cases (c == Value.type "enumerate")
   ·wp_walk using wpAny_loadPart' hl,wpAny_pyIter_tuple hL
    exact ⟨_,rfl,h⟩
   ·wp_walk using wpAny_loadPart' hl,wpAny_pyIter_tuple hL
    exact ⟨_,rfl,h⟩
  ·wp_walk using wpAny_loadPart' hl,wpAny_pyIter_tuple hL
   exact ⟨_,rfl,h⟩
theorem jU {prog:Program} {w:World} {A:Around} {E:Value→Shared→Prop} {s:Shared} {l:Addr} {items:Array Value} {Q:Value→Shared→Prop} (hL:s.heap.IsTuple l items)
  (h:∀ h',IsEnum h' (s.heap.objs.size + 1) s.heap.objs.size 0 .none→h'.IsTupleIter s.heap.objs.size l 0→h'.objs.size=s.heap.objs.size + 2→
   (∀ b o,s.heap.get? b=some o→h'.get? b=some o)→Q (.ref (s.heap.objs.size + 1)) {s with heap:=h'}):
  wpAny (model prog w) A (call (.type "enumerate") [.ref l]) Q E s:=by
 obtain ⟨⟨c,dct,dt,sl⟩,hl,hc,n,hd⟩:=hL
 replace hc:c= .type "tuple":=hc
 replace hd:dt= .seq items n:=hd
 subst hc hd
 refine callType_new F.called_enumerate (by decide) (F.typeCall_enumerate_1 _) (F.newCall_enumerate_1 _) (fun obj=>F.args_object_init_2 obj _) F.entry_enumerate_new
  (jS l items n dct sl) ⟨hl,?_⟩
 have hz:(s.heap.push {cls:= .type "tuple_iterator",data:= .fields #[.ref l,.int 0 0]}).objs.size=s.heap.objs.size + 1:=Heap.size_push ..
 show _∧_
 rw [hz]
 have he:IsEnum ((s.heap.push {cls:= .type "tuple_iterator",data:= .fields #[.ref l,.int 0 0]}).push
   {cls:= .type "enumerate",data:= .fields #[.none,.bool false,.ref s.heap.objs.size,rawInt 0,.none,.none]}) (s.heap.objs.size + 1) s.heap.objs.size 0 .none:=by
  have:=Heap.get?_push_size (s.heap.push {cls:= .type "tuple_iterator",data:= .fields #[.ref l,.int 0 0]})
   (o:={cls:= .type "enumerate",data:= .fields #[.none,.bool false,.ref s.heap.objs.size,rawInt 0,.none,.none]}) rfl
  rw [hz] at this;exact this
 refine ⟨⟨_,he,rfl⟩,h _ he ⟨_,Heap.get?_push_of_some _ (Heap.get?_push_size _ rfl),rfl,rfl⟩ (by rw [Heap.size_push,hz]) fun b o x=>Heap.get?_push_of_some _ (Heap.get?_push_of_some _ x)⟩
noncomputable def Itet (K:PySem.W.Frag) (a:Addr):It:=
 ⟨fun i H=>∃ xs x,SqT K H a xs∧xs[i]? =some x,fun i H x H'=>∃ p v,H p=none∧x= .ref p∧H'=upd H p (.tup [.int i,v])∧∀ xs,SqT K H a xs→xs[i]? =some v,fun i H=>∃ xs,SqT K H a xs∧xs.length=i⟩
theorem C2 {P:Program} {w:World} {K:PySem.W.Frag} {elts:List Expr} {k:Nat} {pos:Pos} (a e it:Addr) (hei:e≠it):
  Turn P w K (.Tuple elts k pos) (Itet K a) [e,it] e (fun i h=>(∃ old,IsEnum h e it i old)∧h.IsTupleIter it a i) where
 mem:=by simp
 obj:=fun i h st b hb=>by
  obtain ⟨⟨old,he⟩,⟨o,ho,hc,hd⟩⟩:=st
  rcases List.mem_cons.mp hb with z | z
  ·subst z;exact ⟨_,he,fun v z=>by cases z⟩
  ·rw [List.mem_singleton.mp z];exact ⟨o,ho,fun v z=>by rw [hd] at z;cases z⟩
 keep:=fun i h h' st k=>⟨let ⟨old,he⟩:=st.1;⟨old,k e (by simp) _ he⟩,(let ⟨o,ho,r⟩:=st.2;⟨o,k it (by simp) o ho,r⟩)⟩
 item:=by
  intro X hP hw hK hc i pins s σ H E I hf st hg
  subst hP hw hK
  obtain ⟨xs,x,hq,hx⟩:=hg
  obtain ⟨its,rv,p,hz⟩:=I.tuple hq
  have pT:s.heap.IsTuple a its.toArray:=p
  obtain ⟨⟨old,he⟩,hl⟩:=st
  have hai:a≠it:=fun z=>by
   obtain ⟨o,ho,hcl,_⟩:=hl
   obtain ⟨o',ho',hcl',_⟩:=pT
   rw [z,ho] at ho';cases ho';rw [hcl] at hcl';exact absurd hcl' (by decide)
  have hae:a≠e:=fun z=>by
   obtain ⟨o',ho',hcl',_⟩:=pT
   rw [z,he] at ho';cases ho';exact absurd (show Value.type "enumerate"= .type "tuple" from hcl') (by decide)
  have W:=WalksT.enumerateD (prog:=X.prog) (w:=X.w) (A:=X.A) (Draws.tuple (A:=X.A.in1) (I.ok.hd hc) it a hai its.toArray) e hei (by simp [hei,Ne.symm hae]) (by simp)
  have hi:i < its.toArray.size:=by have:=rv.length;have:=(List.getElem?_eq_some_iff.mp hx).1;simp;omega
  refine W.item i s _ _ hi ⟨⟨old,he⟩,hl,pT⟩ fun T vals h' tk hPt hT htup hmid hk=>⟨_,rfl,W.go elts k pos i T _ _ _ hmid fun h'' hst hk2=>?_⟩
  obtain ⟨t,x',hx',rfl⟩:=hPt
  have hap:=W.apart i T h' hmid
  have ru:RelV x x':=by
   obtain ⟨u,hu,r⟩:=rv.get hx
   have hx'':its[i]? =some x':=by simpa using hx'
   rw [hu] at hx'';cases hx'';exact r
  have kk:∀ b u,b∉[e,it]→s.heap.get? b=some u→h''.get? b=some u:=fun b u hb q=>hk2 b u hb (hk b u hb q)
  have fr:H T=none:=I.hok.fresh hT
  refine ⟨.ref T,upd H T (.tup [.int i,x]),I.laidCh (t':=tk) kk hT ⟨F0,[.int i t,x'],.cons ⟨t,rfl⟩ (.cons ru .nil),?_⟩ hf,rfl,⟨T,x,fr,rfl,rfl,fun ys hy=>by rw [I.tuple_inj hy hq];exact hx⟩,⟨hst.1,hst.2.1⟩,fun b hb=>?_⟩
  ·obtain ⟨o,ho,r⟩:=htup
   exact ⟨o,hk2 T o hap ho,r⟩
  ·have fb:=(hf b hb)
   rw [ar (fun z=>?_)]
   ·exact fb.1
   ·have lt:b < s.heap.objs.size:=by
     rcases List.mem_cons.mp hb with z | z
     ·subst z;exact Heap.lt_size he
     ·rw [List.mem_singleton.mp z];obtain ⟨o,ho,_⟩:=hl;exact Heap.lt_size ho
    rw [z] at lt
    exact absurd (Nat.lt_of_lt_of_le lt hT) (Nat.lt_irrefl _)
 done:=by
  intro X hP hw hK hc i pins s σ H E I hf st hg
  subst hP hw hK
  obtain ⟨xs,hq,hx⟩:=hg
  obtain ⟨its,rv,p,hz⟩:=I.tuple hq
  have pT:s.heap.IsTuple a its.toArray:=p
  obtain ⟨⟨old,he⟩,hl⟩:=st
  have hai:a≠it:=fun z=>by
   obtain ⟨o,ho,hcl,_⟩:=hl
   obtain ⟨o',ho',hcl',_⟩:=pT
   rw [z,ho] at ho';cases ho';rw [hcl] at hcl';exact absurd hcl' (by decide)
  have hae:a≠e:=fun z=>by
   obtain ⟨o',ho',hcl',_⟩:=pT
   rw [z,he] at ho';cases ho';exact absurd (show Value.type "enumerate"= .type "tuple" from hcl') (by decide)
  have W:=WalksT.enumerateD (prog:=X.prog) (w:=X.w) (A:=X.A) (Draws.tuple (A:=X.A.in1) (I.ok.hd hc) it a hai its.toArray) e hei (by simp [hei,Ne.symm hae]) (by simp)
  have hn:its.toArray.size=i:=by have:=rv.length;simp;omega
  subst hn
  exact W.done s _ _ ⟨⟨old,he⟩,hl,pT⟩ fun h' tk hk=>⟨rfl,I.turnedCh hk hf⟩
 self:=fun _ _ _ _ _ st h=>let ⟨_,he⟩:=st.1;wpAny_pyIter_enum he h
noncomputable def Li (K:PySem.W.Frag) (tl:TE):TI:=fun σ H R=>tl σ H fun x H1=>∃ a,x= .ref a∧(((∃ xs,SqL K H1 a xs)∧R (Ite K a) H1)∨((∃ xs,SqT K H1 a xs)∧R (Itet K a) H1))
section
variable {X:Cx} {K:PySem.W.Frag}
theorem wf {l:Expr} {tl:TE} {elts:List Expr} {k:Nat} {tpos p pos:Pos} (h:X.K=K) (hg:Gl X "enumerate") (hm:X.mg "enumerate"=none) (hl:PE X l tl) (hs:starEach [l] X.env=[(false,eval l X.env)]:=by rfl):
  PI X (.Tuple elts k tpos) (.Call (.Name "enumerate" p) [l] [] pos) (Li K tl):=by
 subst h
 intro pins s σ H R I h
 refine Call_ (oq I hg hm boot_enumerate (PyProof.Rows.callWith_type1 (thn (aa hl ad hs pos pins s σ H (fun vs H1=>match vs with | [x]=>∃ a,x= .ref a∧(((∃ xs,SqL X.K H1 a xs)∧R (Ite X.K a) H1)∨((∃ xs,SqT X.K H1 a xs)∧R (Itet X.K a) H1)) | _=>False) I h) fun us s1 ⟨vs,H1,I1,r1,q1⟩=>?_) hs rfl))
 match vs,r1,q1 with
 | [x],r1,q1=>
 obtain ⟨u,rfl,ru⟩:=r1.one
 obtain ⟨a,rfl,q1⟩:=q1
 cases ru
 have fin:∀ b∈[s1.heap.objs.size + 1,s1.heap.objs.size],FpOk X pins H1 b:=fun b hb=>by
  have hb':s1.heap.objs.size≤b:=(List.mem_cons.mp hb).elim (fun z=>by rw [z];exact Nat.le_succ _) (fun z=>by rw [List.mem_singleton.mp z];exact Nat.le_refl _)
  exact I1.fpOk hb' (I1.hok.fresh hb')
 rcases q1 with ⟨⟨xs,hq⟩,q⟩ | ⟨⟨xs,hq⟩,q⟩
 ·obtain ⟨its,rv,pl,hz⟩:=I1.list hq
  refine call_enumerate_list pl.isList fun h' he hit hsz hk=>wpAny_pyIter_enum he ?_
  exact ⟨s1.heap.objs.size + 1,[s1.heap.objs.size + 1,s1.heap.objs.size],_,_,H1,rfl,I1.kept (t':=s1.toks) hk,vb a _ _ (Nat.ne_of_gt (Nat.lt_succ_self _)),⟨⟨_,he⟩,hit⟩,fin,q⟩
 ·obtain ⟨its,rv,pl,hz⟩:=I1.tuple hq
  refine jU (show s1.heap.IsTuple a its.toArray from pl) fun h' he hit hsz hk=>wpAny_pyIter_enum he ?_
  exact ⟨s1.heap.objs.size + 1,[s1.heap.objs.size + 1,s1.heap.objs.size],_,_,H1,rfl,I1.kept (t':=s1.toks) hk,C2 a _ _ (Nat.ne_of_gt (Nat.lt_succ_self _)),⟨⟨_,he⟩,hit⟩,fin,q⟩
end
theorem vA {K:PySem.W.Frag} {n:Nat} {fx:List Nat} {g:TG} {tc:TT} {te:TE} {σ:St} {H1:Hp} {D:Addr} {Q:Hp→Prop} {a:Addr} {xs:List V} (Pv:Nat→List V→Hp→Prop) (h0:Pv 0 [] (upd H1 D (.lst []))) (hl:∀ i ys H,i≤xs.length→Pv i ys H→SqT K H a xs)
  (hs:∀ i x ys H p H',xs[i]? =some x→Pv i ys H→H p=none→Same H H'→H' p=some (.tup [.int i,x])→g (.ref p) (di n fx σ) H' fun σ4 H4=>tc σ4 H4 fun b H5=>if b=true then te σ4 H5 fun v H6=>H6 D=some (.lst ys)∧ys.length < sizeLine∧Pv (i + 1) (ys++[v]) (upd H6 D (.lst (ys++[v]))) else Pv (i + 1) ys H5)
  (hd:∀ ys H,Pv xs.length ys H→Q H):
  ∃ W:Nat→Nat→List V→Hp→Prop,(∃ m,W 0 m [] (upd H1 D (.lst [])))∧∀ i m ys H2,W i m ys H2→((Itet K a).stop i H2∧Q H2)∨
    ((Itet K a).go i H2∧∃ N:List V→Hp→Prop,(∀ ys' H',N ys' H'→∃ m',m' < m∧W (i + 1) m' ys' H')∧∀ x H3,(Itet K a).yld i H2 x H3→g x (di n fx σ) H3 fun σ4 H4=>tc σ4 H4 fun b H5=>
      if b=true then te σ4 H5 fun v H6=>H6 D=some (.lst ys)∧ys.length < sizeLine∧N (ys++[v]) (upd H6 D (.lst (ys++[v]))) else N ys H5):=by
 refine ⟨fun i m ys H=>m=xs.length - i∧i≤xs.length∧Pv i ys H,⟨xs.length,by simp,Nat.zero_le _,h0⟩,?_⟩
 rintro i m ys H ⟨rfl,hi,p⟩
 have q:=hl i ys H hi p
 by_cases hlt:i < xs.length
 ·refine .inr ⟨⟨xs,xs[i],q,by simp [hlt]⟩,Pv (i + 1),fun ys' H' p'=>⟨xs.length - (i + 1),by omega,rfl,hlt,p'⟩,fun x H' y=>?_⟩
  obtain ⟨r,v,f,e1,e2,y⟩:=y
  subst e1 e2
  exact hs i v ys H r _ (y xs q) p f (bH f) av
 ·have e:i=xs.length:=by omega
  subst e
  exact .inl ⟨⟨xs,q,rfl⟩,hd ys H p⟩
section
variable {σ:St} {H:Hp} {te:TE} {R:It→Hp→Prop}
theorem cG {K:PySem.W.Frag} (h:te σ H fun x H1=>∃ a,x= .ref a∧(((∃ xs,SqL K H1 a xs)∧R (Ite K a) H1)∨((∃ xs,SqT K H1 a xs)∧R (Itet K a) H1))):Li K te σ H R:=h
end
namespace ZP
noncomputable abbrev Busy (h:Heap) (z TI TO T:Addr) (fl:Bool):Prop:=h.get? z=some {cls:= .type "zip",data:= .fields #[rawInt T,.bool fl,.bool false,.ref TI,.ref TO]}
section
variable {prog:Program} {w:World} {A:Around} {E:Value→Shared→Prop} {s:Shared}
structure ZGot (h:Heap) (lo:Nat) (xs ys:Array Value) (as:List Addr):Prop where
 rise:as.Pairwise (· < ·)
 above:∀ a∈as,lo≤a∧a < h.objs.size
 pairs:∀ (j:Nat) (a:Addr),as[j]? =some a→∃ x y,xs[j]? =some x∧ys[j]? =some y∧h.IsTuple a #[x,y]
structure ZSt (h:Heap) (z TI TO i1 i2 l1 l2:Addr) (lo:Nat) (xs ys:Array Value) (i:Nat) (as:List Addr):Prop where
 zp:(i=0∧IsZip h z TI TO .none)∨∃ T fl,Busy h z TI TO T fl∧as[0]? =some T
 hI:IsPair h TI (.ref i1) (.ref i2)
 hO:∃ a b,IsPair h TO a b
 h1:h.IsListIter i1 l1 i
 h2:h.IsListIter i2 l2 i
 hl1:h.IsList l1 xs
 hl2:h.IsList l2 ys
 len:as.length=i
 got:ZGot h lo xs ys as
structure Und (z TI TO i1 i2 l1 l2 S:Addr) (lo:Nat):Prop where
 ap:ZipApart z TI TO i1 i2 l1 l2
 Sz:S≠z
 STI:S≠TI
 STO:S≠TO
 Si1:S≠i1
 Si2:S≠i2
 Sl1:S≠l1
 Sl2:S≠l2
 z:z < lo
 TO:TO < lo
 i1:i1 < lo
 i2:i2 < lo
 S:S < lo
structure New (h:Heap) (z TI TO i1 i2 l1 l2:Addr) (xs ys:Array Value):Prop where
 ap:ZipApart z TI TO i1 i2 l1 l2
 hz:IsZip h z TI TO .none
 hI:IsPair h TI (.ref i1) (.ref i2)
 hO:∃ a b,IsPair h TO a b
 h1:h.IsListIter i1 l1 0
 h2:h.IsListIter i2 l2 0
 hl1:h.IsList l1 xs
 hl2:h.IsList l2 ys
end
end ZP
open PySem PySem.Spec PyProof.Rows
structure FunD (K:PySem.W.Frag) (x qual:Str) (st:Stmt) (f:Addr) (fd:FuncData) (dv:Value):Prop where
 ex:∃ (oc:Value) (od:Option Addr) (T:Addr) (kV doc pm:Value) (an:Option Addr) (cdv ct:Value) (osl:Array (Option Value)) (tc:Value) (td:Option Addr) (n:Nat) (tsl:Array (Option Value)),
  fd=PySem.W.fnOf x qual (aH st) (aE st) (ae st) (.ref T) kV doc pm an cdv ct∧K.lookup f=some ⟨oc,od,.func fd,osl⟩∧PySem.W.codeIn K cdv qual=true∧K.lookup T=some ⟨tc,td,.seq #[dv] n,tsl⟩
 kp:PySem.W.keepIn K (.ref f)=true
section
variable {σ:St} {H:Hp} {Q:VK} {te:TE}
noncomputable def II (C:Addr) (m:Str) (sp:Sp) (dvs:List V) (W:XW) (tr:TA) (σ:St) (Q:VK) (x:V) (H:Hp):Prop:=∃ a dx fs,x= .ref a∧H a=some (.ins C dx fs)∧fs.lookup m=none∧tr σ H fun vs H2=>sp (x::(vs++dvs)) H2 Q (W σ)
theorem d3 {C:Addr} {m:Str} {sp:Sp} {dvs:List V} {W:XW} {tr:TA} (h:te σ H (II C m sp dvs W tr σ Q)):KR C m sp dvs W te tr σ H Q:=h
theorem Gx {C dx p:Addr} {m:Str} {fs:List (Str×V)} {sp:Sp} {dvs:List V} {W:XW} {tr:TA} (e:H p=some (.ins C dx fs)) (l:fs.lookup m=none) (h:tr σ H fun vs H2=>sp (.ref p::(vs++dvs)) H2 Q (W σ)):II C m sp dvs W tr σ Q (.ref p) H:=⟨p,dx,fs,rfl,e,l,h⟩
end
noncomputable abbrev xBM:List Value:=[.type "ValueError",.type "Exception",.type "BaseException",.type "object"]
noncomputable abbrev xRec (C:Addr) (dx:Option Addr) (t:Addr):Obj:={cls:= .ref C,dict:=dx,data:= .fields #[.ref t,.none,.none,.none,.bool false,.none]}
noncomputable def ExcF (p C:Addr) (dx:Option Addr):HO:= .ext fun h=>∃ t,h.get? p=some (xRec C dx t)
theorem Bc {P:Program} {w:World} {H:Hp} {h:Heap} {p C t:Addr} {dx:Option Addr} (e:h.get? p=some (xRec C dx t)):dB P w H h p (ExcF p C dx):=
 ⟨⟨t,e⟩,⟨_,e⟩,fun _ _ ⟨t,e⟩ k=>⟨t,k _ e⟩⟩
noncomputable def ExcV (H:Hp) (p C:Addr) (fs:List (Str×V)):Prop:=∃ dx,H p=some (ExcF p C dx)∧match dx with | none=>fs=[] | some d=>H d=some (.xd fs)
structure XOwn (K:PySem.W.Frag) (C W f:Addr):Prop where
 lk:∃ nm q N bs sn sub ab col dd k0 k1 k2 k3 k5,K.lookup C=some (excClassObj nm q C N bs (.ref W::xBM) true sn sub ab col dd k0 k1 k2 k3 k5 "ValueError.__new__")
 up:PySem.W.excIn K W xBM "ValueError.__new__"=true
 init:PySem.W.findIn K (.ref C) "__init__"=some (some (.ref f))
 fn:PySem.W.isFn K (.ref f)=true
 kp:PySem.W.keepIn K (.ref C)=true
 sa:PySem.W.findIn K (.ref C) "__setattr__"=some (some (.builtin "object.__setattr__"))
 mo:PySem.W.mroIn K C (.type "object")=some true
 mv:PySem.W.mroIn K C (.type "ValueError")=some true
theorem F1 {K:PySem.W.Frag} {W:Addr} (q:PySem.W.excIn K W xBM "ValueError.__new__"=true):PySem.W.tailIn K xBM (.ref W::xBM)=true:=by
 unfold PySem.W.excIn at q
 unfold PySem.W.tailIn
 split at q
 next dd cd sl ho=>
  split at q
  next C' bm k0 k1 k2 k3 n k5 hm hs=>
   simp only [Bool.and_eq_true,beq_iff_eq,Bool.not_eq_true'] at q
   obtain ⟨⟨⟨⟨⟨e1,e2⟩,hdel⟩,ht⟩,hok⟩,hni⟩:=q
   rw [Bool.or_eq_true]
   refine .inr ?_
   dsimp only
   rw [ho]
   dsimp only
   rw [hok,hni]
   unfold PySem.W.tailIn
   simp
  next=>cases q
 next=>cases q
section
variable {prog:Program} {w:World} {A:Around} {E:Value→Shared→Prop} {h:Heap} {g:Array GenState} {d:Drawn} {t:Nat} {os:OsState}
variable {nm q:Str} {C N:Addr} {bs bm bmB:List Value} {hdct:Bool} {sn:List Str} {sub:List Value} {ab:Bool} {col:Option Bool} {dd:Option Addr} {k0 k1 k2 k3 k5:Option Value} {B newId initId:String}
theorem sR (F:ExcBaseFacts B newId initId bmB) (T:OwnTail h bmB bm) {K:PySem.W.Frag} (X:K.In h) {rest:List Value} {fI:Addr} {Q:Fin→Shared→Prop}
  (hC:h.get? C=some (excClassObj nm q C N bs bm hdct sn sub ab col dd k0 k1 k2 k3 k5 newId)) (hi:PySem.W.findIn K (.ref C) "__init__"=some (some (.ref fI))) (hf:PySem.W.typeIn K (.ref fI)=some (.type "function"))
  (hq:∀ h' e,Heap.MadeExcOf h h' e (.ref C) rest→
   wpAny (model prog w) A (call (.ref fI) (.ref e::rest)) (fun r s'=>r= .none∧Q (.done (.ret (.ref e))) s') E ⟨h',g,d,t,os⟩) (hrest:rest.length≤sizeLine):
  wpAny (model prog w) A (Builtin.«type.__call__» ⟨.ref C::rest,[]⟩) Q E ⟨h,g,d,t,os⟩:=by
 repeat (first | with_reducible refine wpAny_loadPart_at hC ?_ | with_reducible refine wpAny_madeBy_exc hC ?_ | wp_step)
 refine codeAny_call_builtin_code (Code.quiet_builtin _ F.quiet) (wpAny_check_new_subT F T hC ?_)
 refine codeAny_exc_new_subT F T hC ?_ hrest
 show wpAny _ _ _ _ _ _
 have hC₁:=Heap.get?_push_of_some {cls:= .ref C,data:= .fields #[.ref h.objs.size,.none,.none,.none,.bool false,.none]}
  (Heap.get?_push_of_some {cls:= .type "tuple",data:= .seq rest.toArray} hC)
 have X₁:K.In ((h.push {cls:= .type "tuple",data:= .seq rest.toArray}).push {cls:= .ref C,data:= .fields #[.ref h.objs.size,.none,.none,.none,.bool false,.none]}):=
  X.keeps fun b o e=>Heap.get?_push_of_some _ (Heap.get?_push_of_some _ e)
 have hget:((h.push {cls:= .type "tuple",data:= .seq rest.toArray}).push
   {cls:= .ref C,data:= .fields #[.ref h.objs.size,.none,.none,.none,.bool false,.none]}).get? (h.objs.size + 1)=some
   {cls:= .ref C,data:= .fields #[.ref h.objs.size,.none,.none,.none,.bool false,.none]}:=by heap_get
 have hcC:(Value.ref C::bm).contains (.ref C)=true:=by simp
 unfold isInstance
 repeat (first | with_reducible refine wpAny_loadPart_at hget ?_ | (with_reducible refine wpAny_isSubtype_exc hC₁ ?_;rw [hcC]) | wp_step)
 show wpAny _ _ (typeLookup (.ref C) _) _ _ _
 refine (PySem.W.looks_findIn X₁ hi).at ?_
 refine wpAny_holding (wpAny_bind ?_)
 unfold bindSpecial
 refine wpAny_bind ((PySem.W.looks_typeIn X₁ hf).at ?_)
 rw [if_pos (by decide)]
 refine wpAny_pure (wpAny_bind (wpAny_mono (hq _ (h.objs.size + 1) ⟨fun b o hb=>Heap.get?_push_of_some _ (Heap.get?_push_of_some _ hb),Heap.get?_none_of_le (Nat.le_succ _),h.objs.size,hget,Heap.get?_none_of_le (Nat.le_refl _),?_⟩) (fun r s' hr=>?_) fun _ _ x=>x))
 ·exact Heap.get?_push_of_some _ (Heap.get?_push_at rfl rfl)
 ·obtain ⟨rfl,hQ⟩:=hr
  wp_walk
  exact hQ
theorem Ik (F:ExcBaseFacts B newId initId bmB) (T:OwnTail h bmB bm) {K:PySem.W.Frag} (X:K.In h) {rest:List Value} {fI:Addr} {Q:Value→Shared→Prop}
  (hC:h.get? C=some (excClassObj nm q C N bs bm hdct sn sub ab col dd k0 k1 k2 k3 k5 newId)) (hi:PySem.W.findIn K (.ref C) "__init__"=some (some (.ref fI))) (hf:PySem.W.typeIn K (.ref fI)=some (.type "function"))
  (hq:∀ h' e,Heap.MadeExcOf h h' e (.ref C) rest→
   wpAny (model prog w) (A.under (.builtin "type.__call__" ⟨.ref C::rest,[]⟩)) (call (.ref fI) (.ref e::rest)) (fun r s'=>r= .none∧Q (.ref e) s') E ⟨h',g,d,t,os⟩) (hrest:rest.length≤sizeLine):
  wpAny (model prog w) A (call (.ref C) rest) Q E ⟨h,g,d,t,os⟩:=by
 have f1:=tc_lookup
 have f2:=tc_bind (.ref C)
 have hT:(⟨h,g,d,t,os⟩:Shared).TypeIs (.ref C) "type":=⟨_,hC,rfl⟩
 refine wpAny_call (codeAny_of_tree ?_)
 show wpAny _ _ (callAny (.ref C) _) _ _ _
 repeat (any_goals (first | assumption | with_reducible refine wpAny_loadPart_at hC ?_ | wp_step))
 refine ⟨rfl,?_⟩
 refine codeAny_call_builtin_at (Code.quiet_builtin _ (by decide +kernel)) entry_typeCall (wpAny_check_type_call_sub hC (sR F T X hC hi hf (fun h' e hm=>?_) hrest))
 exact hq h' e hm
end
section
variable {prog:Program} {w:World} {A:Around} {E:Value→Shared→Prop} {s:Shared} {K:PySem.W.Frag} {x C W f:Addr} {name:Str} {v:Value}
theorem XOwn.cls {h:Heap} (c:XOwn K C W f):∃ cd,PySem.W.clsIn K C=some cd∧cd.hasDict=true∧cd.mro= .ref C:: .ref W::xBM:=by
 obtain ⟨nm,q,N,bs,sn,sub,ab,col,dd,k0,k1,k2,k3,k5,e⟩:=c.lk
 refine ⟨{name:=nm,bases:=bs,mro:= .ref C:: .ref W::xBM,ns:=N,qualname:=q,hasDict:=true,slotNames:=sn,subclasses:=sub,abstract:=ab,collection:=col,hasDel:=false},?_,rfl,rfl⟩
 unfold PySem.W.clsIn
 rw [e]
open Builtin.ObjectAttr in
theorem GU {ox:Obj} {od:Option Obj} {tk:Tok} {R:Result→Shared→Prop} (X:K.In s.heap) (I:PySem.W.InstAt s.heap x ox C od) (c:XOwn K C W f) (n:aq K C name)
  (h:∀ b,wpAny (model prog w) A.in1 (storeInOwnDict (.ref x) (.ref C) (.str name tk) name v b)
   (fun fin s'=>match fin with | .done f=>R (.ok f) s' | .again c'=>c'.quiet=true∧codeAny (model prog w) A c' R s') (fun e s'=>R (.error e) s') s):
  codeAny (model prog w) A (.call (.builtin "object.__setattr__") ⟨[.ref x,.str name tk,v],[]⟩) R s:=by
 have SF:=PySem.F.store_object
 obtain ⟨cd,hc,hd,hm⟩:=c.cls (h:=s.heap)
 have sub:PySem.W.Looks (model prog w) s.heap (isInstance (.ref x) (.type "object")) true:=I.type.andThen (PySem.W.looks_mroIn X c.mo)
 refine codeAny_call_builtin SF.slot.plain SF.entry (@PySem.W.check_slot (model prog w) _ _ s "object.__setattr__" "object" "__setattr__" (.ref x) [.str name tk,v] [] _ SF.kind SF.split sub (SF.args (.ref x) (.str name tk) v) ?_)
 have L1:PySem.W.Looks (model prog w) s.heap (mroOf (.ref C)) (.ref C:: .ref W::xBM):=hm ▸ (PySem.W.looks_clsIn X hc).andThen .now
 have ha:PySem.W.findIn K (.ref C) name=some none:=n
 have L3:PySem.W.Looks (model prog w) s.heap (storeTaker? none) none:= .now
 rw [PySem.W.osa_eq,refuse_eq]
 refine wpAny_bind (wpAny_bind (I.type.here (wpAny_bind (L1.here ?_))))
 rw [refuseLoop_ref,refuseLoop_ref,PySem.F.store_ValueError.passes]
 refine wpAny_pure (wpAny_bind (I.type.here (wpAny_bind ((PySem.W.looks_findIn X ha).here (wpAny_bind (L3.here ?_))))))
 exact h _
open Builtin.ObjectAttr in
theorem LP {t:Addr} {Q:Unit→Shared→Prop} (X:K.In s.heap) (c:XOwn K C W f) (n:aq K C name) (e:s.heap.get? x=some (xRec C none t))
  (h:∀ h',h'.Ns1 s.heap.objs.size (fun y=>if y=name then some v else none)→h'.get? x=some (xRec C (some s.heap.objs.size) t)→(∀ b o,b≠x→s.heap.get? b=some o→h'.get? b=some o)→Q () {s with heap:=h',toks:=s.toks + 2}):
  wpAny (model prog w) A (setAttr (.ref x) name v) Q E s:=by
 have J:PySem.W.InstAt s.heap x (xRec C none t) C none:=⟨e,rfl,rfl,trivial⟩
 refine PySem.W.set_plain X J c.sa (GU (s:={s with toks:=s.toks + 1}) X J c n fun b=>?_)
 obtain ⟨cd,hc,hd,hm⟩:=c.cls (h:=s.heap)
 refine wpAny_bind (wpAny_pure (wpAny_bind (wpAny_bind (wpAny_loadPart e (wpAny_bind (PySem.W.Looks.here (s:={s with toks:=s.toks + 1}) (PySem.W.looks_clsIn X hc) ?_))))))
 rw [hd]
 have hx₁:(s.heap.push {cls:= .type "dict",data:= .dict #[]}).get? x=some (xRec C none t):=Heap.get?_push_of_some _ e
 have hxs:x≠s.heap.objs.size:=Nat.ne_of_lt (Heap.lt_size e)
 refine wpAny_bind (wpAny_alloc' ?_)
 refine wpAny_bind (wpAny_update' hx₁ ?_)
 refine wpAny_pure ?_
 have hgd:((s.heap.push {cls:= .type "dict",data:= .dict #[]}).update x fun o=>{cls:=o.cls,dict:=some s.heap.objs.size,data:=o.data,slots:=o.slots}).get? s.heap.objs.size
   =some {cls:= .type "dict",data:= .dict #[]}:=(Heap.get?_update_ne _ _ _ _ hxs.symm).trans (Heap.get?_push_at rfl rfl)
 have hnd:((s.heap.push {cls:= .type "dict",data:= .dict #[]}).update x fun o=>{cls:=o.cls,dict:=some s.heap.objs.size,data:=o.data,slots:=o.slots}).Ns s.heap.objs.size (fun _=>none):=
  ⟨_,#[],_,hgd,rfl,fun e he=>absurd he (by simp),fun _=>rfl⟩
 have hgx:((s.heap.push {cls:= .type "dict",data:= .dict #[]}).update x fun o=>{cls:=o.cls,dict:=some s.heap.objs.size,data:=o.data,slots:=o.slots}).get? x=some (xRec C (some s.heap.objs.size) t):=
  Heap.get?_update_self _ hx₁ rfl
 show wpAny _ _ (storeInDict s.heap.objs.size (.str name _) name v) _ _ _
 unfold storeInDict newKeyGuard
 refine wpAny_bind (wpAny_pure (wpAny_bind (wpAny_nsSet1 (Heap.Ns1.of_empty hnd) fun h' hn' hs=>?_)))
 obtain ⟨oD,esD,epD,hoD,hdD,hcD⟩:=hn'.count (Within.cons name v Within.nil)
 refine wpAny_bind (wpAny_lookBehind hoD (by rw [hdD];exact pastItsLine_dict (Nat.le_trans hcD (by rw [List.length_cons,List.length_nil,sizeLine_eq];omega))) ?_)
 exact wpAny_pure (h h' hn' ((hs.2 x hxs).trans hgx) fun b o hb q=>(hs.2 b (Nat.ne_of_lt (Heap.lt_size q))).trans ((Heap.get?_update_ne _ _ _ _ hb).trans (Heap.get?_push_of_some _ q)))
theorem MI {ox:Obj} {odo:Option Obj} {expr:Bool} {Q:Value→Shared→Prop} (X:K.In s.heap) (c:XIsi K C) (I:PySem.W.InstAt s.heap x ox C odo) (hf:PySem.W.findObj K C odo name=some (.value v)) (hv:PySem.W.handedIn v=true)
  (h:Q v {s with toks:=s.toks + 1}):wpAny (model prog w) A (getAttr (.ref x) name expr) Q E s:=by
 obtain ⟨hh,gg,d,t,os⟩:=s
 have L0:=I.type (M:=model prog w)
 have L1:=PySem.W.looks_findIn (M:=model prog w) X c.ga
 have L2:=PySem.W.looks_findIn (M:=model prog w) X c.gr
 have L3:=PySem.W.looks_find (M:=model prog w) X I hf
 have LI:PySem.W.Looks (model prog w) hh (isInstance (.ref x) (.type "BaseException")) true:=L0.andThen (PySem.W.looks_mroIn X c.base)
 unfold getAttr getAttrBy
 refine wpAny_bind (wpAny_mkText (wpAny_holding (wpAny_bind (L0.at (wpAny_bind (L1.at ?_))))))
 dsimp only
 have hx2:(Value.builtin "BaseException.__getattribute__" == Value.builtin "object.__getattribute__")=false:=by decide +kernel
 rw [if_neg (by rw [hx2,Bool.and_false];exact Bool.false_ne_true)]
 unfold getAttrByItsOwn hookBefore
 rw [if_pos (by rfl)]
 refine wpAny_bind (L2.at (wpAny_bind (wpAny_attempt (wpAny_holding ?_))))
 unfold callGetattribute
 rw [show (expr&&onTheHeap (Value.builtin "BaseException.__getattribute__"))=false from Bool.and_false _,if_neg (by simp)]
 unfold boundAndCalled
 refine wpAny_bind (wpAny_of_eq (F.attr_ValueError.ga.bind _) ?_)
 have hk:builtinKind "BaseException.__getattribute__"=some .slot:=by decide +kernel
 have hsplit:splitId "BaseException.__getattribute__"=some ("BaseException","__getattribute__"):=by decide +kernel
 have pl:=F.attr_ValueError.ga.plain
 have en:=F.entry_bexc_ga
 show wpAny _ _ (call (.builtin "BaseException.__getattribute__") [.ref x,.str name t]) _ _ _
 refine wpAny_call (codeAny_call_builtin pl en ?_)
 have ag:=F.args_bexc_ga (.ref x) (.str name t)
 generalize hgid:"BaseException.__getattribute__"=id0 at hk hsplit ag ⊢
 refine PySem.W.check_slot (self:= .ref x) (rest:=[.str name t]) (kw:=[]) hk hsplit LI ag ?_
 unfold Builtin.«object.__getattribute__»
 refine wpAny_bind (wpAny_of_eq (a:=(Value.ref x,[Value.str name t])) rfl ?_)
 dsimp only
 refine wpAny_bind (wpAny_of_eq (a:=name) rfl ?_)
 refine wpAny_bind (L0.at (wpAny_bind (L3.at ?_)))
 refine wpAny_pure ?_
 show wpAny _ _ (handedOut v) _ _ _
 rw [PySem.W.handedOut_of hv]
 exact wpAny_pure h
theorem Py {od:Option Obj} (c:XIsi K C):PySem.W.KitX K (.ref x) (.ref C) (fun h=>∃ ox od vs,PySem.W.InstAt h x ox C od∧ox.data= .fields vs) where
 ty:=fun _ _ _ ⟨ox,od,vs,I,_⟩=>I.type
 it:=fun _ _ X _=>om X c.cls
 ne:=fun h tp dd its n sl X htp=>by
  refine Bool.eq_false_iff.mpr fun q=>?_
  have e:C=tp:=Value.ref.inj (beq_iff_eq.mp q)
  subst e
  have z:=c.cls
  unfold PySem.W.isClsIn PySem.W.clsIn at z
  split at z
  next ho=>have y:=(X _ _ ho).symm.trans htp;cases y
  next=>cases z
 ca:=fun {prog w A E Q s} X ⟨ox,od,vs,I,h4⟩ k=>by
  refine xget X c I (Pz c.cls c.ha c.hn c.tk) (fun _ _=>trivial) fun A'=>?_
  exact wpAny_call (PySem.W.class_get (s:={s with toks:=s.toks + 1}) (ox:=ox) (od:=od) X I c.hm ⟨rfl,k⟩)
end
theorem Cc {α:Type} {x:α}:[x].length≤sizeLine:=by show 1≤_;rw [sizeLine_eq];decide
section
variable {X:Cx} {pins:List (Addr×Obj)} {σ:St} {H:Hp} {s:Shared} {p C W f:Addr} {fs:List (Str×V)}
noncomputable def N6 (K:PySem.W.Frag) (ta tv:TE) (f:Str):TS:=fun D σ H=>tv σ H fun y H1=>ta σ H1 fun x H2=>∃ p C W g,x= .ref p∧H2 p=some (ExcF p C none)∧XOwn K C W g∧aq K C f∧
 ∀ d,H2 d=none→d≠p→D.nx σ (upd (upd H2 d (.xd [(f,y)])) p (ExcF p C (some d)))
noncomputable def Lo (K:PySem.W.Frag) (f:Str) (y:V) (D:Ends) (σ:St) (x:V) (H:Hp):Prop:=∃ p C W g,x= .ref p∧H p=some (ExcF p C none)∧XOwn K C W g∧aq K C f∧
 ∀ d,H d=none→d≠p→D.nx σ (upd (upd H d (.xd [(f,y)])) p (ExcF p C (some d)))
theorem Gv {K:PySem.W.Frag} {f:Str} {te tv:TE} {D:Ends} (h:tv σ H fun y H1=>te σ H1 (Lo K f y D σ)):N6 K te tv f D σ H:=h
theorem vT {K:PySem.W.Frag} {f:Str} {y:V} {D:Ends} {g:Addr} (e:H p=some (ExcF p C none)) (c:XOwn K C W g) (n:aq K C f)
  (h:∀ H2,ExcV H2 p C [(f,y)]→(∀ b u,b≠p→H b=some u→H2 b=some u)→D.nx σ H2):Lo K f y D σ (.ref p) H:=
 ⟨p,C,W,g,rfl,e,c,n,fun d hd ne=>h _ ⟨some d,av,by show upd _ p _ d=_;rw [ar ne,av]⟩ fun b u hb q=>by rw [ar hb,ar (ah q hd)];exact q⟩
theorem Ag {K:PySem.W.Frag} {o value:Expr} {ta tv:TE} {f:Str} {pos pos':Pos} (h:X.K=K) (ha:PE X o ta) (hv:PE X value tv) (hs:swapsWith value (some (.Attribute o f pos')) pos.line X.env=pure false):PS X (.Assign [.Attribute o f pos'] value pos) (N6 K ta tv f):=by
 subst h
 intro pins s σ H D I h
 refine plainObj_wpAny_Assign_Attribute (thn (hv pins s σ H _ I h) fun u s1 ⟨y,H1,I1,ry,q⟩=>thn (ha pins s1 σ H1 _ I1 q) fun ov s2 ⟨x,H2,I2,rx,p,C,W,g,ex,ea,c,n,q2⟩=>?_) hs
 subst ex
 obtain rfl:ov=Value.ref p:=rx
 obtain ⟨⟨t,e0⟩,_⟩:=I2.hok p _ ea
 refine LP I2.kIn c n e0 fun h' ns hx keep=>?_
 have hf:=I2.hok.fresh (Nat.le_refl s2.heap.objs.size)
 have hne:s2.heap.objs.size≠p:=Nat.ne_of_gt (Heap.lt_size e0)
 obtain ⟨oD,es,ep,hoD,hrest⟩:=id ns
 have hfr:=(Heap.get?_some_iff.mp hoD).2
 have hD:(s2.heap.push oD).get? s2.heap.objs.size=some oD:=Heap.get?_push_size s2.heap hfr
 have I3:=I2.laid (a:=s2.heap.objs.size) (o:= .xd [(f,y)]) (h':=s2.heap.push oD) (t':=s2.toks) (fun b u q=>Heap.get?_push_of_some _ q) (Nat.le_refl _)
  ⟨_,⟨oD,es,ep,hD,hrest⟩,fun k=>by
    by_cases hk:k=f
    ·subst hk
     simp only [if_true,List.lookup,beq_self_eq_true]
     exact ry
    ·have hb:(k == f)=false:=beq_eq_false_iff_ne.mpr hk
     simp only [if_neg hk,List.lookup,hb]
     exact trivial⟩
 have I4:=I3.write (x:=p) (e:=p) (o:=ExcF p C (some s2.heap.objs.size)) (h':=h') (t':=s2.toks + 2) (by rw [ar hne.symm,ea];exact True.intro) (.inl rfl) (fun b u hb q=>?_) ⟨_,hx⟩ (Bc hx)
 ·exact ⟨σ,_,I4,q2 _ hf hne⟩
 ·by_cases hz:b=s2.heap.objs.size
  ·subst hz
   have q:(s2.heap.push oD).get? s2.heap.objs.size=some u:=q
   rw [hD] at q
   cases q
   exact hoD
  ·refine keep b u hb ?_
   have q:(s2.heap.push oD).get? b=some u:=q
   rw [Heap.get?_push_ne _ _ _ hz] at q
   exact q
structure Pj (K:PySem.W.Frag) (W:Addr):Prop where
 ga:PySem.W.specialIn K (.ref W) "__getattribute__"=some (some (.builtin "type.__getattribute__"))
 rd:PySem.W.readsIn K W (.type "type")=true
 fd:PySem.W.findCls K (.ref W) (.type "type") "__init__"=some (.val (.builtin "ValueError.__init__"))
noncomputable def KP (K:PySem.W.Frag) (t:TA):TE:=fun σ H Q=>t σ H fun vs H1=>∃ p C W g dx u,vs=[.ref p,u]∧H1 p=some (ExcF p C dx)∧XOwn K C W g∧Q .non H1
noncomputable def IF (K:PySem.W.Frag) (Q:VK) (vs:List V) (H:Hp):Prop:=∃ p C W g dx u,vs=[.ref p,u]∧H p=some (ExcF p C dx)∧XOwn K C W g∧Q .non H
theorem Ac {K:PySem.W.Frag} {t:TA} {Q:VK} (h:t σ H (IF K Q)):KP K t σ H Q:=h
theorem p9 {K:PySem.W.Frag} {dx:Option Addr} {u:V} {Q:VK} (e:H p=some (ExcF p C dx)) (m:XOwn K C W f) (h:Q .non H):IF K Q [.ref p,u] H:=⟨p,C,W,f,dx,u,rfl,e,m,h⟩
theorem Jl {a:Value} {dx:Option Addr} {Q:VK} (I:Inv X pins σ H s) (e:H p=some (ExcF p C dx)) (m:XOwn X.K C W f) (h:Q .non H):
  wpAny (model X.prog X.w) X.A (call (.builtin "ValueError.__init__") [.ref p,a]) (EP X pins σ Q) X.xe s:=by
 obtain ⟨⟨t,e0⟩,_⟩:=I.hok p _ e
 have FB:=PySem.F.excBase_ValueError
 obtain ⟨nm,qn,N,bs,sn,sub,ab,col,dd,k0,k1,k2,k3,k5,lk⟩:=m.lk
 have hC:=I.kIn _ _ lk
 have T:OwnTail s.heap xBM (.ref W::xBM):=PySem.W.tail_of_in I.kIn (F1 m.up)
 obtain ⟨hh,g,d,tk,os⟩:=s
 refine wpAny_call (codeAny_call_builtin FB.init.plain FB.initEntry (wpAny_check_init_subT FB T hC e0 rfl ?_))
 unfold Builtin.«BaseException.__init__»
 show wpAny _ _ (newTuple [a] >>=fun tv=>Builtin.BaseException.bexcPut (.ref p) 0 tv >>=fun _=>ret .none) _ _ _
 refine wpAny_bind (wpAny_newTuple ?_ Cc)
 have e1:(hh.push {cls:= .type "tuple",data:= .seq [a].toArray}).get? p=some (xRec C dx t):=Heap.get?_push_of_some _ e0
 unfold Builtin.BaseException.bexcPut
 refine wpAny_bind (wpAny_bind (wpAny_field e1 rfl rfl (wpAny_bind (wpAny_setField e1 rfl (Nat.succ_pos 5) ?_))))
 have e2:=Heap.get?_update_self (Obj.mapFields (·.setIfInBounds 0 (.ref hh.objs.size))) e1 rfl
 have I1:=(I.kept (t':=tk) (h':=hh.push {cls:= .type "tuple",data:= .seq [a].toArray}) (fun b u q=>Heap.get?_push_of_some _ q)).write (x:=p) (e:=p) (o:=ExcF p C dx)
  (h':=(hh.push {cls:= .type "tuple",data:= .seq [a].toArray}).update p (Obj.mapFields (·.setIfInBounds 0 (.ref hh.objs.size)))) (t':=tk) (by rw [e];exact True.intro) (.inl rfl) (fun b u hb q=>(Heap.get?_update_ne _ _ _ _ hb).trans q) ⟨_,e2⟩ (Bc (t:=hh.objs.size) e2)
 have eH:upd H p (ExcF p C dx)=H:=by
  funext b
  by_cases hb:b=p
  ·subst hb;rw [av,e]
  ·rw [ar hb]
 rw [eH] at I1
 unfold letGo letGo
 refine wpAny_bind (wpAny_holding (wpAny_point ?_))
 exact wpAny_pure (wpAny_pure ⟨.non,H,I1,rfl,h⟩)
theorem wg {x:Str} {np apos pos:Pos} {e:Expr} {es:List Expr} {t:TA} {K:PySem.W.Frag} {pl:Sem Bool} (hK:X.K=K) (hg:Gl X x) (hx:X.mg x=some (.ref W)) (c:Pj K W) (ha:PA X (e::es) t)
  (hdb:(x == ("__debug__":Str))=false:=by decide) (hst:starEach (e::es) X.env=(false,eval e X.env)::starEach es X.env:=by rfl) (hpl:(backTo pos (starEach es X.env)).any (·.1)=false:=by rfl)
  (ht:eval (.Call (.Attribute (.Name x np) "__init__" apos) (e::es) [] pos) X.env=(do
   let ov ← eval (.Name x np) X.env
   standAt apos.atName
   let (f,first) ← holding [ov] (getMethod ov "__init__" pl)
   callWith pos f first (backTo pos (starEach (e::es) X.env)) (backToKw pos (keywordEach [] X.env))):=by rfl):
  PE X (.Call (.Attribute (.Name x np) "__init__" apos) (e::es) [] pos) (KP K t):=by
 subst hK
 intro pins s σ H Q I h
 refine PySem.W.methodCall_KW (pl:=pl) (gO I hg hx ?_ hdb) ht
 refine PySem.W.method_cls I.kIn c.ga (PySem.W.cls_value I.kIn c.rd c.fd rfl ?_)
 have I1:=I.tok (s.toks + 1)
 refine PyProof.Rows.callWith_builtin1 (thn (ha pos pins _ σ H _ I1 h) fun us s1 ⟨vs,H1,I2,r,p,C,W2,g2,dx,u,ev,hp,hm,q2⟩=>?_) hst hpl
 subst ev
 obtain ⟨a1,a2,rfl,ra,rb⟩:=Jn r
 obtain rfl:a1= .ref p:=ra
 exact Jl I2 hp hm q2
theorem ii {st:Stmt}:PS X st (fun _ _ _=>False):=fun _ _ _ _ _ _ h=>h.elim
end
noncomputable def Ob:List V→Hp→VK→Prop:=fun xs H Q=>∃ a b:Int,xs=[.int a,.int b]∧Q (.int (min a b)) H
section
variable {X:Cx}
theorem Ii (hc:X.calm=true):jH X (.builtin "min") Ob:=by
 intro pins s σ H xs us Q I r h
 obtain ⟨a,b,rfl,q⟩:=h
 obtain ⟨u,v,rfl,rx,ry⟩:=Jn r
 obtain ⟨t,rfl⟩:=rx
 obtain ⟨t',rfl⟩:=ry
 refine min_two_ints (I.ok.hd hc) fun h' tk hk=>?_
 refine ⟨.int (min a b),H,I.kept hk,?_,q⟩
 by_cases hb:b < a
 ·rw [if_pos hb,show min a b=b by omega];exact ⟨_,rfl⟩
 ·rw [if_neg hb,show min a b=a by omega];exact ⟨_,rfl⟩
end
theorem PV {a b:Int} {H:Hp} {Q:VK} (h:Q (.int (min a b)) H):Ob [.int a,.int b] H Q:=⟨a,b,rfl,h⟩
end L2
namespace PySem
theorem F.entry_dict_update_loop:entryFor table "dict.update.loop"=some Builtin.«dict.update.loop»:=entryFor_of_fast (by kernel_rfl)
theorem F.plain_dict_update_loop:plainId "dict.update.loop"=true:=by decide +kernel
theorem F.list_keys_none:typeLookup (.type "list") "keys"=pure none:=by rw [typeLookup_type,builtinLookup_eq_fast];kernel_rfl
theorem AG {prog:Program} {w:World} {A:Around} {E:Value→Shared→Prop} {s:Shared} {a:Addr} {xs:Array Value} {k:Nat} {name:Str} {Q:Option Value→Shared→Prop}
  (hx:s.heap.get? a=some {cls:= .type "list",data:= .seq xs k}) (hmiss:typeLookup (.type "list") name=pure none) (hname:(["__module__","__name__","__qualname__","__doc__","__annotations__"]:List Str).contains name=false) (hA:A.handled=none)
  (h:∀ h' tk,(∀ b o,s.heap.get? b=some o→h'.get? b=some o)→Q none {s with heap:=h',toks:=tk}) (hsz:name.length + 100≤sizeLine:=by size_fits):
  wpAny (model prog w) A (getAttr? (.ref a) name) Q E s:=by
 obtain ⟨hp,g,d,tk,os⟩:=s
 have hT:∀ tk',(⟨hp,g,d,tk',os⟩:Shared).TypeIs (.ref a) "list":=fun _=>⟨_,hx,rfl⟩
 have f1:=sub_AttributeError
 have f3:=F.slot_list_getattribute.lookup
 have f4:=F.slot_list_getattribute.bind (.ref a)
 have f5:=am_list_getattr_none
 unfold getAttr? getAttrBy? getAttrBy
 repeat (any_goals (first | assumption | exact hT _ | ((with_reducible show wpAny _ _ (call (Value.builtin "list.__getattribute__") _ _) _ _ _);refine call_meets F.slot_list_getattribute (hT _) am_entry_list_getattribute (F.args_list_getattribute_2 _ _) (meets_getattribute_miss_list a xs k #[] name _ hmiss hname hsz) ⟨hx,hA,fun h' tk' e hx'=>?_⟩) | wp_step))
 obtain ⟨t',u',he⟩:=hx'.there
 show wpAny _ _ (getattributeRaised _ _ _ _ _ _ _) _ _ _
 unfold getattributeRaised
 repeat (any_goals (first | assumption | wp_step))
 exact h _ _ hx'.keeps
section
variable {prog:Program} {w:World} {K:Type} [DecidableEq K] {knd:KeyKind prog w K} {A:Around} {R:Result→Shared→Prop} {I:Addr} {fp wr:List Addr} {n:Nat} {P:Nat→Value→Prop} {St:Nat→Heap→Prop}
noncomputable def Lp (knd:KeyKind prog w K) (h:Heap) (a:Addr) (kv:K×Value):Prop:=∃ key o n,h.get? a=some o∧o.cls= .type "tuple"∧o.data= .seq #[key,kv.2] n∧knd.is kv.1 key=true
theorem rT {h h':Heap} {d:Addr} {kvs:List (K×Value)} (hm:h.DictOf knd d kvs) (f:∀ o,h.get? d=some o→h'.get? d=some o):h'.DictOf knd d kvs:=let ⟨o,es,ep,ho,r⟩:=hm;⟨o,es,ep,f o ho,r⟩
theorem lh (W:Walks prog w A.in1 I fp wr n P St) (d:Addr) (hdf:d∉fp) (more:List (K×Value)) (hn:more.length=n) (hsz:n≤sizeLine) (tup:Nat→Addr) (htw:∀ i,i < n→tup i∉wr∧tup i≠d) (hP:∀ i v,i < n→P i v→v= .ref (tup i)):
  ∀ (k j:Nat) (s:Shared) (ix:Int) (t:Tok),n - j=k→j≤n→St j s.heap→s.heap.DictOf knd d (merged [] (more.take j))→(∀ i kv,more[i]? =some kv→Lp knd s.heap (tup i) kv)→
  (∀ h' tk,h'.DictOf knd d (merged [] more)→(∀ b o,b∉wr→b≠d→s.heap.get? b=some o→h'.get? b=some o)→R (.ok (.ret .none)) {s with heap:=h',toks:=tk})→
  codeAny (model prog w) A (.builtin "dict.update.loop" ⟨[.ref d,.ref I,.int ix t,.none],[]⟩) R s:=by
 have hdw:d∉wr:=fun h=>hdf (W.sub _ h)
 intro k
 induction k with
 | zero=>
   intro j s ix t hk hj hst hd hp hR
   have hin:j=n:=by omega
   subst hin
   refine codeAny_builtin F.entry_dict_update_loop ?_
   rw [Around.under_plainId F.plain_dict_update_loop _]
   show wpAny _ A.in1 (pyNext (.ref I) >>=_) _ _ s
   refine wpAny_bind (W.done s _ _ hst fun h' tk hk'=>?_)
   show wpAny _ A.in1 (Builtin.Dict.addKeywords d [] >>=_) _ _ _
   refine wpAny_bind (wpAny_pure (wpAny_pure ?_))
   rw [← hn,List.take_length] at hd
   exact hR h' tk (rT hd fun o e=>hk' d o hdw e) fun b o hb _ e=>hk' b o hb e
 | succ k ih=>
   intro j s ix t hk hj hst hd hp hR
   have hlt:j < n:=by omega
   refine codeAny_builtin F.entry_dict_update_loop ?_
   rw [Around.under_plainId F.plain_dict_update_loop _]
   show wpAny _ A.in1 (pyNext (.ref I) >>=_) _ _ s
   refine wpAny_bind (W.item j s _ _ hlt hst fun v h' tk hPv hst' hk'=>?_)
   have ev:=hP j v hlt hPv
   subst ev
   obtain ⟨kv,hkv⟩:∃ kv,more[j]? =some kv:=⟨_,List.getElem?_eq_getElem (by omega)⟩
   obtain ⟨key,ob,m,ht,hcl,hda,hkey⟩:=hp j kv hkv
   have ht':=hk' _ _ (htw j hlt).1 ht
   show wpAny _ A.in1 (holding [Value.ref (tup j)] _ >>=_) _ _ _
   refine wpAny_bind (wpAny_holding (wpAny_bind (wpAny_tryCatch ?_)))
   unfold Builtin.Dict.pairItems
   refine wpAny_bind (wpAny_typeOf (T:="tuple") ⟨_,ht',hcl⟩ ?_)
   rw [if_pos (by decide)]
   refine wpAny_bind (wpAny_seqItems ht' hda ?_)
   refine wpAny_pure ?_
   show wpAny _ A.in1 (holding [key,kv.2] (dictSet d key kv.2)) _ _ _
   have hd':h'.DictOf knd d (merged [] (more.take j)):=rT hd fun o e=>hk' d o hdw e
   refine wpAny_holding (wpAny_dictSet_pairs (s:={s with heap:=h',toks:=tk}) hkey hd' (fun h2 hd2 hs2=>?_) (hsz:=by have:=merged_length_le [] (more.take j);rw [List.length_nil,List.length_take] at this;omega))
   rw [← merged_take_succ [] more j kv hkv] at hd2
   have kp:∀ b o,b∉wr→b≠d→s.heap.get? b=some o→h2.get? b=some o:=fun b o hb hbd e=>(hs2.2 b hbd).trans (hk' b o hb e)
   refine wpAny_pure ⟨plainId_quiet F.plain_dict_update_loop _,ih (j + 1) _ _ _ (by omega) hlt (W.frame _ _ _ hst' fun b hb o e=>?_) hd2 (fun i kv' hi=>?_) fun h3 tk3 hd3 hk3=>?_⟩
   ·exact (hs2.2 b fun z=>hdf (z ▸ hb)).trans e
   ·obtain ⟨key',o',m',e',x'⟩:=hp i kv' hi
    have hi':i < n:=by rw [← hn];exact (List.getElem?_eq_some_iff.mp hi).1
    exact ⟨key',o',m',kp _ _ (htw i hi').1 (htw i hi').2 e',x'⟩
   ·exact hR h3 tk3 hd3 fun b o hb hbd e=>hk3 b o hb hbd (kp b o hb hbd e)
end
section
variable {prog:Program} {w:World} {K:Type} [DecidableEq K] {knd:KeyKind prog w K} {A:Around} {E:Value→Shared→Prop} {s:Shared}
theorem sy {l:Addr} {its:Array Value} {c:Nat} {more:List (K×Value)} {tup:Nat→Addr} {Q:Value→Shared→Prop} (hA:A.handled=none) (hl:s.heap.get? l=some {cls:= .type "list",data:= .seq its c})
  (hn:more.length=its.size) (hsz:its.size≤sizeLine) (hit:∀ (i:Nat) (v:Value),its[i]? =some v→v= .ref (tup i)) (hp:∀ i kv,more[i]? =some kv→Lp knd s.heap (tup i) kv) (nd:(more.map (·.1)).Nodup)
  (h:∀ h' tk,h'.DictOf knd s.heap.objs.size more→(∀ b o,s.heap.get? b=some o→h'.get? b=some o)→Q (.ref s.heap.objs.size) {s with heap:=h',toks:=tk}):
  wpAny (model prog w) A (call (.type "dict") [.ref l]) Q E s:=by
 refine callType_codes (Q₁:=fun obj s₁=>obj= .ref s.heap.objs.size∧s₁={s with heap:=s.heap.push {cls:= .type "dict",data:= .dict #[]}}) F.kt_called_dict (F.kt_typeCall_dict_1 _) F.entry_dict_init (kt_code_dict_new _ ⟨rfl,rfl⟩) ?_
 rintro obj s₁ ⟨rfl,rfl⟩
 have hnew:(s.heap.push {cls:= .type "dict",data:= .dict #[]}).DictOf knd s.heap.objs.size []:=Heap.DictOf.new s.heap
 have hl':(s.heap.push {cls:= .type "dict",data:= .dict #[]}).get? l=some {cls:= .type "list",data:= .seq its c}:=Heap.get?_push_of_some _ hl
 refine ⟨hnew.typeIs,F.args_dict_init_2 _ _,?_⟩
 unfold Builtin.«dict.__init__»
 refine wpAny_bind ?_
 unfold Builtin.Dict.selfAndRest
 refine wpAny_bind (wpAny_notOrdered_dict hnew.typeIs ?_)
 show wpAny _ _ (pure (s.heap.objs.size,[Value.ref l])) _ _ _
 refine wpAny_pure ?_
 show wpAny _ _ (Builtin.Dict.updateFrom "dict.__init__" s.heap.objs.size (.ref l) [] .none) _ _ _
 unfold Builtin.Dict.updateFrom
 refine wpAny_bind (wpAny_typeOf (T:="list") ⟨_,hl',rfl⟩ ?_)
 rw [if_pos (by decide)]
 refine wpAny_bind (AG hl' F.list_keys_none (by decide) hA fun h' tk hk=>?_)
 rw [if_pos (show (none:Option Value).isNone=true from rfl)]
 have hl2:=hk _ _ hl'
 have hlt:l < s.heap.objs.size:=Heap.lt_size hl
 have hd2:h'.DictOf knd s.heap.objs.size []:=rT hnew fun o e=>hk _ _ e
 have hds:s.heap.objs.size < h'.objs.size:=by obtain ⟨o,_,_,ho,_⟩:=hd2;exact Heap.lt_size ho
 have htl:∀ i,i < its.size→tup i < s.heap.objs.size:=fun i hi=>by
  obtain ⟨kv,hkv⟩:∃ kv,more[i]? =some kv:=⟨_,List.getElem?_eq_getElem (by omega)⟩
  obtain ⟨_,_,_,e,_⟩:=hp i kv hkv
  exact Heap.lt_size e
 refine wpAny_bind (wpAny_rule ?_)
 refine wpAny_bind (wpAny_pyIter_list (items:=its) ⟨_,hl2,rfl,c,rfl⟩ ?_)
 have W:=Walks.list (prog:=prog) (w:=w) (A:=A.in1.in1) hA h'.objs.size l (Nat.ne_of_lt (Nat.lt_trans hlt hds)) its
 refine wpAny_pure ⟨plainId_quiet F.plain_dict_update_loop _,lh (knd:=knd) (A:=A.in1) W s.heap.objs.size ?_ more hn hsz tup (fun i hi=>⟨?_,?_⟩) (fun i v _ e=>hit i v e) _ 0 _ _ _ rfl (Nat.zero_le _) ⟨⟨_,Heap.get?_push_size _ rfl,rfl,rfl⟩,?_⟩ ?_ (fun i kv hi=>?_) fun h3 tk3 hd3 hk3=>?_⟩
 ·intro hm
  rcases List.mem_cons.mp hm with e | hm
  ·exact absurd e (Nat.ne_of_lt hds)
  ·exact absurd (List.mem_singleton.mp hm).symm (Nat.ne_of_lt hlt)
 ·intro hm
  exact absurd (List.mem_singleton.mp hm) (Nat.ne_of_lt (Nat.lt_trans (htl i hi) hds))
 ·exact Nat.ne_of_lt (htl i hi)
 ·exact ⟨_,Heap.get?_push_of_some _ hl2,rfl,c,rfl⟩
 ·exact hd2.push _
 ·obtain ⟨key,ob,m,e,x⟩:=hp i kv hi
  exact ⟨key,ob,m,Heap.get?_push_of_some _ (hk _ _ (Heap.get?_push_of_some _ e)),x⟩
 ·rw [merged_nil_of_nodup more nd] at hd3
  refine ⟨rfl,h h3 tk3 hd3 fun b o e=>hk3 b o (fun hm=>?_) ?_ (Heap.get?_push_of_some _ (hk _ _ (Heap.get?_push_of_some _ e)))⟩
  ·exact absurd (List.mem_singleton.mp hm) (Nat.ne_of_lt (Nat.lt_trans (Heap.lt_size e) hds))
  ·exact Nat.ne_of_lt (Heap.lt_size e)
end
end PySem
namespace L2
open PySem PySem.Spec PyProof.Rows
noncomputable def K3:List V→Hp→VK→Prop:=fun xs H Q=>∃ (l:Addr) (ps:List (Addr×Key×V)),xs=[.ref l]∧H l=some (.lst (ps.map fun q=>V.ref q.1))∧(∀ q∈ps,H q.1=some (.tup [kV q.2.1,q.2.2]))∧(ps.map fun q=>q.2.1).Nodup∧
 ∀ d,H d=none→Q (.ref d) (upd H d (.dK (ps.map (·.2))))
section
variable {X:Cx}
theorem vG (hc:X.calm=true):jH X (.type "dict") K3:=by
 intro pins s σ H xs us Q I r h
 obtain ⟨l,ps,rfl,hl,ht,nd,q⟩:=h
 obtain ⟨u,rfl,rx⟩:=vK r
 cases rx
 obtain ⟨z,its,c,rv,ll,el⟩:=I.lstM hl
 rw [List.length_map] at z ll
 have get:∀ (i:Nat) q,ps[i]? =some q→its[i]? =some (.ref q.1)∧∃ key v o n,s.heap.get? q.1=some o∧o.cls= .type "tuple"∧o.data= .seq #[key,v] n∧(cO X.prog X.w).is q.2.1 key=true∧RelV q.2.2 v:=fun i q hq=>by
  obtain ⟨u,hu,ru⟩:=Vals.get (x:=V.ref q.1) rv (by rw [List.getElem?_map,hq];rfl)
  cases ru
  refine ⟨hu,?_⟩
  have e:=ht q (List.mem_of_getElem? hq)
  obtain ⟨_,us,rt,it⟩:=I.hok _ _ e
  obtain ⟨a,b,rfl,ra,rb⟩:=Vals.two rt
  obtain ⟨o,ho,hcl,n,hda⟩:=it
  exact ⟨a,b,o,n,ho,hcl,hda,ED ra,rb⟩
 obtain ⟨vs,hvs⟩:∃ vs:List (Key×Value),vs=(List.range ps.length).map fun i=>match ps[i]? with
  | some q=>(q.2.1,match s.heap.get? q.1 with | some o=>(match o.data with | .seq xs _=>xs.getD 1 .none | _=> .none) | none=> .none)
  | none=>(.inl 0,.none):=⟨_,rfl⟩
 have hv:∀ (i:Nat) q,ps[i]? =some q→∃ key v o n,vs[i]? =some (q.2.1,v)∧s.heap.get? q.1=some o∧o.cls= .type "tuple"∧o.data= .seq #[key,v] n∧(cO X.prog X.w).is q.2.1 key=true∧RelV q.2.2 v:=fun i q hq=>by
  obtain ⟨_,key,v,o,n,e,e2,e3,k,rv⟩:=get i q hq
  have hi:=(List.getElem?_eq_some_iff.mp hq).1
  refine ⟨key,v,o,n,?_,e,e2,e3,k,rv⟩
  rw [hvs,List.getElem?_map,List.getElem?_range hi]
  show some (match ps[i]? with | some q=>_ | none=>_)=_
  rw [hq]
  show some (q.2.1,match s.heap.get? q.1 with | some o=>_ | none=>_)=_
  rw [e]
  show some (q.2.1,match o.data with | .seq xs _=>_ | _=>_)=_
  rw [e3];rfl
 have lv:vs.length=ps.length:=by rw [hvs,List.length_map,List.length_range]
 clear hvs
 have keys:vs.map (·.1)=ps.map fun q=>q.2.1:=by
  apply List.ext_getElem?;intro i
  rw [List.getElem?_map,List.getElem?_map]
  cases hq:ps[i]? with
  | none=>rw [List.getElem?_eq_none (by rw [lv];exact List.getElem?_eq_none_iff.mp hq)];rfl
  | some q=>obtain ⟨_,v,_,_,e,_⟩:=hv i q hq;rw [e];rfl
 have kv:KV (ps.map (·.2)) vs:=by
  refine qm (by rw [List.length_map,lv]) fun i a b ha hb=>?_
  rw [List.getElem?_map] at ha
  obtain ⟨q,hq,rfl⟩:=Option.map_eq_some_iff.mp ha
  obtain ⟨_,v,_,_,e,_,_,_,_,rv⟩:=hv i q hq
  rw [e] at hb
  cases hb
  exact ⟨rfl,rv⟩
 refine sy (knd:=cO X.prog X.w) (its:=its.toArray) (c:=c) (more:=vs) (tup:=fun i=>match ps[i]? with | some q=>q.1 | none=>0) (I.ok.hd hc) el (by rw [lv,ll];simp) (by simpa using (ll ▸ z)) (fun i v e=>?_) (fun i kv' e=>?_) (by rw [keys];exact nd) fun h' tk hd hk=>?_
 ·have hi:i < ps.length:=by rw [ll];have:=(Array.getElem?_eq_some_iff.mp e).1;simpa using this
  obtain ⟨q',hq⟩:∃ q',ps[i]? =some q':=⟨_,List.getElem?_eq_getElem hi⟩
  have e2:=(get i q' hq).1
  have e:its[i]? =some v:=by simpa using e
  rw [e2] at e
  cases e
  rw [hq]
 ·have hi:i < ps.length:=by rw [← lv];exact (List.getElem?_eq_some_iff.mp e).1
  obtain ⟨q',hq⟩:∃ q',ps[i]? =some q':=⟨_,List.getElem?_eq_getElem hi⟩
  obtain ⟨key,v,o,n,e1,e2,e3,e4,e5,_⟩:=hv i q' hq
  rw [e1] at e
  cases e
  rw [hq]
  exact ⟨key,o,n,e2,e3,e4,e5⟩
 ·refine ⟨.ref s.heap.objs.size,_,I.laid (t':=tk) hk (Nat.le_refl _) (show dB X.prog X.w _ h' _ (.dK (ps.map (·.2))) from ⟨by rw [List.length_map];exact z,beq_eq_false_iff_ne.mpr fun e=>absurd e.symm (Nat.ne_of_lt I.big),vs,kv,hd⟩),rfl,q _ (I.hok.fresh (Nat.le_refl _))⟩
end
section
variable {H:Hp} {Q:VK}
theorem GA {l:Addr} {ps:List (Addr×Key×V)} (e:H l=some (.lst (ps.map fun q=>V.ref q.1))) (ht:∀ q∈ps,H q.1=some (.tup [kV q.2.1,q.2.2])) (nd:(ps.map fun q=>q.2.1).Nodup) (h:∀ d H2,H d=none→Same H H2→H2 d=some (.dK (ps.map (·.2)))→Q (.ref d) H2):K3 [.ref l] H Q:=⟨l,ps,rfl,e,ht,nd,fR h⟩
end
end L2
namespace PySem
section
variable {M:Model} {A:Around} {E:Value→Shared→Prop} {env:Env} {s:Shared}
variable {nm q:Str} {C N:Addr} {bs bm:List Value} {hdct:Bool} {sn:List Str} {sub:List Value} {ab:Bool} {col:Option Bool} {dd:Option Addr} {k0 k1 k2 k3 k5:Option Value} {newId:String}
theorem kA {x:Sem Value} {Q:Flow→Shared→Prop} (hbase:bm.contains (.type "BaseException")=true) (hh:A.handled=none)
  (h:wpAny M A x (fun v s₁=>∃ e t dx,v= .ref e∧s₁.heap.get? C=some (excClassObj nm q C N bs bm hdct sn sub ab col dd k0 k1 k2 k3 k5 newId)∧
   s₁.heap.get? e=some {cls:= .ref C,dict:=dx,data:= .fields #[.ref t,.none,.none,.none,.bool false,.none]}∧E (.ref e) s₁) E s):
  wpAny M A (raiseStmt env (some x) none) Q E s:=by
 have hcB:(Value.ref C::bm).contains (.type "BaseException")=true:=by rw [List.contains_cons,hbase,Bool.or_true]
 unfold raiseStmt
 refine wpAny_bind (wpAny_mono h (fun v s₁ h₁=>?_) fun _ _ x=>x)
 obtain ⟨e,t,dx,rfl,hC,he,hE⟩:=h₁
 obtain ⟨hp,g,d,tk,os⟩:=s₁
 repeat (first | with_reducible refine wpAny_loadPart_at he ?_ | with_reducible refine wpAny_loadPart_at hC ?_ | (with_reducible refine wpAny_isSubtype_exc hC ?_;rw [hcB]) | wp_step)
 exact wpAny_raiseNew_none hh hE
theorem BP {x:Expr} {pos:Pos} {Q:Flow→Shared→Prop} (hbase:bm.contains (.type "BaseException")=true) (hh:A.handled=none)
  (h:wpAny M A (eval x env) (fun v s₁=>∃ e t dx,v= .ref e∧s₁.heap.get? C=some (excClassObj nm q C N bs bm hdct sn sub ab col dd k0 k1 k2 k3 k5 newId)∧
   s₁.heap.get? e=some {cls:= .ref C,dict:=dx,data:= .fields #[.ref t,.none,.none,.none,.bool false,.none]}∧E (.ref e) s₁) E s):
  wpAny M A (exec (.Raise (some x) none pos) env) Q E s:=by
 rw [arm_exec_Raise]
 first
  | exact wpAny_bind (wpAny_standAt (kA hbase hh (wpAny_bind (wpAny_mono h (fun v s₁ h₁=>wpAny_bind (wpAny_standAt (wpAny_pure h₁))) fun _ _ x=>x))))
  | (simp only [evalOpt,Option.map];exact wpAny_bind (wpAny_standAt (kA hbase hh (wpAny_bind (wpAny_mono h (fun v s₁ h₁=>wpAny_bind (wpAny_standAt (wpAny_pure h₁))) fun _ _ x=>x)))))
  | (show wpAny M A (do standAt pos;raiseStmt env (some (do let v ← eval x env;standAt pos;pure v)) none) Q E s;exact wpAny_bind (wpAny_standAt (kA hbase hh (wpAny_bind (wpAny_mono h (fun v s₁ h₁=>wpAny_bind (wpAny_standAt (wpAny_pure h₁))) fun _ _ x=>x)))))
end
end PySem
namespace L2
open PySem PySem.Spec PyProof.Rows
noncomputable def del (H:Hp) (p:Addr):Hp:=fun b=>if b=p then none else H b
theorem Cq {H:Hp} {p:Addr}:del H p p=none:=if_pos rfl
theorem vz {H:Hp} {p b:Addr} (h:b≠p):del H p b=H b:=if_neg h
theorem pR {H:Hp} {p b:Addr} (h:H b=none):del H p b=none:=by unfold del;split;rfl;exact h
theorem mi {H:Hp} {p b:Addr} {o u:HO} (e:H p=some o) (h:H b=some u) (n:o≠u):del H p b=some u:=by
 rw [vz fun z=>by subst z;rw [e] at h;cases h;exact n rfl];exact h
section
variable {X:Cx} {pins:List (Addr×Obj)} {σ:St} {H:Hp} {s:Shared} {p:Addr}
theorem Inv.untrack {φ:Heap→Prop} (I:Inv X pins σ H s) (e:H p=some (.ext φ)):Inv X pins σ (del H p) s:=by
 have U:=I.base
 refine ⟨I.ok,I.os,I.bare,⟨U.keep,U.slot,fun b ob q n hx=>pR (U.free b ob q n hx),U.there,fun b xs q=>mi e (U.tups b xs q) (fun z=>by cases z),fun b o u q=>mi e (U.frzs b o u q) (fun z=>by cases z),fun b ps q=>?_⟩,I.loc,I.cell,pR I.free,fun y c q=>pR (I.freeC y c q),fun p' hp=>?_,fun b ob q=>?_,I.len⟩
 ·obtain ⟨m,q'⟩:=U.tbls b ps q
  exact ⟨m,mi e q' (fun z=>by cases z)⟩
 ·obtain ⟨q,n,r⟩:=I.pin p' hp
  exact ⟨q,pR n,r⟩
 ·by_cases z:b=p
  ·rw [z,Cq] at q;cases q
  ·rw [vz z] at q
   exact (I.hok b ob q).stay (fun _ _ _ q=>q) (fun c q=>mi e q (fun z=>by cases z)) fun c xs q=>mi e q (fun z=>by cases z)
noncomputable def F2 (C:Addr) (sp:Sp) (E:XK) (Wx:XW) (t:TA):TS:=fun _ σ H=>t σ H fun vs H1=>∃ v,vs=[v]∧∀ x,H1 x=none→sp [.ref x,v] (upd H1 x (ExcF x C none)) (fun v H2=>v= .non∧∃ dx,H2 x=some (ExcF x C dx)∧Wx σ (.ref C) dx (del H2 x)) E
noncomputable def pU (C:Addr) (sp:Sp) (E:XK) (Wx:XW) (σ:St) (vs:List V) (H:Hp):Prop:=∃ v,vs=[v]∧∀ x,H x=none→sp [.ref x,v] (upd H x (ExcF x C none)) (fun v H2=>v= .non∧∃ dx,H2 x=some (ExcF x C dx)∧Wx σ (.ref C) dx (del H2 x)) E
theorem vU {C:Addr} {sp:Sp} {E:XK} {Wx:XW} {t:TA} {D:Ends} (h:t σ H (pU C sp E Wx σ)):F2 C sp E Wx t D σ H:=h
theorem vd {C:Addr} {sp:Sp} {E:XK} {Wx:XW} {v:V} (h:∀ x H2,H x=none→Same H H2→H2 x=some (ExcF x C none)→sp [.ref x,v] H2 (fun v H2=>v= .non∧∃ dx,H2 x=some (ExcF x C dx)∧Wx σ (.ref C) dx (del H2 x)) E):pU C sp E Wx σ [v] H:=
 ⟨v,rfl,fun x f=>h x _ f (fun b o e=>by rw [ar (ah e f)];exact e) av⟩
theorem qd {C W f:Addr} {CX:CXT} {k:Nat} {fd:FuncData} {ps:List Str} {sp:Sp} {E:XK} {Wx:XW} {x:Str} {np cpos pos:Pos} {e:Expr} {es:List Expr} {t:TA} (M:XOwn X.K C W f) (F:FnOk X.prog X.w X.K X.mg X.base CX k f fd ps sp) (hr:Room (k + 1) X.A) (hg:Gl X x) (hm:X.mg x=some (.ref C))
  (hb:bM X.K fd ps []) (hx:oA CX X E) (ht:Thr X Wx) (hc:X.calm=true) (ha:PA X (e::es) t)
  (hdb:(x == ("__debug__":Str))=false:=by decide) (he:starEach (e::es) X.env=(false,eval e X.env)::starEach es X.env:=by rfl) (hpl:(backTo cpos (starEach es X.env)).any (·.1)=false:=by rfl):
  PS X (.Raise (some (.Call (.Name x np) (e::es) [] cpos)) none pos) (F2 C sp E Wx t):=by
 intro pins s σ H D I h
 obtain ⟨nm,qn,N,bs,sn,sub,ab,col,dd,k0,k1,k2,k3,k5,lk⟩:=M.lk
 refine BP (C:=C) (nm:=nm) (q:=qn) (N:=N) (bs:=bs) (bm:= .ref W::xBM) (hdct:=true) (sn:=sn) (sub:=sub) (ab:=ab) (col:=col) (dd:=dd) (k0:=k0) (k1:=k1) (k2:=k2) (k3:=k3) (k5:=k5) (newId:="ValueError.__new__") (by simp) (I.ok.hd hc) ?_
 refine wpAny_Call_Name_kw (gO I hg hm ?_ hdb)
 refine PySem.W.callWith_K (h₀:=X.base) I.ok.mod.kin M.kp (thn (ha cpos pins s σ H _ I h) fun us s1 ⟨vs,H1,I1,r,v,ev,q⟩=>⟨I1.kIn,?_⟩) he hpl
 subst ev
 have hC:=I1.kIn _ _ lk
 have T:OwnTail s1.heap xBM (.ref W::xBM):=PySem.W.tail_of_in I1.kIn (F1 M.up)
 have KI:=I1.kIn
 obtain ⟨hh,g,d,tk,os⟩:=s1
 refine Ik PySem.F.excBase_ValueError T KI hC M.init (beq_iff_eq.mp M.fn) (fun h' e m=>?_) (by show us.length≤_;rw [← r.length];exact Cc)
 obtain ⟨tt,q1,q2,q3⟩:=m.there
 obtain ⟨I2,f2⟩:=G9 I1 m
 have I3:=I2.track f2.fe (Bc q1)
 have hq:=q e f2.fe.1
 have r2:Vals [V.ref e,v] (Value.ref e::us):= .cons rfl r
 have hl:(Value.ref e::us++[]).length=ps.length:=by
  have z:=r2.length
  rw [F.len _ _ _ _ hq] at z
  rw [List.append_nil]
  exact z.symm
 have bd:=hb _ (Value.ref e::us) I3.kIn hl
 rw [List.append_nil] at bd
 refine wpAny_call (codeAny_mono (F.run _ X.stack _ _ ⟨Value.ref e::us,[]⟩ (Value.ref e::us) _ _ E (hr.make C us []) (I3.env0.make C us []) bd r2 hq) fun r s' hq'=>?_)
 cases r with
 | error e=>exact hx pins σ _ _ e s' I3 hq'
 | ok fl=>
   cases fl with
   | ret u=>
     obtain ⟨v,H',I4,rv,ev,dx,hp,wq⟩:=I3.after hq'
     subst ev
     obtain ⟨⟨t4,e4⟩,_⟩:=I4.hok e _ hp
     obtain ⟨f0,f1,f2',f3,f4,f5⟩:=f2.fe
     exact ⟨rv,e,t4,dx,rfl,I4.kIn _ _ lk,e4,ht _ _ ⟨pins,e,.ref C,dx,none,σ,del H' e,rfl,I4.untrack hp,⟨⟨_,_,e4,rfl,rfl,rfl,by simp,by simp⟩,⟨Cq,f1,f2',f3,f4,f5⟩,fun t fl z=>by cases z⟩,wq⟩⟩
   | next=>exact False.elim hq'
   | brk=>exact False.elim hq'
   | cont=>exact False.elim hq'
end
noncomputable def ExcC (H:Hp) (p C:Addr) (fs:List (Str×V)):Prop:=∃ d,H p=some (ExcO p (.ref C) (some d))∧H d=some (.xd fs)
section
variable {X:Cx} {pins:List (Addr×Obj)} {σ:St} {H:Hp} {s:Shared} {p C:Addr} {fs:List (Str×V)}
theorem ExcC.inst (I:Inv X pins σ H s) (e:ExcC H p C fs):∃ (ox o:Obj) (mA:Str→Option Value),PySem.W.InstAt s.heap p ox C (some o)∧(∀ n,PySem.W.lookIn n o=some (mA n))∧∀ n,RelO (fs.lookup n) (mA n):=by
 obtain ⟨d,a,b⟩:=e
 obtain ⟨⟨oe,vs,e0,e1,e2,e3⟩,_⟩:=I.hok p _ a
 obtain ⟨mA,ns,r⟩:=I.hok d _ b
 obtain ⟨od,ho,hl⟩:=rj ns
 exact ⟨oe,od,mA,⟨e0,e1,by unfold PySem.W.notCls;rw [e3],by rw [e2];exact ho⟩,hl,r⟩
noncomputable def Nn (K:PySem.W.Frag) (ta:TE) (f:Str):TE:=fun σ H Q=>ta σ H fun x H1=>∃ p C fs v,x= .ref p∧ExcC H1 p C fs∧XIsi K C∧PySem.W.hasDictIn K C=true∧aq K C f∧fs.lookup f=some v∧Q v H1
noncomputable def Ls (K:PySem.W.Frag) (f:Str) (Q:VK) (x:V) (H:Hp):Prop:=∃ p C fs v,x= .ref p∧ExcC H p C fs∧XIsi K C∧PySem.W.hasDictIn K C=true∧aq K C f∧fs.lookup f=some v∧Q v H
theorem Gz {K:PySem.W.Frag} {f:Str} {te:TE} {Q:VK} (h:te σ H (Ls K f Q)):Nn K te f σ H Q:=h
theorem vV {K:PySem.W.Frag} {f:Str} {v:V} {Q:VK} (e:ExcC H p C fs) (c:XIsi K C) (d:PySem.W.hasDictIn K C=true) (n:aq K C f) (l:fs.lookup f=some v) (h:Q v H):Ls K f Q (.ref p) H:=⟨p,C,fs,v,rfl,e,c,d,n,l,h⟩
theorem Am {K:PySem.W.Frag} {e:Expr} {ta:TE} {f:Str} {pos:Pos} (h:X.K=K) (he:PE X e ta) (hb:attributeBase e f X.env (eval e X.env)=eval e X.env):PE X (.Attribute e f pos) (Nn K ta f):=by
 subst h
 intro pins s σ H Q I h
 refine Iu hb (thn (he pins s σ H _ I h) fun u s1 ⟨x,H1,I1,rx,p,C,fs,v,ex,ea,c,d,n,l,q⟩=>?_)
 subst ex
 obtain rfl:u=Value.ref p:=rx
 obtain ⟨ox,o,mA,J,hl,r⟩:=ea.inst I1
 obtain ⟨u',hu,ru⟩:=RelO.some_of (v:=v) (o:=mA f) (by rw [← l];exact r f)
 exact MI I1.kIn c J (PySem.W.findObj_own (attr:=none) d n rfl (by rw [hl,hu])) (yZ ru) ⟨v,H1,I1.tok _,ru,q⟩
end
inductive PH (X:Cx) (Wo:XW):List ExceptHandler→(Ends→XW)→Prop where
 | nil:PH X Wo [] (fun _=>Wo)
 | cons {G:Addr} {g n:Str} {i:Nat} {gp hp:Pos} {b₀:Stmt} {suite:List Stmt} {ts:TS} {hs:List ExceptHandler} {WR:Ends→XW} (cg:nZ X.K G) (hg:Gl X g) (hm:X.mg g=some (.ref G)) (hi:X.N[i]? =some n) (hk:X.env.scope.names.lookup n=some .local)
   (hs':∀ pins e,PSs (X.mark pins e) (b₀::suite) ts) (hdb:(g == ("__debug__":Str))=false) (r:PH X Wo hs WR):PH X Wo (.ExceptHandler (some (.Name g gp)) (some n) (b₀::suite) hp::hs) (fun D=>WTry X.K G i (WR D) ts D)
section
variable {X:Cx} {Wo:XW} {b₀:Stmt} {body:List Stmt} {tb:XW→TS}
theorem MH {hs:List ExceptHandler} {WH:Ends→XW} (ph:PH X Wo hs WH) (ow:Own X) (hx:Thr X Wo) (hN:X.N.Nodup):∀ {pins:List (Addr×Obj)} {s:Shared} {σ1:St} {H1:Hp} {x c t:Addr} {dx:Option Addr} {D:Ends},Inv X pins σ1 H1 s→Fly X pins H1 x (.ref c) dx (some (t,.none)) s.heap→WH D σ1 (.ref c) dx H1→
  wpAny (model X.prog X.w) X.A (handleBy (.ref x) X.env hs) (SP X pins D) X.xe s:=by
 induction ph with
 | nil=>
   intro pins s σ1 H1 x c t dx D J3 g3 w
   obtain ⟨⟨oe,vs,he,hc,hdx,hd,hsz,hT⟩,fe,ft⟩:=id g3
   refine wpAny_handleBy_nil ?_
   unfold PySem.passOn
   refine wpAny_bind (wpAny_field he hd hT.1 ?_)
   rw [if_neg (by simp)]
   refine wpAny_bind (Cl J3 g3 fun h4 J4 g4=>?_)
   exact wpAny_throw (hx _ _ ⟨pins,x,.ref c,dx,_,σ1,H1,rfl,J4,g4,w⟩)
 | cons cg hg hm hi hk hs' hdb r ih=>
   intro pins s σ1 H1 x c t dx D J3 g3 w
   have ok:=J3.ok
   obtain ⟨⟨oe,vs,he,hc,hdx,hd,hsz,hT⟩,fe,ft⟩:=id g3
   obtain ⟨c',ec,w⟩:=w
   cases ec
   refine wpAny_handleBy_cons (codeAny_handlers_test (gO (X:=X.mark pins (.ref x)) J3.toMark hg hm ?_ hdb)) (by intro q;cases q)
   rcases w with ⟨hmr,w⟩ | ⟨hmr,w⟩
   ·refine vo J3.kIn cg he hc hmr (codeAny_handlers_suite_as ?_)
    refine Cl (fr:=none) J3 g3 fun h4 J4 g4=>?_
    have J5:=J4.track g4.fe (ML (P:=X.prog) (w:=X.w) (H:=upd H1 x (ExcO x (.ref c) dx)) g4.at_)
    refine vL J5 hN hi (.inl hk) (v:= .ref x) rfl (fun s6 J6=>?_) (.inr hk)
    refine wpAny_mono (hs' pins (.ref x) [] s6 _ _ _ J6.toMark (w x g4.fe.1)) (fun fl s7 q=>?_) fun _ _ z=>False.elim z
    cases fl with
    | next=>obtain ⟨σ',H',I',z⟩:=q;exact xg (I'.ofMark ok) hN hi hk fun s8 I8=>⟨_,H',I8,z⟩
    | brk=>obtain ⟨σ',H',I',z⟩:=q;exact xg (I'.ofMark ok) hN hi hk fun s8 I8=>⟨_,H',I8,z⟩
    | cont=>obtain ⟨σ',H',I',z⟩:=q;exact xg (I'.ofMark ok) hN hi hk fun s8 I8=>⟨_,H',I8,z⟩
    | ret u=>obtain ⟨v,σ',H',I',r,z⟩:=q;exact xg (I'.ofMark ok) hN hi hk fun s8 I8=>⟨v,_,H',I8,r,z⟩
   ·refine vo J3.kIn cg he hc hmr ?_
    exact ih J3 g3 w
noncomputable def Nh (WH:Ends→XW) (tb:XW→TS):TS:=fun D σ H=>tb (WH D) D σ H
theorem Gu {WH:Ends→XW} {D:Ends} {σ:St} {H:Hp} (h:tb (WH D) D σ H):Nh WH tb D σ H:=h
theorem Md {h₀:ExceptHandler} {hs:List ExceptHandler} {WH:Ends→XW} {pos:Pos} (ow:Own X) (hx:Thr X Wo) (hN:X.N.Nodup) (ph:PH X Wo (h₀::hs) WH) (hc:∀ D σ C dx H,WH D σ C dx H→∃ c,C= .ref c)
  (hb:∀ pins W,PSs ((X.pin pins).thr W) body (tb W)):PS X (.Try body (h₀::hs) [] [] pos) (Nh WH tb):=by
 intro pins s σ H D I h
 have ok:=I.ok
 refine wpAny_Try_except (wpAny_mono (hb pins _ [] s σ H D (I.toPin.wish _) h) (fun fl s1 q=>?_) fun e s1 q=>?_)
 ·have q':=q.unwish
  cases fl with
  | next=>obtain ⟨σ',H',I',z⟩:=q';exact wpAny_pure ⟨σ',H',I'.ofPin ok,z⟩
  | brk=>obtain ⟨σ',H',I',z⟩:=q';exact ⟨σ',H',I'.ofPin ok,z⟩
  | cont=>obtain ⟨σ',H',I',z⟩:=q';exact ⟨σ',H',I'.ofPin ok,z⟩
  | ret u=>obtain ⟨v,σ',H',I',r,z⟩:=q';exact ⟨v,σ',H',I'.ofPin ok,r,z⟩
 ·obtain ⟨pins',x,C,dx,T,σ1,H1,rfl,I1,f1,w⟩:=q
  obtain ⟨c,rfl⟩:=hc _ _ _ _ _ w
  have J1:=I1.ofPin ok
  have g1:=f1.ofPin
  refine GZ J1 ow g1 fun h2 t J2 g2=>?_
  refine Cl (fr:=none) J2 g2 fun h3 J3 g3=>?_
  exact MH ph ow hx hN J3 g3 w
end
noncomputable def Oc (K:PySem.W.Frag):List V→Hp→VK→Prop:=fun xs H Q=>∃ p C u b dx,xs=[.ref p,u]∧RelV u (dV u)∧H p=some (ExcO p (.ref C) dx)∧(dx=none∨∃ d fs,dx=some d∧H d=some (.xd fs))∧XIsi K C∧PySem.W.kitOne K (.ref C) (dV u)=some b∧Q (.bl b) H
theorem NO {K:PySem.W.Frag} {p C:Addr} {u:V} {b:Bool} {H:Hp} {Q:VK} (e:H p=some (ExcO p (.ref C) none)) (c:XIsi K C) (r:RelV u (dV u)) (k:PySem.W.kitOne K (.ref C) (dV u)=some b) (h:Q (.bl b) H):Oc K [.ref p,u] H Q:=⟨p,C,u,b,none,rfl,r,e,.inl rfl,c,k,h⟩
theorem Ij {X:Cx} {K:PySem.W.Frag} (h:X.K=K):jH X (.builtin "isinstance") (Oc K):=by
 subst h
 intro pins s σ H xs us Q I r h
 obtain ⟨p,C,u',b,dx,rfl,rD,hp,hdx,c,hk,q⟩:=h
 obtain ⟨u,v,rfl,rx,rt⟩:=Jn r
 cases rx
 obtain ⟨⟨oe,vs,q1,q2,q3,q4⟩,_⟩:=I.hok p _ hp
 have e:=O5 rt rD
 subst e
 have J:∃ od,PySem.W.InstAt s.heap p oe C od:=by
  rcases hdx with rfl | ⟨d,fs,rfl,hd⟩
  ·exact ⟨none,q1,q2,by unfold PySem.W.notCls;rw [q4],by rw [q3];trivial⟩
  ·obtain ⟨mA,ns,r⟩:=I.hok d _ hd
   obtain ⟨od,ho,hl⟩:=rj ns
   exact ⟨some od,q1,q2,by unfold PySem.W.notCls;rw [q4],by rw [q3];exact ho⟩
 obtain ⟨od,J⟩:=J
 exact PySem.W.kia_one (Py (od:=none) c) I.kIn ⟨oe,od,vs,J,q4⟩ hk (fun z=>nomatch z) fun tk=>⟨.bl b,H,I.tok tk,rfl,q⟩
structure Na (osc:Scope) (ON N:List Str) (n:Nat) (fx:List Nat) (x0:Str) (sc:Scope):Prop where
 kind:sc.kind= .function
 one:∃ pre post,sc.names=pre++(x0,.cell)::post∧(∀ y∈pre,y.2≠.cell)∧∀ y∈post,y.2≠.cell
 its:sc.names.lookup x0=some .cell
 own:∀ y∈sc.names,y.2= .local→sc.names.lookup y.1=some .local
 fre:∀ y∈sc.names,y.2= .free→osc.names.lookup y.1=some .cell∨osc.names.lookup y.1=some .free
 len:N.length=n + fx.length
 frn:∀ k,k < fx.length→∃ x j,N[n + k]? =some x∧fx[k]? =some j∧ON[j]? =some x∧sc.names.lookup x=some .free
noncomputable def iSeq (K:PySem.W.Frag) (tl:TE):TI:=fun σ H R=>tl σ H fun x H1=>∃ a,x= .ref a∧(((∃ xs,SqL K H1 a xs)∧R (Itl K a) H1)∨((∃ xs,SqT K H1 a xs)∧R (Itt K a) H1))
theorem mT {X:Cx} {K:PySem.W.Frag} {tg l:Expr} {tl:TE} (h:X.K=K) (hl:PE X l tl):PI X tg l (iSeq K tl):=by
 subst h
 intro pins s σ H R I h
 refine thn (hl pins s σ H _ I h) fun v s1 ⟨x,H1,I1,r1,q1⟩=>?_
 obtain ⟨a,e,q1⟩:=q1
 subst e
 rcases q1 with ⟨hq,q⟩ | ⟨hq,q⟩
 ·cases r1
  obtain ⟨xs,hq⟩:=hq
  obtain ⟨its,rv,p,hz⟩:=I1.list hq
  refine wpAny_pyIter_list p.isList ?_
  refine ⟨s1.heap.objs.size,[s1.heap.objs.size],_,_,H1,rfl,I1.kept (t':=s1.toks) fun b o e=>Heap.get?_push_of_some _ e,x8 a _,⟨_,Heap.get?_push_size _ rfl,rfl,rfl⟩,fun b hb=>?_,q⟩
  have e:b=s1.heap.objs.size:=by simpa using hb
  subst e
  exact I1.fpOk (Nat.le_refl _) (I1.hok.fresh (Nat.le_refl _))
 ·cases r1
  obtain ⟨xs,hq⟩:=hq
  obtain ⟨its,rv,p,hz⟩:=I1.tuple hq
  refine wpAny_pyIter_tuple (show s1.heap.IsTuple a its.toArray from p) ?_
  refine ⟨s1.heap.objs.size,[s1.heap.objs.size],_,_,H1,rfl,I1.kept (t':=s1.toks) fun b o e=>Heap.get?_push_of_some _ e,va a _,⟨_,Heap.get?_push_size _ rfl,rfl,rfl⟩,fun b hb=>?_,q⟩
  have e:b=s1.heap.objs.size:=by simpa using hb
  subst e
  exact I1.fpOk (Nat.le_refl _) (I1.hok.fresh (Nat.le_refl _))
theorem BX {K:PySem.W.Frag} {te:TE} {σ:St} {H:Hp} {R:It→Hp→Prop} (h:te σ H fun x H1=>∃ a,x= .ref a∧(((∃ xs,SqL K H1 a xs)∧R (Itl K a) H1)∨((∃ xs,SqT K H1 a xs)∧R (Itt K a) H1))):iSeq K te σ H R:=h
noncomputable def eSD (d:Dt) (u:Value):Bool:=match u with
 | .str z _=>eqD (.str z) d
 | _=>false
noncomputable def rInS (K:PySem.W.Frag) (neg:Bool):R2:=fun x y H Q=>∃ (p:Addr) (zs:List Str) (d:Dt),y= .ref p∧SqL K H p (zs.map V.str)∧Rep K H x d∧Q (.bl (if neg then !zs.any fun z=>eqD (.str z) d else zs.any fun z=>eqD (.str z) d)) H
theorem BD (d:Dt):∀ {zs:List Str} {its:List Value},Vals (zs.map V.str) its→its.any (eSD d)=zs.any fun z=>eqD (.str z) d
 | [],_,r=>by cases r;rfl
 | z::zs,_,r=>by
   cases r with
   | cons r t=>
     obtain ⟨t',rfl⟩:=r
     rw [List.any_cons,List.any_cons,BD d t];rfl
theorem AO:∀ {zs:List Str} {its:List Value},Vals (zs.map V.str) its→∀ u∈its,∃ z t,u= .str z t
 | [],_,r=>by cases r;intro u hu;cases hu
 | z::zs,_,r=>by
   cases r with
   | cons r t=>
     obtain ⟨t',rfl⟩:=r
     intro u hu
     rcases List.mem_cons.mp hu with rfl | hu
     ·exact ⟨_,_,rfl⟩
     ·exact AO t u hu
section
variable {X:Cx} {K:PySem.W.Frag}
theorem Ml (h:X.K=K) (hu:X.A.units + 100 < cLine):OpR X (compareOp .In) (rInS K false):=by
 subst h
 intro pins s σ H x y v u Q I rx ry h
 obtain ⟨p,zs,d,rfl,hq,rd,q⟩:=h
 cases ry
 obtain ⟨its,r,pl,hz⟩:=I.list hq
 refine SeqAt.in_listAt (eSD d) pl.isList (fun w hw=>?_) ⟨.bl _,H,I,rfl,?_⟩
 ·obtain ⟨z,t,rfl⟩:=AO r w (by simpa using hw)
  exact (rc_D I (.str z) 0 rd ⟨t,rfl⟩ rx (Nat.le_refl _) (show X.A.units + 1 + 0 < cLine by omega)).1
 ·rw [show its.toArray.any (eSD d)=its.any (eSD d) by simp,BD d r]
  exact q
theorem DM (h:X.K=K) (hu:X.A.units + 100 < cLine):OpR X (compareOp .NotIn) (rInS K true):=by
 subst h
 intro pins s σ H x y v u Q I rx ry h
 obtain ⟨p,zs,d,rfl,hq,rd,q⟩:=h
 cases ry
 obtain ⟨its,r,pl,hz⟩:=I.list hq
 refine SeqAt.notIn_listAt (eSD d) pl.isList (fun w hw=>?_) ⟨.bl _,H,I,rfl,?_⟩
 ·obtain ⟨z,t,rfl⟩:=AO r w (by simpa using hw)
  exact (rc_D I (.str z) 0 rd ⟨t,rfl⟩ rx (Nat.le_refl _) (show X.A.units + 1 + 0 < cLine by omega)).1
 ·rw [show its.toArray.any (eSD d)=its.any (eSD d) by simp,BD d r]
  exact q
end
theorem NQ {K:PySem.W.Frag} {H:Hp} {Q:VK} {p:Addr} {zs:List Str} {x:V} {d:Dt} (e:H p=some (.lst (zs.map V.str))) (r:Rep K H x d) (q:Q (.bl (zs.any fun z=>eqD (.str z) d)) H):rInS K false x (.ref p) H Q:=⟨p,zs,d,rfl,SqL.of e,r,q⟩
theorem Gw {K:PySem.W.Frag} {H:Hp} {Q:VK} {p:Addr} {zs:List Str} {x:V} {d:Dt} (e:H p=some (.lst (zs.map V.str))) (r:Rep K H x d) (q:Q (.bl (!zs.any fun z=>eqD (.str z) d)) H):rInS K true x (.ref p) H Q:=⟨p,zs,d,rfl,SqL.of e,r,q⟩
section
variable {prog:Program} {w:World} {A:Around} {E:Value→Shared→Prop} {s:Shared}
theorem zj {it t:Addr} {items:Array Value} (hne:t≠it):∀ (n i:Nat) (s:Shared) (Q:List Value→Shared→Prop),s.heap.IsListIter it t i→s.heap.IsList t items→i + n≤items.size→
  (∀ h',h'.IsListIter it t (i + n)→Heap.SameBut it s.heap h'→Q ((items.toList.drop i).take n) {s with heap:=h'})→wpAny (model prog w) A (draw (.ref it) n) Q E s
 | 0,i,s,Q,hit,_,_,hQ=>by
   show wpAny _ _ (pure []) Q E s
   exact wpAny_pure (by simpa using hQ s.heap hit (Heap.SameBut.refl ..))
 | n + 1,i,s,Q,hit,ht,hle,hQ=>by
   have hlt:i < items.size:=by omega
   show wpAny _ _ (pyNext (.ref it) >>=_) Q E s
   refine wpAny_bind (wpAny_pyNext_list_item hit ht (x:=items[i]) (by simp [hlt]) fun h₁ hit₁ hs₁=>?_)
   refine wpAny_bind (wpAny_holding (zj hne n (i + 1) _ _ hit₁ (ht.extBut hs₁.extBut hne) (by omega) fun h₂ hit₂ hs₂=>wpAny_pure ?_))
   have hd:items.toList.drop i=items[i]::items.toList.drop (i + 1):=by simp [List.drop_eq_getElem_cons,hlt]
   have:=hQ h₂ (by rw [show i + (n + 1)=i + 1 + n by omega];exact hit₂) (hs₁.trans hs₂)
   rw [hd,List.take_succ_cons] at this
   exact this
theorem oB {t:Addr} {items:Array Value} {Q:List Value→Shared→Prop} (hh:A.handled=none) (ht:s.heap.IsList t items)
  (hQ:∀ h',Heap.ExtBut s.heap.objs.size s.heap h'→Q items.toList {s with heap:=h'}):wpAny (model prog w) A (unpackItems (.ref t) items.size none) Q E s:=by
 have hlt:t≠s.heap.objs.size:=by obtain ⟨o,ho,_⟩:=ht;exact Nat.ne_of_lt (Heap.lt_size ho)
 unfold unpackItems
 refine wpAny_bind ?_
 ·unfold notIterableAtAll
  refine wpAny_bind (wpAny_specialOf ht.typeIs slot_list_iter.lookup ?_)
  refine wpAny_pure ?_
  simp only [Bool.false_eq_true,if_false]
  refine wpAny_bind (wpAny_holding (wpAny_pyIter_list ht ?_))
  refine wpAny_bind (wpAny_holding (zj hlt items.size 0 _ _ ⟨_,Heap.get?_push_size _ rfl,rfl,rfl⟩ (ht.push _) (by omega) fun h₁ hit₁ hs₁=>?_))
  have hall:List.take items.size (List.drop 0 items.toList)=items.toList:=by
   rw [List.drop_zero];exact List.take_of_length_le (by simp)
  rw [hall]
  rw [if_neg (by simp)]
  have ht₁:h₁.IsList t items:=(ht.push _).extBut hs₁.extBut hlt
  refine wpAny_bind (wpAny_holding (wpAny_pyNext_list_end hh hit₁ ht₁ (by simp) fun h₂ he₂=>?_))
  simp only [Option.isSome_none,Bool.false_eq_true,if_false]
  refine wpAny_pure (hQ h₂ fun b o hb e=>he₂ b o hb (hs₁.extBut b o hb (Heap.get?_push_of_some _ e)))
theorem nU {env:Env} {elts:List Expr} {x1} {pos:Pos} {t:Addr} {items:Array Value} {Q:Unit→Shared→Prop} (hh:A.handled=none) (ht:s.heap.IsList t items)
  (hn:(assignEach elts env).length=items.size) (hstar:(assignEach elts env).findIdx? (·.1)=none)
  (h:∀ h',Heap.ExtBut s.heap.objs.size s.heap h'→wpAny (model prog w) A (assignInOrder ((assignEach elts env).map (·.2)) items.toList) Q E {s with heap:=h'}):
  wpAny (model prog w) A (assign (.Tuple elts x1 pos) env (.ref t)) Q E s:=by
 rw [assign_Tuple]
 refine wpAny_bind (wpAny_standAt ?_)
 unfold unpack
 rw [hn,hstar]
 exact wpAny_bind (wpAny_holding (oB hh ht h))
end
noncomputable def gLst (K:PySem.W.Frag) (n:Nat) (t:TGs):TG:=fun v σ H Q=>∃ a xs,v= .ref a∧SqL K H a xs∧xs.length=n∧t xs σ H Q
theorem NV {K:PySem.W.Frag} {n:Nat} {gs:TGs} {p:Addr} {xs:List V} {σ:St} {H:Hp} {Q:St→Hp→Prop} (e:SqL K H p xs) (l:xs.length=n) (h:gs xs σ H Q):gLst K n gs (.ref p) σ H Q:=⟨p,xs,rfl,e,l,h⟩
theorem Om {X:Cx} {K:PySem.W.Frag} {es:List Expr} {k:Nat} {t:TGs} {n:Nat} {pos:Pos} (hK:X.K=K) (hc:X.calm=true) (h:PGs X es t)
  (hn:(assignEach es X.env).length=n:=by rfl) (hst:(assignEach es X.env).findIdx? (·.1)=none:=by rfl):PG X (.Tuple es k pos) (gLst K n t):=by
 subst hK
 intro pins s σ H v u Q I r hw
 obtain ⟨a,xs,e1,hq,hl,hw⟩:=hw
 subst e1
 cases r
 obtain ⟨its,rv,ht,hz⟩:=I.list hq
 refine nU (I.ok.hd hc) ht.isList (by simp [hn,← hl,rv.length]) hst fun h' hx=>?_
 have I1:Inv X pins σ H {s with heap:=h'}:=I.kept (t':=s.toks) fun b o e=>hx b o (Nat.ne_of_lt (Heap.lt_size e)) e
 exact h pins _ σ H xs _ Q I1 (by simpa using rv) hw
end L2
set_option autoImplicit false
namespace M
noncomputable def pb:Nat→Nat→Bool
 | 0,_=>false
 | w + 1,m=>(m.testBit w)^^(pb w m)
noncomputable def pl (w m:Nat):List Nat:=(List.range w).filter m.testBit
noncomputable def Span:List Nat→Nat→Prop
 | [],x=>x=0
 | r::rs,x=>Span rs x∨Span rs (x^^^r)
noncomputable def sm:List Nat→Nat→Nat
 | [],_=>0
 | r::rs,p=>(if p.testBit 0 then r else 0)^^^sm rs (p / 2)
noncomputable def Fre (rows:List Nat) (i:Nat):Prop:=i < rows.length∧¬ Span (rows.take i) (rows.getD i 0)
noncomputable def Frs (rows:List Nat) (q:Nat):Prop:=∀ i,q.testBit i=true→Fre rows i
structure Ech (es:List (Nat×Nat)) (rows:List Nat):Prop where
 nz:∀ e∈es,e.1≠0
 lt:∀ e∈es,e.2 < 2 ^ rows.length
 sm:∀ e∈es,sm rows e.2=e.1
 nd:(es.map fun e=>e.1.log2).Nodup
 all:∀ y,Span rows y→y≠0→∃ e∈es,e.1.log2=y.log2
 sub:∀ e∈es,Frs rows e.2
noncomputable def tt (p:Prop):Bool:=@decide p (Classical.propDecidable p)
noncomputable def fr (rows:List Nat):List Nat:=(List.range rows.length).filter fun i=> !tt (Span (rows.take i) (rows.getD i 0))
structure Nul (nms rows:List Nat):Prop where
 lt:∀ x∈nms,x < 2 ^ rows.length
 nz:∀ x∈nms,x≠0
 sm:∀ x∈nms,sm rows x=0
 pw:nms.Pairwise fun a b=>a.log2 < b.log2
 len:nms.length + (fr rows).length=rows.length
noncomputable def Inj (ws:List Nat):Prop:=∀ p,p < 2 ^ ws.length→sm ws p=0→p=0
structure Sums (ks rows:List Nat):Prop where
 nd:ks.Nodup
 all:∀ x,x∈ks↔Span rows x
end M
namespace Sx
open PySem L2
noncomputable abbrev nat (k:Nat):V:= .int (k:Int)
theorem qb {k:Nat} {A:Around} (r:Room k A):A.units + 100 < cLine:=by have:=r.un;omega
structure En where
 a:Addr
 m:Nat
 p:Nat
noncomputable def Qg (es:List En):List (Key×V):=es.map fun e=>(Sum.inl ((e.m.log2:Nat):Int),V.ref e.a)
theorem JK {kvs:List (Key×V)} {k:Key} {v:V} (h:valV kvs k=none):putK kvs k v=kvs++[(k,v)]:=by
 unfold putK
 rw [lD,h]
 rfl
structure StA (H:Hp) (C p d f n:Addr) (rows:List Nat):Prop where
 ho:∃ dx,H p=some (.ins C dx [("by_top",.ref d),("free_places",.ref f),("null_masks",.ref n)])
 he:∃ es:List En,H d=some (.dK (Qg es))∧(∀ e∈es,H e.a=some (.tup [nat e.m,nat e.p]))∧M.Ech (es.map fun e=>(e.m,e.p)) rows∧es.length=(M.fr rows).length
 hf:H f=some (.lst ((M.fr rows).map nat))
 hn:∃ nms,H n=some (.lst (nms.map nat))∧M.Nul nms rows
 ne:f≠n
theorem bi {α:Type} {f:α→V} {ws:List α} {i:Nat} {x:V} (h:(ws.map f)[i]? =some x):∃ k,ws[i]? =some k∧x=f k:=by
 rw [List.getElem?_map] at h
 cases e:ws[i]? with
 | none=>rw [e] at h;cases h
 | some k=>rw [e] at h;exact ⟨k,rfl,(Option.some.inj h).symm⟩
theorem take_succ {α:Type} {ws:List α} {i:Nat} {w:α} (h:ws[i]? =some w):ws.take (i + 1)=ws.take i++[w]:=by rw [List.take_succ,h];rfl
theorem OT {A:Around} {k:Nat} (hr:Room k A):A.units < cLine:=by have:=hr.un;omega
noncomputable def BU (K:PySem.W.Frag):Sp:=fun vs H Q _=>∃ (a:Addr) (ns:List Int),vs=[.ref a]∧SqL K H a (ns.map V.int)∧ns.length≤63∧∀ H',Q (.bl true) H'
structure Prs (H:Hp) (ws:List Nat) (D:Addr) (ps:List (Addr×Nat)):Prop where
 l:H D=some (.lst (ps.map fun q=>V.ref q.1))
 t:∀ q∈ps,H q.1=some (.tup [nat q.2,nat (M.sm ws q.2)])
 b:∀ q∈ps,q.2 < 2 ^ ws.length
end Sx
namespace M
noncomputable def xs (rows ps:List Nat):Nat:=ps.foldl (fun a k=>a^^^rows.getD k 0) 0
end M
namespace Sx
open PySem L2
end Sx
namespace M
noncomputable abbrev od (m:Nat):Bool:=pb 1000 m
structure Bar (rows:List Nat) (b m:Nat):Prop where
 ev:∀ y,Span rows y→od (m&&&y)=false
 bit:m.testBit b=true
 low:∀ k,k < b→m.testBit k=false
 oth:∀ k,k≠b→(∀ y,Span rows y→y≠0→y.log2≠k)→m.testBit k=false
 lt:∀ W,(∀ r∈rows,r < 2 ^ W)→b < W→m < 2 ^ W
structure BarI (es:List (Nat×Nat)) (ts:List Nat) (b m:Nat):Prop where
 ev:∀ e∈es,e.1.log2∈ts→od (m&&&e.1)=false
 bit:m.testBit b=true
 low:∀ k,k < b→m.testBit k=false
 oth:∀ k,k≠b→(∀ e∈es,e.1.log2≠k)→m.testBit k=false
 lt:∀ W,(∀ e∈es,e.1 < 2 ^ W)→b < W→m < 2 ^ W
end M
namespace Sx
open PySem L2
noncomputable def cell (ns:List Int) (k:Int):Int:=if k < ns.length then ns.getD k.toNat 0 else 41 * k + 3
noncomputable def BV (K:PySem.W.Frag):Sp:=fun vs H Q _=>∃ (p:Addr) (ns:List Int) (k:Int),vs=[.ref p,.int k]∧SqL K H p (ns.map V.int)∧0≤k∧Q (.int (cell ns k)) H
theorem xD {K:PySem.W.Frag} {H:Hp} {Q:VK} {E:XK} {p:Addr} {ns:List Int} {k:Int} (e:SqL K H p (ns.map V.int)) (h0:0≤k) (q:Q (.int (cell ns k)) H):BV K [.ref p,.int k] H Q E:=⟨p,ns,k,rfl,e,h0,q⟩
noncomputable def Qo (rows:List Nat) (b:Nat):Prop:=∀ y,M.Span rows y→y≠0→y.log2≠b
structure Acr (rows:List Nat) (wd:Nat) (ms:List Nat):Prop where
 len:ms.length + (M.fr rows).length=wd
 inj:M.Inj ms
 lt:∀ m∈ms,m < 2 ^ wd
 ev:∀ m∈ms,∀ y,M.Span rows y→M.od (m&&&y)=false
 all:∀ z,z < 2 ^ wd→(∀ y,M.Span rows y→M.od (z&&&y)=false)→M.Span ms z
end Sx
namespace M
noncomputable def cm (a b:Nat):Nat:=if b=0 then 0 else (if b % 2=1 then a else 0)^^^2 * cm a (b / 2)
termination_by b
decreasing_by omega
noncomputable def Dv (d x:Nat):Prop:=∃ q,cm q d=x
structure Rm (d x r:Nat):Prop where
 lt:r < 2 ^ d.log2
 dv:Dv d (x^^^r)
end M
namespace Sx
open PySem L2
noncomputable def dg (m:Nat):Int:=(Builtin.Int.intBits (m:Int):Int) - 1
end Sx
namespace M
structure Ord (d e:Nat):Prop where
 pos:1≤e
 one:Rm d (2 ^ e) 1
 least:∀ j,1≤j→j < e→¬ Rm d (2 ^ j) 1
 le:e≤2 ^ d.log2
end M
namespace Sx
open PySem L2
noncomputable def OG (x:V) (w:Int):Bool:=match x with
 | .int i=>decide (0≤i)&&decide (((Builtin.Int.intBits i:Nat):Int)≤w)
 | _=>false
theorem dc {c m:Int} (h:0 < m):∃ k:Nat,c % m=(k:Int)∧(k:Int) < m:=by
 obtain ⟨k,hk⟩:=Int.eq_ofNat_of_zero_le (Int.emod_nonneg c (Int.ne_of_gt h))
 exact ⟨k,hk,by rw [← hk];exact Int.emod_lt_of_pos c h⟩
end Sx
namespace M
noncomputable def bn (b:Bool):Nat:=if b then 1 else 0
noncomputable def pk (s:Nat→Bool) (t:Nat):Nat→Nat
 | 0=>0
 | L + 1=>pk s t L^^^(if s (t + L) then 2 ^ L else 0)
noncomputable def lf (G:Nat):Nat→(Nat→Bool)→Nat→Bool
 | 0,_,_=>false
 | L + 1,s,t=>lf G L s t^^(G.testBit L&&s (t + L))
noncomputable def tr (as:List Nat) (x:Nat):Nat:=pk (fun k=>od (as.getD k 0&&&x)) 0 as.length
noncomputable def stt (as:List Nat) (x:Nat):Nat→Nat
 | 0=>x
 | t + 1=>tr as (stt as x t)
noncomputable def ans (as:List Nat) (o x t:Nat):Bool:=od (o&&&stt as x t)
noncomputable def lm (L G:Nat):List Nat:=(List.range (L - 1)).map (fun p=>2 ^ (p + 1))++(if 0 < L then [G] else [])
end M
namespace Sx
open PySem L2
noncomputable abbrev Pr3:=Addr×Nat×Nat
noncomputable def refs (ps:List Pr3):List V:=ps.map fun q=>V.ref q.1
noncomputable def Prt (H:Hp) (ps:List Pr3):Prop:=∀ q∈ps,H q.1=some (.tup [nat q.2.1,nat q.2.2])
structure MaA (H:Hp) (C p:Addr) (m:Nat) (nx os:List Pr3):Prop where
 ho:∃ dx tn to,H p=some (.ins C dx [("inputs",nat m),("nexts",.ref tn),("outs",.ref to)])∧H tn=some (.tup (refs nx))∧H to=some (.tup (refs os))
 hn:Prt H nx
 hs:Prt H os
noncomputable def sq (bs:List Bool):Nat→Bool:=fun i=>bs.getD i false
structure Tab (H:Hp) (n o:Addr) (m:Nat) (nx os:List Pr3):Prop where
 m6:m≤6
 n:H n=some (.lst (refs nx))
 o:H o=some (.lst (refs os))
 pn:Prt H nx
 po:Prt H os
 ln:nx.length≤120
 lo:os.length≤6
 bn:∀ q∈nx++os,q.2.1 < 2 ^ nx.length∧q.2.2 < 2 ^ m
structure Lfsr (nx os:List Pr3) (L G:Nat):Prop where
 nx:nx.map (fun q=>q.2.1)=M.lm L G
 os:∃ t,os=[(t,(if 0 < L then 1 else 0),0)]
noncomputable abbrev ms (nx:List Pr3):List Nat:=nx.map fun q=>q.2.1
end Sx
namespace M
noncomputable def tr2 (ps:List (Nat×Nat)) (x r:Nat):Nat:=pk (fun k=>od ((ps.getD k (0,0)).1&&&x)^^od ((ps.getD k (0,0)).2&&&r)) 0 ps.length
noncomputable def wan (ps os:List (Nat×Nat)):Nat→List Nat→List Nat
 | _,[]=>[]
 | x,r::rs=>tr2 os x r::wan ps os (tr2 ps x r) rs
noncomputable def pulse (i T:Nat):List Nat:=(List.range T).map fun t=>if t=0 then 2 ^ i else 0
end M
namespace Sx
open PySem L2
structure MaG (m:Nat) (nx os:List Pr3):Prop where
 m6:m≤6
 ln:nx.length≤120
 lo:os.length≤6
 bn:∀ q∈nx++os,q.2.1 < 2 ^ nx.length∧q.2.2 < 2 ^ m
noncomputable abbrev prs (nx:List Pr3):List (Nat×Nat):=nx.map (·.2)
noncomputable def Po (K:PySem.W.Frag) (H:Hp) (xs:List V):Prop:=∀ x∈xs,∃ k,uy K H x k
theorem Ky (xs:List V) (y:Nat) (hy:y≤xs.length):cutV xs none (some (y:Int))=xs.take y:=by
 unfold cutV
 rw [HT.sIx_nat,HT.sIx_none,Nat.min_eq_left hy,Nat.sub_zero,List.drop_zero]
structure Qz (K:PySem.W.Frag) (H:Hp) (C p rr:Addr) (m:Nat) (nx os:List Pr3) (x:V) (xs:List V):Prop where
 ma:MaA H C p m nx os
 g:MaG m nx os
 kx:∃ k,uy K H x k
 sq:SqL K H rr xs
 ks:Po K H xs
 ln:xs.length≤1000
structure TabT (H:Hp) (t n o:Addr) (m:Nat) (nx os:List Pr3):Prop where
 t:H t=some (.tup [nat m,.ref n,.ref o])
 tab:Tab H n o m nx os
theorem KA (xs:List V) (k:Nat) (h:k≤xs.length):cutV xs (some (k:Int)) none=xs.drop k:=by
 unfold cutV
 rw [HT.sIx_nat,HT.sIx_none,Nat.min_eq_left h]
 exact List.take_of_length_le (by rw [List.length_drop];exact Nat.le_refl _)
end Sx
namespace M
noncomputable def bkI (A:List Nat) (s:Nat):Nat→Nat
 | 0=>s
 | i + 1=>sm A (bkI A s i)
end M
namespace Sx
open PySem L2
noncomputable abbrev nA (nx:List Pr3):List Nat:=nx.map fun q=>q.2.1
noncomputable abbrev nB (nx:List Pr3):List Nat:=nx.map fun q=>q.2.2
theorem qc {K:PySem.W.Frag} {H:Hp} {α:Type} (f:α→V) (g:α→Dt) (r:∀ x,Rep K H (f x) (g x)) (xs:List α):∀ (i:Nat) x d,(xs.map f)[i]? =some x→(xs.map g)[i]? =some d→Rep K H x d:=by
 intro i x d h1 h2
 rw [List.getElem?_map] at h1 h2
 cases e:xs[i]? with
 | none=>rw [e] at h1;cases h1
 | some y=>rw [e] at h1 h2;cases h1;cases h2;exact r y
theorem lE {H H':Hp} {x:Addr} {o:HO} (n:H x=none) (u:Upd H H' x o):Same H H':=fun b o h=>u.oth b o (fun z=>by rw [z,n] at h;cases h) h
theorem NE {K:PySem.W.Frag} {te:TE} {σ:St} {H:Hp} {Q:VK} (h:te σ H fun x H1=>∃ a xs,x= .ref a∧SqL K H1 a xs∧∀ l,H1 l=none→Q (.ref l) (upd H1 l (.lst xs.reverse))):tRev K te σ H Q:=h
noncomputable def low (c:Nat):Bool:=decide (97≤c)&&decide (c≤122)
noncomputable def fig (c:Nat):Bool:=decide (48≤c)&&decide (c≤57)
noncomputable def nm (l:List Nat):Bool:=match l with
 | []=>false
 | c::r=>decide ((c::r).length≤6)&&low c&&(c::r).all fun c=>low c||fig c
noncomputable def ui (x:V):Bool:=match x with
 | .str z=>nm z.cps.toList
 | _=>false
noncomputable def Nm (z:Str):Prop:=nm z.cps.toList=true
noncomputable def Gb (K:PySem.W.Frag):Sp:=fun vs H Q _=>∃ x k,vs=[x]∧uy K H x k∧(∀ z,x= .str z→z.length≤1000)∧∀ H',Same H H'→Q (.bl (ui x)) H'
theorem memL (c:Nat):decide (c∈("abcdefghijklmnopqrstuvwxyz":Str).cps.toList)=low c:=by
 have e:("abcdefghijklmnopqrstuvwxyz":Str).cps.toList=List.range' 97 26:=by decide +kernel
 rw [e]
 unfold low
 rw [Bool.eq_iff_iff,Bool.and_eq_true,decide_eq_true_eq,decide_eq_true_eq,decide_eq_true_eq,List.mem_range']
 constructor
 ·rintro ⟨i,h,rfl⟩;omega
 ·rintro ⟨h1,h2⟩;exact ⟨c - 97,by omega,by omega⟩
theorem memN (c:Nat):decide (c∈("abcdefghijklmnopqrstuvwxyz0123456789":Str).cps.toList)=(low c||fig c):=by
 have e:("abcdefghijklmnopqrstuvwxyz0123456789":Str).cps.toList=List.range' 97 26++List.range' 48 10:=by decide +kernel
 rw [e]
 unfold low fig
 rw [Bool.eq_iff_iff,Bool.or_eq_true,Bool.and_eq_true,Bool.and_eq_true,decide_eq_true_eq,decide_eq_true_eq,decide_eq_true_eq,decide_eq_true_eq,decide_eq_true_eq,List.mem_append,List.mem_range',List.mem_range']
 constructor
 ·rintro (⟨i,h,rfl⟩ | ⟨i,h,rfl⟩)
  ·left;omega
  ·right;omega
 ·rintro (⟨h1,h2⟩ | ⟨h1,h2⟩)
  ·exact .inl ⟨c - 97,by omega,by omega⟩
  ·exact .inr ⟨c - 48,by omega,by omega⟩
theorem wR (z:Str):z.cps.toList.length=z.length:=by simp [Str.length]
theorem F8 {z:Str}:z=""↔z.cps.toList=[]:=by
 constructor
 ·rintro rfl;decide +kernel
 ·intro h;cases z with | mk c=>cases c with | mk l=>have h:l=[]:=h;subst h;decide +kernel
theorem Nm.len {z:Str} (h:Nm z):z.length≤6:=by
 have h:nm z.cps.toList=true:=h
 have l:=wR z
 cases e:z.cps.toList with
 | nil=>rw [e] at l;rw [← l];decide
 | cons c r=>
   rw [e] at h l
   unfold nm at h
   rw [Bool.and_eq_true,Bool.and_eq_true] at h
   have:=of_decide_eq_true h.1.1
   omega
theorem c_nm {K:PySem.W.Frag} {H:Hp} {Q:VK} {E:XK} {z:Str} (h:Nm z) (q:∀ H',Same H H'→Q (.bl true) H'):Gb K [.str z] H Q E:=⟨_,"str",rfl,rfl,fun z' e=>by cases e;have:=h.len;omega,fun H' s=>by show Q (.bl (nm z.cps.toList)) H';rw [show nm z.cps.toList=true from h];exact q H' s⟩
noncomputable def Jx (K:PySem.W.Frag):Sp:=fun vs H Q _=>∃ x C dx nm,vs=[.ref x,nm]∧Cls K C∧aq K C "name"∧H x=some (.ins C dx [])∧∀ H2,Upd H H2 x (.ins C dx [("name",nm)])→Q .non H2
noncomputable def Jw (C:Addr):Sp:=fun vs H Q _=>∃ x dx nm k,vs=[.ref x,nm,k]∧H x=some (.ins C dx [])∧∀ H2,Upd H H2 x (.ins C dx [("name",nm),("number",k)])→Q .non H2
noncomputable def Jv (C:Addr):Sp:=fun vs H Q _=>∃ x dx nm w k,vs=[.ref x,nm,w,k]∧H x=some (.ins C dx [])∧∀ H2,Upd H H2 x (.ins C dx [("name",nm),("wire",w),("number",k)])→Q .non H2
structure Nt where
 ins:List Str
 sums:List (Str×List Str)
 sts:List (Str×Str)
 outs:List Str
noncomputable def Nt.names (N:Nt):List Str:=N.ins++N.sums.map (·.1)++N.sts.map (·.1)
structure Gn (N:Nt):Prop where
 li:N.ins.length≤6
 ls:N.sums.length≤40
 lt:N.sts.length≤16
 lo:N.outs.length≤6
 lw:∀ r∈N.sums,r.2.length≤24
 nm:∀ z∈N.names,Nm z
 nd:N.names.Nodup
 ws:∀ r∈N.sums,∀ z∈r.2,z∈N.names
 ts:∀ r∈N.sts,r.2∈N.names
 os:∀ z∈N.outs,z∈N.names
 rk:∃ rank:Str→Nat,∀ r∈N.sums,∀ z∈r.2,z∈N.sums.map (·.1)→rank z < rank r.1
structure Topo (sums:List (Str×List Str)) (od:List Str):Prop where
 perm:od.Perm (sums.map (·.1))
 need:∀ (i:Nat) z,od[i]? =some z→∀ ws,(z,ws)∈sums→∀ y∈ws,y∈sums.map (·.1)→y∈od.take i
noncomputable abbrev Rw:=Addr×Addr×Str×List Str
noncomputable abbrev Qs:=Addr×Str×Str
structure Hnd (H:Hp) (i s t o:Addr) (rs:List Rw) (qs:List Qs) (N:Nt):Prop where
 i:H i=some (.lst (N.ins.map V.str))
 s:H s=some (.lst (rs.map fun r=>V.ref r.1))
 sr:∀ r∈rs,H r.1=some (.tup [.str r.2.2.1,.ref r.2.1])∧H r.2.1=some (.lst (r.2.2.2.map V.str))
 es:rs.map (·.2.2)=N.sums
 t:H t=some (.lst (qs.map fun q=>V.ref q.1))
 tr:∀ q∈qs,H q.1=some (.tup [.str q.2.1,.str q.2.2])
 et:qs.map (·.2)=N.sts
 o:H o=some (.lst (N.outs.map V.str))
theorem Hnd.same {H H2:Hp} {i s t o:Addr} {rs:List Rw} {qs:List Qs} {N:Nt} (x:Hnd H i s t o rs qs N) (h:Same H H2):Hnd H2 i s t o rs qs N:=⟨h.get x.i,h.get x.s,fun r m=>⟨h.get (x.sr r m).1,h.get (x.sr r m).2⟩,x.es,h.get x.t,fun q m=>h.get (x.tr q m),x.et,h.get x.o⟩
structure Kpt (H:Hp) (i s t o:Addr) (rs:List Rw) (qs:List Qs) (N:Nt):Prop where
 i:H i=some (.tup (N.ins.map V.str))
 s:H s=some (.tup (rs.map fun r=>V.ref r.1))
 sr:∀ r∈rs,H r.1=some (.tup [.str r.2.2.1,.ref r.2.1])∧H r.2.1=some (.tup (r.2.2.2.map V.str))
 es:rs.map (·.2.2)=N.sums
 t:H t=some (.tup (qs.map fun q=>V.ref q.1))
 tr:∀ q∈qs,H q.1=some (.tup [.str q.2.1,.str q.2.2])
 et:qs.map (·.2)=N.sts
 o:H o=some (.tup (N.outs.map V.str))
theorem Kpt.same {H H2:Hp} {i s t o:Addr} {rs:List Rw} {qs:List Qs} {N:Nt} (x:Kpt H i s t o rs qs N) (h:Same H H2):Kpt H2 i s t o rs qs N:=⟨h.get x.i,h.get x.s,fun r m=>⟨h.get (x.sr r m).1,h.get (x.sr r m).2⟩,x.es,h.get x.t,fun q m=>h.get (x.tr q m),x.et,h.get x.o⟩
noncomputable def Gm:Sp:=fun vs H Q _=>∃ (l:Addr) (zs:List Str),vs=[.ref l]∧H l=some (.lst (zs.map V.str))∧zs.length≤1000∧zs.Nodup∧(∀ z∈zs,Nm z)∧∀ H2,Same H H2→Q .non H2
noncomputable def Knw (H:Hp) (d:Addr) (zs:List Str):Prop:=∃ kvs:List (Key×V),H d=some (.dK kvs)∧kvs.map (·.1)=zs.map Sum.inr
theorem Knw.same {H H2:Hp} {d:Addr} {zs:List Str} (x:Knw H d zs) (h:Same H H2):Knw H2 d zs:=let ⟨k,e,f⟩:=x;⟨k,h.get e,f⟩
noncomputable def Gk:Sp:=fun vs H Q _=>∃ (i s t o d:Addr) (rs:List Rw) (qs:List Qs) (N:Nt),vs=[.ref s,.ref t,.ref o,.ref d]∧Kpt H i s t o rs qs N∧Gn N∧Knw H d N.names∧∀ H2,Same H H2→Q .non H2
theorem pL {kvs:List (Key×V)} {zs:List Str} (e:kvs.map (·.1)=zs.map Sum.inr) (z:Str):(valV kvs (Sum.inr z)).isSome=decide (z∈zs):=by
 cases h:valV kvs (Sum.inr z) with
 | none=>
   have:=Jp h
   rw [e] at this
   rw [decide_eq_false fun m=>this (List.mem_map.mpr ⟨z,m,rfl⟩)];rfl
 | some v=>
   have:=LC h
   rw [e] at this
   obtain ⟨y,hy,ey⟩:=List.mem_map.mp this
   cases ey
   rw [decide_eq_true hy];rfl
theorem Mc {kvs:List (Key×V)} {zs:List Str} (e:kvs.map (·.1)=zs.map Sum.inr) {z:Str} (h:z∉zs) (v:V):putK kvs (Sum.inr z) v=kvs++[(Sum.inr z,v)]:=by
 refine JK ?_
 rw [← Option.not_isSome_iff_eq_none,pL e z,decide_eq_false h];exact Bool.false_ne_true
inductive Wob (H:Hp) (CI CS CT:Addr) (N:Nt) (z:Str) (w:Addr):Prop where
 | i (k:Nat) (dx:Addr) (hk:N.ins[k]? =some z) (e:H w=some (.ins CI dx [("name",.str z),("number",nat k)])):Wob H CI CS CT N z w
 | s (ws:List Str) (dx tw:Addr) (hk:(z,ws)∈N.sums) (e:H w=some (.ins CS dx [("name",.str z),("wires",.ref tw)])) (et:H tw=some (.tup (ws.map V.str))):Wob H CI CS CT N z w
 | t (k:Nat) (y:Str) (dx:Addr) (hk:N.sts[k]? =some (z,y)) (e:H w=some (.ins CT dx [("name",.str z),("wire",.str y),("number",nat k)])):Wob H CI CS CT N z w
theorem Wob.same {H H2:Hp} {CI CS CT:Addr} {N:Nt} {z:Str} {w:Addr} (x:Wob H CI CS CT N z w) (h:Same H H2):Wob H2 CI CS CT N z w:=by
 cases x with
 | i k dx hk e=>exact .i k dx hk (h.get e)
 | s ws dx tw hk e et=>exact .s ws dx tw hk (h.get e) (h.get et)
 | t k y dx hk e=>exact .t k y dx hk (h.get e)
theorem Wob.name {H:Hp} {CI CS CT:Addr} {N:Nt} {z:Str} {w:Addr} (x:Wob H CI CS CT N z w):∃ C dx fs,H w=some (.ins C dx (("name",.str z)::fs))∧(C=CI∨C=CS∨C=CT):=by
 cases x with
 | i k dx hk e=>exact ⟨_,_,_,e,.inl rfl⟩
 | s ws dx tw hk e et=>exact ⟨_,_,_,e,.inr (.inl rfl)⟩
 | t k y dx hk e=>exact ⟨_,_,_,e,.inr (.inr rfl)⟩
structure WiA (H:Hp) (CI CS CT d:Addr) (N:Nt) (ws:List (Str×Addr)):Prop where
 d:H d=some (.dK (ws.map fun q=>(Sum.inr q.1,V.ref q.2)))
 nm:ws.map (·.1)=N.names
 ob:∀ q∈ws,Wob H CI CS CT N q.1 q.2
theorem WiA.same {H H2:Hp} {CI CS CT d:Addr} {N:Nt} {ws:List (Str×Addr)} (x:WiA H CI CS CT d N ws) (h:Same H H2):WiA H2 CI CS CT d N ws:=⟨h.get x.d,x.nm,fun q m=>(x.ob q m).same h⟩
theorem WiA.knw {H:Hp} {CI CS CT d:Addr} {N:Nt} {ws:List (Str×Addr)} (x:WiA H CI CS CT d N ws):Knw H d N.names:=⟨_,x.d,by rw [List.map_map,← x.nm,List.map_map];rfl⟩
noncomputable def Dc (CI CS CT:Addr):Sp:=fun vs H Q _=>∃ (i s t o:Addr) (rs:List Rw) (qs:List Qs) (N:Nt),vs=[.ref i,.ref s,.ref t]∧Kpt H i s t o rs qs N∧Gn N∧∀ (d:Addr) (H2:Hp) (ws:List (Str×Addr)),H d=none→Same H H2→WiA H2 CI CS CT d N ws→Q (.ref d) H2
noncomputable def d2 (zs:List Str) (ws:List Str):Bool:=ws.any fun w=>decide (w∈zs)
noncomputable def Js:Sp:=fun vs H Q _=>∃ (r:Rw) (d:Addr) (zs:List Str),vs=[.ref r.1,.ref d]∧H r.1=some (.tup [.str r.2.2.1,.ref r.2.1])∧H r.2.1=some (.tup (r.2.2.2.map V.str))∧r.2.2.2.length≤24∧Knw H d zs∧∀ H2,Same H H2→Q (.bl (d2 zs r.2.2.2)) H2
noncomputable def Df:Sp:=fun vs H Q _=>∃ (s:Addr) (rs:List Rw) (N:Nt),vs=[.ref s]∧H s=some (.tup (rs.map fun r=>V.ref r.1))∧(∀ r∈rs,H r.1=some (.tup [.str r.2.2.1,.ref r.2.1])∧H r.2.1=some (.tup (r.2.2.2.map V.str)))∧rs.map (·.2.2)=N.sums∧Gn N∧∀ (D:Addr) (H2:Hp) (od:List Str),H D=none→Same H H2→H2 D=some (.lst (od.map V.str))→Topo N.sums od→Q (.ref D) H2
theorem vW {H:Hp} {Q:VK} {l b:Addr} {xs zs:List V} (e1:H l=some (.lst xs)) (e2:H b=some (.lst zs)) (hl:xs.length + zs.length≤sizeLine) (h:∀ H2,Upd H H2 l (.lst (xs++zs))→Q .non H2):GG (.ref l) [.ref b] H Q:=⟨l,b,xs,zs,rfl,rfl,e1,e2,hl,h _ Upd.of⟩
theorem Wob.keep {H H2:Hp} {CI CS CT:Addr} {N:Nt} {z:Str} {w D:Addr} {xs:List V} (x:Wob H CI CS CT N z w) (hD:H D=some (.lst xs)) (h:∀ b o,b≠D→H b=some o→H2 b=some o):Wob H2 CI CS CT N z w:=by
 cases x with
 | i k dx hk e=>exact .i k dx hk (h _ _ (fj e hD (fun z=>by cases z)) e)
 | s ws dx tw hk e et=>exact .s ws dx tw hk (h _ _ (fj e hD (fun z=>by cases z)) e) (h _ _ (fj et hD (fun z=>by cases z)) et)
 | t k y dx hk e=>exact .t k y dx hk (h _ _ (fj e hD (fun z=>by cases z)) e)
structure WL (H0 H:Hp) (CI CS CT:Addr) (N:Nt) (D:Addr) (ys:List V) (zs:List Str) (ws:List (Str×Addr)):Prop where
 ey:ys=ws.map fun q=>V.ref q.2
 nm:ws.map (·.1)=zs
 ob:∀ q∈ws,Wob H CI CS CT N q.1 q.2
 same:Same H0 H
 d:H D=some (.lst ys)
noncomputable def Gj (K:PySem.W.Frag) (C:Addr):Sp:=fun vs H Q _=>∃ x dx nm tw ws,vs=[.ref x,nm,.ref tw]∧H tw=some (.tup ws)∧H x=some (.ins C dx [])∧
 ∀ H2,Upd H H2 x (.ins C dx [("name",nm),("wires",.ref tw)])→Q .non H2
theorem WL.put {H0 H H4:Hp} {CI CS CT:Addr} {N:Nt} {D:Addr} {ys:List V} {zs:List Str} {ws:List (Str×Addr)} (c:WL H0 H CI CS CT N D ys zs ws) (hD:H0 D=none) (s:Same H H4) {z:Str} {x:Addr} (wb:Wob H4 CI CS CT N z x) (lz:zs.length≤900) {zs':List Str} (ez:zs'=zs++[z]):
  H4 D=some (.lst ys)∧ys.length < sizeLine∧∃ ws,WL H0 (upd H4 D (.lst (ys++[.ref x]))) CI CS CT N D (ys++[.ref x]) zs' ws:=by
 have eD:=s.get c.d
 have k:∀ b o,b≠D→H4 b=some o→upd H4 D (.lst (ys++[.ref x])) b=some o:=fun b o n e=>by rw [ar n];exact e
 have lw:ys.length=zs.length:=by rw [c.ey,← c.nm,List.length_map,List.length_map]
 refine ⟨eD,bg (by omega),ws++[(z,x)],by rw [List.map_append,c.ey];rfl,by rw [List.map_append,c.nm,ez];rfl,fun q hq=>?_,fun b o e=>?_,av⟩
 ·rcases List.mem_append.mp hq with h | h
  ·exact ((c.ob q h).same s).keep eD k
  ·rw [List.mem_singleton] at h;subst h;exact wb.keep eD k
 ·exact k _ _ (ah e hD) (s.get (c.same.get e))
theorem WL.join {H0 H H2 H3:Hp} {CI CS CT:Addr} {N:Nt} {D D2:Addr} {ys ys2:List V} {zs zs2:List Str} {ws ws2:List (Str×Addr)} (c:WL H0 H CI CS CT N D ys zs ws) (c2:WL H H2 CI CS CT N D2 ys2 zs2 ws2) (hD:H0 D=none) (u:Upd H2 H3 D (.lst (ys++ys2))):
  WL H0 H3 CI CS CT N D (ys++ys2) (zs++zs2) (ws++ws2):=by
 have eD:=c2.same.get c.d
 refine ⟨by rw [List.map_append,c.ey,c2.ey],by rw [List.map_append,c.nm,c2.nm],fun q hq=>?_,fun b o e=>u.oth _ _ (ah e hD) (c2.same.get (c.same.get e)),u.at'⟩
 rcases List.mem_append.mp hq with h | h
 ·exact ((c.ob q h).same c2.same).keep eD u.oth
 ·exact (c2.ob q h).keep eD u.oth
structure Otp (sums:List (Str×List Str)) (od:List Str) (lf:List (Str×List Str)):Prop where
 perm:(od++lf.map (·.1)).Perm (sums.map (·.1))
 sub:∀ r∈lf,r∈sums
 need:∀ (i:Nat) z,od[i]? =some z→∀ ws,(z,ws)∈sums→∀ y∈ws,y∈sums.map (·.1)→y∈od.take i
theorem Otp.start (sums:List (Str×List Str)):Otp sums [] sums:=⟨List.Perm.refl _,fun _ h=>h,fun i z h=>by simp at h⟩
theorem Otp.done {sums:List (Str×List Str)} {od:List Str} (o:Otp sums od []):Topo sums od:=⟨by have:=o.perm;rwa [List.map_nil,List.append_nil] at this,o.need⟩
theorem Mn {sums:List (Str×List Str)} (nd:(sums.map (·.1)).Nodup) {z:Str} {ws ws':List Str} (h:(z,ws)∈sums) (h':(z,ws')∈sums):ws=ws':=by
 induction sums with
 | nil=>cases h
 | cons r l ih=>
   rw [List.map_cons,List.nodup_cons] at nd
   rcases List.mem_cons.mp h with e | h
   ·rcases List.mem_cons.mp h' with e' | h'
    ·rw [← e] at e';exact (Prod.mk.inj e').2.symm
    ·exact absurd (List.mem_map.mpr ⟨_,h',rfl⟩) (by rw [← e] at nd;exact nd.1)
   ·rcases List.mem_cons.mp h' with e' | h'
    ·exact absurd (List.mem_map.mpr ⟨_,h,rfl⟩) (by rw [← e'] at nd;exact nd.1)
    ·exact ih nd.2 h h'
theorem Otp.step {sums:List (Str×List Str)} (nd:(sums.map (·.1)).Nodup) {od:List Str} {lf:List (Str×List Str)} (o:Otp sums od lf):
  Otp sums (od++(lf.filter fun r=> !d2 (lf.map (·.1)) r.2).map (·.1)) (lf.filter fun r=>d2 (lf.map (·.1)) r.2):=by
 refine ⟨?_,fun r h=>o.sub r (List.mem_filter.mp h).1,fun i z hz ws hw y hy hs=>?_⟩
 ·refine List.Perm.trans ?_ o.perm
  rw [List.append_assoc,← List.map_append]
  refine List.Perm.append_left _ (List.Perm.map _ ?_)
  refine List.Perm.trans List.perm_append_comm ?_
  exact List.filter_append_perm _ _
 ·by_cases hi:i < od.length
  ·rw [List.getElem?_append_left hi] at hz
   rw [List.take_append_of_le_length (Nat.le_of_lt hi)]
   exact o.need i z hz ws hw y hy hs
  ·rw [List.getElem?_append_right (by omega)] at hz
   have hm:=List.mem_of_getElem? hz
   obtain ⟨r,hr,rfl⟩:=List.mem_map.mp hm
   obtain ⟨hr1,hr2⟩:=List.mem_filter.mp hr
   have e:ws=r.2:=Mn nd hw (o.sub r hr1)
   subst e
   have hn:y∉lf.map (·.1):=fun m=>by
    have:d2 (lf.map (·.1)) r.2=true:=List.any_eq_true.mpr ⟨y,hy,decide_eq_true m⟩
    rw [this] at hr2
    cases hr2
   have:=(o.perm.mem_iff (a:=y)).mpr hs
   rcases List.mem_append.mp this with h | h
   ·rw [List.take_append,List.mem_append]
    left
    rw [List.take_of_length_le (by omega)]
    exact h
   ·exact absurd h hn
theorem vt {α:Type} (f:α→Nat):∀ l:List α,l≠[]→∃ a∈l,∀ b∈l,f a≤f b
 | [],h=>absurd rfl h
 | [a],_=>⟨a,List.mem_singleton.mpr rfl,fun b h=>by rw [List.mem_singleton.mp h];exact Nat.le_refl _⟩
 | a::b::l,_=>by
   obtain ⟨c,hc,h⟩:=vt f (b::l) (by simp)
   by_cases hac:f a≤f c
   ·exact ⟨a,List.mem_cons_self ..,fun d hd=>(List.mem_cons.mp hd).elim (fun e=>by rw [e];exact Nat.le_refl _) fun e=>Nat.le_trans hac (h d e)⟩
   ·exact ⟨c,List.mem_cons_of_mem _ hc,fun d hd=>(List.mem_cons.mp hd).elim (fun e=>by rw [e];omega) fun e=>h d e⟩
theorem Otp.ready {N:Nt} (g:Gn N) {od:List Str} {lf:List (Str×List Str)} (o:Otp N.sums od lf) (h:lf≠[]):0 < (lf.filter fun r=> !d2 (lf.map (·.1)) r.2).length:=by
 obtain ⟨rank,hr⟩:=g.rk
 obtain ⟨r,hm,hl⟩:=vt (fun r:Str×List Str=>rank r.1) lf h
 refine List.length_pos_of_mem (List.mem_filter.mpr ⟨hm,?_⟩)
 cases hw:d2 (lf.map (·.1)) r.2 with
 | false=>rfl
 | true=>
   obtain ⟨y,hy,hy2⟩:=List.any_eq_true.mp hw
   obtain ⟨r2,hm2,rfl⟩:=List.mem_map.mp (of_decide_eq_true hy2)
   have h1:=hr r (o.sub r hm) _ hy (List.mem_map.mpr ⟨r2,o.sub r2 hm2,rfl⟩)
   have h2:=hl r2 hm2
   omega
theorem Bb {α:Type} (p:α→Bool):∀ l:List α,0 < (l.filter fun x=> !p x).length→(l.filter p).length < l.length:=fun l h=>by
 have:=(List.filter_append_perm p l).length_eq
 rw [List.length_append] at this
 omega
theorem Gn.nds {N:Nt} (g:Gn N):(N.sums.map (·.1)).Nodup:=by
 have:=g.nd
 unfold Nt.names at this
 rw [List.nodup_append,List.nodup_append] at this
 exact this.1.2.1
structure NetA (H:Hp) (C CI CS CT p:Addr) (N:Nt) (od:List Str):Prop where
 ho:∃ (dx i s t o d tq:Addr) (rs:List Rw) (qs:List Qs) (ws:List (Str×Addr)),H p=some (.ins C dx [("ins",.ref i),("sums",.ref s),("kept_stores",.ref t),("outs",.ref o),("by_name",.ref d),("sum_order",.ref tq)])∧Kpt H i s t o rs qs N∧WiA H CI CS CT d N ws∧H tq=some (.tup (od.map V.str))
 g:Gn N
 tp:Topo N.sums od
theorem NetA.same {H H2:Hp} {C CI CS CT p:Addr} {N:Nt} {od:List Str} (x:NetA H C CI CS CT p N od) (h:Same H H2):NetA H2 C CI CS CT p N od:=
 ⟨let ⟨dx,i,s,t,o,d,tq,rs,qs,ws,a,b,c,e⟩:=x.ho;⟨dx,i,s,t,o,d,tq,rs,qs,ws,h.get a,b.same h,c.same h,h.get e⟩,x.g,x.tp⟩
noncomputable def Kx (x:Addr) (H H2:Hp):Prop:=∀ b ob,b≠x→H b=some ob→H2 b=some ob
theorem Kx.trans {x:Addr} {H H2 H3:Hp} (a:Kx x H H2) (b:Kx x H2 H3):Kx x H H3:=fun c o n e=>b c o n (a c o n e)
theorem Kx.same {x:Addr} {H H2:Hp} (s:Same H H2):Kx x H H2:=fun _ _ _ e=>s.get e
theorem Kx.upd {x:Addr} {H H2:Hp} {o:HO} (u:Upd H H2 x o):Kx x H H2:=u.oth
theorem Kx.tup {x:Addr} {H H2:Hp} (k:Kx x H H2) {C dx:Addr} {fs:List (Str×V)} (hx:H x=some (.ins C dx fs)) {b:Addr} {xs:List V} (e:H b=some (.tup xs)):H2 b=some (.tup xs):=k b _ (fj e hx fun z=>by cases z) e
theorem Kx.lst {x:Addr} {H H2:Hp} (k:Kx x H H2) {C dx:Addr} {fs:List (Str×V)} (hx:H x=some (.ins C dx fs)) {b:Addr} {xs:List V} (e:H b=some (.lst xs)):H2 b=some (.lst xs):=k b _ (fj e hx fun z=>by cases z) e
noncomputable def RwK (H:Hp) (rs:List Rw):Prop:=∀ r∈rs,H r.1=some (.tup [.str r.2.2.1,.ref r.2.1])∧H r.2.1=some (.tup (r.2.2.2.map V.str))
noncomputable def QsK (H:Hp) (qs:List Qs):Prop:=∀ q∈qs,H q.1=some (.tup [.str q.2.1,.str q.2.2])
theorem RwK.same {H H2:Hp} {rs:List Rw} (h:RwK H rs) (s:Same H H2):RwK H2 rs:=fun r m=>⟨s.get (h r m).1,s.get (h r m).2⟩
theorem QsK.same {H H2:Hp} {qs:List Qs} (h:QsK H qs) (s:Same H H2):QsK H2 qs:=fun q m=>s.get (h q m)
theorem Kx.rw {x:Addr} {H H2:Hp} (k:Kx x H H2) {C dx:Addr} {fs:List (Str×V)} (hx:H x=some (.ins C dx fs)) {rs:List Rw} (h:RwK H rs):RwK H2 rs:=fun r m=>⟨k.tup hx (h r m).1,k.tup hx (h r m).2⟩
theorem Kx.qs {x:Addr} {H H2:Hp} (k:Kx x H H2) {C dx:Addr} {fs:List (Str×V)} (hx:H x=some (.ins C dx fs)) {qs:List Qs} (h:QsK H qs):QsK H2 qs:=fun q m=>k.tup hx (h q m)
theorem RwK.updL {H H2:Hp} {rs:List Rw} (h:RwK H rs) {D:Addr} {xs:List V} (hD:H D=some (.lst xs)) (k:∀ b o,b≠D→H b=some o→H2 b=some o):RwK H2 rs:=fun r m=>⟨k _ _ (fj (h r m).1 hD fun z=>by cases z) (h r m).1,k _ _ (fj (h r m).2 hD fun z=>by cases z) (h r m).2⟩
theorem QsK.updL {H H2:Hp} {qs:List Qs} (h:QsK H qs) {D:Addr} {xs:List V} (hD:H D=some (.lst xs)) (k:∀ b o,b≠D→H b=some o→H2 b=some o):QsK H2 qs:=fun q m=>k _ _ (fj (h q m) hD fun z=>by cases z) (h q m)
theorem Kx.kpt {x:Addr} {H H2:Hp} (k:Kx x H H2) {C dx:Addr} {fs:List (Str×V)} (hx:H x=some (.ins C dx fs)) {i s t o:Addr} {rs:List Rw} {qs:List Qs} {N:Nt} (h:Kpt H i s t o rs qs N):Kpt H2 i s t o rs qs N:=
 ⟨k.tup hx h.i,k.tup hx h.s,fun r m=>⟨k.tup hx (h.sr r m).1,k.tup hx (h.sr r m).2⟩,h.es,k.tup hx h.t,fun q m=>k.tup hx (h.tr q m),h.et,k.tup hx h.o⟩
theorem Kx.wia {x:Addr} {H H2:Hp} (k:Kx x H H2) {CI CS CT d:Addr} {N:Nt} {ws:List (Str×Addr)} (h:WiA H CI CS CT d N ws) (hd:d≠x) (hw:∀ q∈ws,q.2≠x) {C dx:Addr} {fs:List (Str×V)} (hx:H x=some (.ins C dx fs)):WiA H2 CI CS CT d N ws:=
 ⟨k _ _ hd h.d,h.nm,fun q m=>by
  cases h.ob q m with
  | i k' dx' hk e=>exact .i k' dx' hk (k _ _ (hw q m) e)
  | s ws' dx' tw hk e et=>exact .s ws' dx' tw hk (k _ _ (hw q m) e) (k.tup hx et)
  | t k' y dx' hk e=>exact .t k' y dx' hk (k _ _ (hw q m) e)⟩
noncomputable def xb (f:Str→Bool) (ws:List Str):Bool:=ws.foldl (fun a w=>a^^f w) false
structure Val (N:Nt) (row st:Nat) (f:Str→Bool):Prop where
 i:∀ (k:Nat) z,N.ins[k]? =some z→f z=row.testBit k
 t:∀ (k:Nat) z y,N.sts[k]? =some (z,y)→f z=st.testBit k
 s:∀ z ws,(z,ws)∈N.sums→f z=xb f ws
noncomputable def fv (N:Nt) (row st:Nat):Str→Bool:=Classical.epsilon (Val N row st)
noncomputable def Qx (N:Nt):Prop:=∀ r s,∃ f,Val N r s f
noncomputable def need (N:Nt) (od:List Str):List Str:=N.ins++N.sts.map (·.1)++od
structure Pre (N:Nt) (row st:Nat) (pre:List Str) (f:Str→Bool):Prop where
 i:∀ (k:Nat) z,N.ins[k]? =some z→z∈pre→f z=row.testBit k
 t:∀ (k:Nat) z y,N.sts[k]? =some (z,y)→z∈pre→f z=st.testBit k
 s:∀ z ws,(z,ws)∈N.sums→z∈pre→f z=xb f ws∧∀ w∈ws,w∈pre
structure Bt (N:Nt) (row st:Nat) (pre:List Str) (f:Str→Bool) (z:Str) (v:Bool):Prop where
 i:∀ k:Nat,N.ins[k]? =some z→v=row.testBit k
 t:∀ (k:Nat) y,N.sts[k]? =some (z,y)→v=st.testBit k
 s:∀ ws,(z,ws)∈N.sums→v=xb f ws∧∀ w∈ws,w∈pre
section
variable {N:Nt} (g:Gn N)
include g
variable {od:List Str} (tp:Topo N.sums od)
include tp
end
noncomputable abbrev NP:=Hp→Addr→Nt→List Str→Prop
noncomputable def Di (NA:NP):Sp:=fun vs H Q _=>∃ (p:Addr) (N:Nt) (od:List Str),vs=[.ref p]∧NA H p N od∧∀ (D:Addr) (H2:Hp),H D=none→Same H H2→H2 D=some (.lst (N.ins.map V.str))→Q (.ref D) H2
noncomputable def LG (NA:NP):Sp:=fun vs H Q _=>∃ (p:Addr) (N:Nt) (od:List Str),vs=[.ref p]∧NA H p N od∧∀ (D:Addr) (H2:Hp),H D=none→Same H H2→H2 D=some (.lst (N.outs.map V.str))→Q (.ref D) H2
noncomputable def Ga (NA:NP):Sp:=fun vs H Q _=>∃ (p:Addr) (N:Nt) (od:List Str),vs=[.ref p]∧NA H p N od∧∀ (D:Addr) (H2:Hp) (qs:List Qs),H D=none→Same H H2→H2 D=some (.lst (qs.map fun q=>V.ref q.1))→QsK H2 qs→qs.map (·.2)=N.sts→Q (.ref D) H2
structure RunA (NA:NP) (H:Hp) (C p l n:Addr) (N:Nt) (od:List Str) (st:Nat) (as:List Nat):Prop where
 ho:∃ (dx d:Addr),H p=some (.ins C dx [("net",.ref n),("held",nat st),("bits",.ref d),("given",.ref l)])
 hl:H l=some (.lst (as.map nat))
 na:NA H n N od
noncomputable def mixV (c k:Int):Int:=((c % 2147483647 * 48271 + 7919 * k + 11) % 2147483647 * ((c % 2147483647 * 48271 + 7919 * k + 11) % 2147483647) % 2147483629) * ((c % 2147483647 * 48271 + 7919 * k + 11) % 2147483647 * ((c % 2147483647 * 48271 + 7919 * k + 11) % 2147483647) % 2147483629 + 48271 * k + 7) % 2147483587
noncomputable def Gc:Sp:=fun vs H Q _=>∃ (c k:Int),vs=[.int c,.int k]∧0≤k∧k < 100000∧Q (.int (mixV c k)) H
noncomputable def FZ:Str:=("cut x x0 x1 fresh new zero none nil tmp c c0 cut0 cut1 gnd off in out sum store":Str)++(" i0 i1 s0 s1 n0 n1 o0 o1 net wire a b z y0 t0 w w0 k dead open":Str)
noncomputable def W40:List Str:=Txt.split FZ " "
theorem sL:W40.length=40:=by decide +kernel
theorem Pl:W40.Nodup:=by decide +kernel
theorem Pk:∀ z∈W40,nm z.cps.toList=true:=by decide +kernel
noncomputable def dval (l:List Nat):Nat:=l.foldl (fun a c=>10 * a + (c - 48)) 0
noncomputable def tx (n:Nat):Str:=(toString (n:Int):String)
theorem u2:∀ n:Fin 2500,(dval (tx n.1).cps.toList=n.1∧(tx n.1).cps.toList.all fig=true)∧(tx n.1).cps.toList.length≤4:=by decide +kernel
noncomputable def nmf (c k:Int):Str:=if mixV c 402 % 2=0 then W40.getD ((k + mixV c 403) % 40).toNat "" else (⟨#[97 + (mixV c 400 % 26).toNat]⟩:Str)++tx ((mixV c 401 % 1000).toNat + 37 * k.toNat)
theorem sE (x y:Str):(x++y).cps.toList=x.cps.toList++y.cps.toList:=by
 show (x.cps++y.cps).toList=_
 rw [Array.toList_append]
theorem OE (c:Int) {k:Int} (h0:0≤k) (h1:k < 40):Nm (nmf c k):=by
 unfold nmf
 by_cases h:mixV c 402 % 2=0
 ·rw [if_pos h]
  have hi:((k + mixV c 403) % 40).toNat < W40.length:=by
   rw [sL]
   have:=Int.emod_lt_of_pos (k + mixV c 403) (show (0:Int) < 40 by decide)
   have:=Int.emod_nonneg (k + mixV c 403) (show (40:Int)≠0 by decide)
   omega
  rw [List.getD_eq_getElem?_getD,List.getElem?_eq_getElem hi]
  exact Pk _ (List.getElem_mem hi)
 ·rw [if_neg h]
  have hb:(mixV c 401 % 1000).toNat + 37 * k.toNat < 2500:=by
   have:=Int.emod_lt_of_pos (mixV c 401) (show (0:Int) < 1000 by decide)
   have:=Int.emod_nonneg (mixV c 401) (show (1000:Int)≠0 by decide)
   omega
  obtain ⟨⟨_,h2⟩,h3⟩:=u2 ⟨_,hb⟩
  have hd:low (97 + (mixV c 400 % 26).toNat)=true:=by
   have:=Int.emod_lt_of_pos (mixV c 400) (show (0:Int) < 26 by decide)
   have:=Int.emod_nonneg (mixV c 400) (show (26:Int)≠0 by decide)
   unfold low
   rw [decide_eq_true (by omega),decide_eq_true (by omega)];rfl
  show nm _=true
  rw [sE]
  show nm ((97 + (mixV c 400 % 26).toNat)::(tx ((mixV c 401 % 1000).toNat + 37 * k.toNat)).cps.toList)=true
  generalize hl:(tx ((mixV c 401 % 1000).toNat + 37 * k.toNat)).cps.toList=l at h2 h3
  generalize 97 + (mixV c 400 % 26).toNat=d at hd
  show (decide ((d::l).length≤6)&&low d&&(d::l).all fun c=>low c||fig c)=true
  rw [hd,List.all_cons,hd]
  have h2':l.all (fun c=>low c||fig c)=true:=by
   rw [List.all_eq_true] at h2 ⊢
   intro x hx
   rw [h2 x hx,Bool.or_true]
  rw [h2',List.length_cons,decide_eq_true (by omega)];rfl
theorem Mr (c:Int) {j k:Int} (j0:0≤j) (j1:j < 40) (k0:0≤k) (k1:k < 40) (e:nmf c j=nmf c k):j=k:=by
 unfold nmf at e
 by_cases h:mixV c 402 % 2=0
 ·rw [if_pos h,if_pos h] at e
  have hj:=Int.emod_lt_of_pos (j + mixV c 403) (show (0:Int) < 40 by decide)
  have hj':=Int.emod_nonneg (j + mixV c 403) (show (40:Int)≠0 by decide)
  have hk:=Int.emod_lt_of_pos (k + mixV c 403) (show (0:Int) < 40 by decide)
  have hk':=Int.emod_nonneg (k + mixV c 403) (show (40:Int)≠0 by decide)
  have lj:((j + mixV c 403) % 40).toNat < W40.length:=by rw [sL];omega
  have lk:((k + mixV c 403) % 40).toNat < W40.length:=by rw [sL];omega
  rw [List.getD_eq_getElem?_getD,List.getD_eq_getElem?_getD,List.getElem?_eq_getElem lj,List.getElem?_eq_getElem lk] at e
  have e2:W40[((j + mixV c 403) % 40).toNat]? =W40[((k + mixV c 403) % 40).toNat]? :=by rw [List.getElem?_eq_getElem lj,List.getElem?_eq_getElem lk];exact congrArg some e
  have:=(List.getElem?_inj lj Pl).mp e2
  omega
 ·rw [if_neg h,if_neg h] at e
  have hm:=Int.emod_lt_of_pos (mixV c 401) (show (0:Int) < 1000 by decide)
  have hm':=Int.emod_nonneg (mixV c 401) (show (1000:Int)≠0 by decide)
  have hbj:(mixV c 401 % 1000).toNat + 37 * j.toNat < 2500:=by omega
  have hbk:(mixV c 401 % 1000).toNat + 37 * k.toNat < 2500:=by omega
  have e2:=congrArg (fun z:Str=>z.cps.toList) e
  simp only [sE] at e2
  have e3:=List.append_cancel_left e2
  have e4:=congrArg dval e3
  rw [(u2 ⟨_,hbj⟩).1.1,(u2 ⟨_,hbk⟩).1.1] at e4
  have e4:(mixV c 401 % 1000).toNat + 37 * j.toNat=(mixV c 401 % 1000).toNat + 37 * k.toNat:=e4
  omega
noncomputable def vc:Sp:=fun vs H Q _=>∃ (c k:Int),vs=[.int c,.int k]∧0≤k∧k < 40∧∀ H2,Same H H2→Q (.str (nmf c k)) H2
noncomputable def Gd:Sp:=fun vs H Q _=>∃ (c:Int) (st:Int) (l:Addr) (zs:List Str) (dg:Bool),vs=[.int c,.int st,.ref l,.bl dg]∧0≤st∧st≤900∧H l=some (.lst (zs.map V.str))∧zs.length≤50∧∀ (D:Addr) (H2:Hp) (ws:List Str),H D=none→Same H H2→H2 D=some (.lst (ws.map V.str))→ws.length≤4→(∀ w∈ws,w∈zs)→Q (.ref D) H2
theorem vq (i:Int) (h0:0≤i) (h1:i < 26):atI ("abcdefghijklmnopqrstuvwxyz":Str).cps.toList i=some (97 + i.toNat):=by
 have e:("abcdefghijklmnopqrstuvwxyz":Str).cps.toList=List.range' 97 26:=by decide +kernel
 obtain ⟨j,rfl⟩:=Int.eq_ofNat_of_zero_le h0
 rw [e]
 refine bv ?_
 rw [List.getElem?_range' (by omega)]
 show some (97 + 1 * j)=some (97 + (j:Int).toNat)
 rw [Nat.one_mul,Int.toNat_natCast]
noncomputable def RwL (H:Hp) (rs:List Rw):Prop:=∀ r∈rs,H r.1=some (.tup [.str r.2.2.1,.ref r.2.1])∧H r.2.1=some (.lst (r.2.2.2.map V.str))
theorem RwL.same {H H2:Hp} {rs:List Rw} (h:RwL H rs) (s:Same H H2):RwL H2 rs:=fun r m=>⟨s.get (h r m).1,s.get (h r m).2⟩
noncomputable def nms (c:Int) (a n:Nat):List Str:=(List.range n).map fun k=>nmf c ((a + k:Nat):Int)
theorem cN (c:Int) (a n:Nat):(nms c a n).length=n:=by unfold nms;rw [List.length_map,List.length_range]
theorem l5 (c:Int) (a n:Nat):nms c a (n + 1)=nms c a n++[nmf c ((a + n:Nat):Int)]:=by unfold nms;rw [List.range_succ,List.map_append];rfl
theorem fY {c:Int} {a n:Nat} {z:Str} (h:z∈nms c a n):∃ k,k < n∧z=nmf c ((a + k:Nat):Int):=by
 obtain ⟨k,hk,rfl⟩:=List.mem_map.mp h
 exact ⟨k,List.mem_range.mp hk,rfl⟩
theorem OD {c:Int} {a n k:Nat} (h:k < n):nmf c ((a + k:Nat):Int)∈nms c a n:=List.mem_map.mpr ⟨k,List.mem_range.mpr h,rfl⟩
theorem wM (c:Int) {j k:Nat} (j1:j < 40) (k1:k < 40) (e:nmf c (j:Int)=nmf c (k:Int)):j=k:=by
 have:=Mr c (by omega) (by omega) (by omega) (by omega) e
 omega
structure Mk (c:Int) (ni nt:Nat) (rows:List (Str×List Str)):Prop where
 nm:rows.map (·.1)=nms c 22 rows.length
 ws:∀ (k:Nat) r,rows[k]? =some r→r.2.length≤4∧∀ w∈r.2,w∈nms c 0 ni++nms c 6 nt++nms c 22 k
theorem Mk.nil (c:Int) (ni nt:Nat):Mk c ni nt []:=⟨rfl,fun k r h=>by simp at h⟩
theorem Mk.put {c:Int} {ni nt:Nat} {rows:List (Str×List Str)} (m:Mk c ni nt rows) {ws:List Str} (l:ws.length≤4) (h:∀ w∈ws,w∈nms c 0 ni++nms c 6 nt++nms c 22 rows.length):Mk c ni nt (rows++[(nmf c ((22 + rows.length:Nat):Int),ws)]):=by
 refine ⟨by rw [List.map_append,m.nm,List.length_append,List.length_singleton,l5];rfl,fun k r hk=>?_⟩
 by_cases hlt:k < rows.length
 ·rw [List.getElem?_append_left hlt] at hk
  exact m.ws k r hk
 ·rw [List.getElem?_append_right (by omega)] at hk
  have:k - rows.length=0:=by
   have:=(List.getElem?_eq_some_iff.mp hk).1
   rw [List.length_singleton] at this
   omega
  rw [this] at hk
  cases hk
  rw [show k=rows.length by omega]
  exact ⟨l,h⟩
noncomputable def xf (f:Str→Nat) (ws:List Str):Nat:=ws.foldl (fun a w=>a^^^f w) 0
structure Hng (N:Nt) (p:Str→Nat×Nat):Prop where
 i:∀ (k:Nat) z,N.ins[k]? =some z→p z=(0,2 ^ k)
 t:∀ (k:Nat) z y,N.sts[k]? =some (z,y)→p z=(2 ^ k,0)
 s:∀ z ws,(z,ws)∈N.sums→p z=(xf (fun w=>(p w).1) ws,xf (fun w=>(p w).2) ws)
noncomputable def hgp (N:Nt) (z:Str):Nat×Nat:=(M.pk (fun k=>fv N 0 (2 ^ k) z) 0 N.sts.length,M.pk (fun k=>fv N (2 ^ k) 0 z) 0 N.ins.length)
section
variable {N:Nt} (g:Gn N) {od:List Str} (tp:Topo N.sums od) {p:Str→Nat×Nat} (h:Hng N p)
include g tp h
end
structure Hgd (H:Hp) (d:Addr) (N:Nt) (zs:List Str) (hs:List (Str×Addr)):Prop where
 d:H d=some (.dK (hs.map fun q=>(Sum.inr q.1,V.ref q.2)))
 nm:hs.map (·.1)=zs
 ob:∀ q∈hs,H q.2=some (.tup [nat (hgp N q.1).1,nat (hgp N q.1).2])
theorem Jo {hs:List (Str×Addr)} {z:Str}:z∈hs.map (·.1)→∃ t,(z,t)∈hs∧valV (hs.map fun q=>((Sum.inr q.1:Key),V.ref q.2)) (Sum.inr z)=some (.ref t):=by
 induction hs with
 | nil=>intro h;cases h
 | cons q hs ih=>
   intro h
   by_cases e:q.1=z
   ·subst e
    exact ⟨q.2,List.mem_cons_self,by show valV ((Sum.inr q.1,V.ref q.2)::_) (Sum.inr q.1)=_;exact pM rfl⟩
   ·have h':z∈hs.map (·.1):=by
     rw [List.map_cons,List.mem_cons] at h
     exact h.resolve_left fun e'=>e e'.symm
    obtain ⟨t,m,v⟩:=ih h'
    refine ⟨t,List.mem_cons_of_mem _ m,?_⟩
    show valV ((Sum.inr q.1,V.ref q.2)::_) (Sum.inr z)=_
    rw [pN fun e'=>e (Sum.inr.inj e')]
    exact v
structure Sml (m:Nat) (ps os:List (Nat×Nat)):Prop where
 m6:m≤6
 lp:ps.length≤16
 lo:os.length≤6
 bn:∀ q∈ps++os,q.1 < 2 ^ ps.length∧q.2 < 2 ^ m
section
variable {m:Nat} {ps os:List (Nat×Nat)} (b:Sml m ps os)
include b
end
section
variable {m:Nat} {ps os:List (Nat×Nat)} (b:Sml m ps os)
include b
end
theorem O9 {k:Nat} (hk:k≤1000):((k:Int)).natAbs.log2 < 1920:=by
 rw [Int.natAbs_natCast]
 rcases Nat.eq_zero_or_pos k with z | z
 ·rw [z];decide
 ·exact (Nat.log2_lt (by omega)).mpr (Nat.lt_of_lt_of_le (show k < 2 ^ 14 by omega) (Nat.pow_le_pow_right (by decide) (by decide)))
theorem O8 {l:Str} {k:Nat} (hl:l.length≤10) (hk:k≤1000):l.length + (tx k).length≤sizeLine:=by
 have hlen:=PyProof.Rows.int_text_len_1921 (O9 hk)
 rw [sizeLine_eq]
 show l.length + (toString (k:Int):Str).length≤_
 omega
end Sx
namespace M
noncomputable def stj (ps:List (Nat×Nat)):List Nat→Nat→List Nat
 | S,0=>S
 | S,j + 1=>(stj ps S j).map fun x=>tr2 ps x 0
noncomputable def sg0 (ps:List (Nat×Nat)) (m:Nat):List Nat:=(List.range m).map fun w=>tr2 ps 0 (2 ^ w)
noncomputable def rch (ps:List (Nat×Nat)) (m:Nat):Nat→List Nat
 | 0=>[]
 | T + 1=>stj ps (sg0 ps m) T++rch ps m T
noncomputable def zs (ps:List (Nat×Nat)) (x:Nat):Nat→Nat
 | 0=>x
 | n + 1=>tr2 ps (zs ps x n) 0
noncomputable def upk (w q T:Nat):List Nat:=(List.range T).map fun t=>(q>>>(t * w))&&&(2 ^ w - 1)
structure Kern (R ms:List Nat):Prop where
 inj:Inj ms
 lt:∀ m∈ms,m < 2 ^ R.length
 ev:∀ m∈ms,sm R m=0
 all:∀ z,z < 2 ^ R.length→sm R z=0→Span ms z
structure Lft (left rows:List Nat):Prop where
 nz:∀ x∈left,x≠0
 pw:left.Pairwise fun a b=>b.testBit a.log2=false
 sp:∀ x,Span left x↔Span rows x
 len:left.length=(fr rows).length
noncomputable def bm (rows:List Nat) (b:Nat):Nat:=Classical.epsilon (Bar rows b)
structure Fst (ms:List Nat) (p:Nat):Prop where
 lt:p < ms.length
 out:∀ k,k < p→¬ Span (ms.take k) (ms.getD k 0)
 in_:Span (ms.take p) (ms.getD p 0)
noncomputable def zl (ps:List (Nat×Nat)) (d n:Nat):List Nat:=(List.range (n + 1)).map (zs ps d)
noncomputable def act (ps:List (Nat×Nat)) (x Q:Nat):Nat:=if Q=0 then 0 else (if Q % 2=1 then x else 0)^^^act ps (tr2 ps x 0) (Q / 2)
termination_by Q
decreasing_by omega
structure Lst (ps:List (Nat×Nat)) (x P:Nat):Prop where
 nz:P≠0
 dv:∀ Q,act ps x Q=0↔Dv P Q
structure Rng (ps:List (Nat×Nat)) (x l n:Nat):Prop where
 pos:1≤n
 back:zs ps x (l + n)=zs ps x l
 least:∀ e,1≤e→e < n→zs ps x (l + e)≠zs ps x l
 early:1≤l→zs ps x (l - 1 + n)≠zs ps x (l - 1)
noncomputable def bl (A:List Nat) (s n:Nat):List Nat:=(List.range (n + 1)).map (bkI A s)
end M
namespace Sx
open PySem L2
structure Sgl (H:Hp) (D:Addr) (ds:List Addr) (ps os:List (Nat×Nat)) (n m:Nat):Prop where
 d:H D=some (.lst (ds.map V.ref))
 len:ds.length=m
 at':∀ (w:Nat) (d:Addr),ds[w]? =some d→H d=some (.lst ((M.wan ps os 0 (M.pulse w n)).map nat))
noncomputable def strD (z:Str):Dt:= .str z
noncomputable def rowD (r:Str×List Str):Dt:= .tup [.str r.1,.tup (r.2.map strD)]
noncomputable def stoD (r:Str×Str):Dt:= .tup [.str r.1,.str r.2]
noncomputable def netD (N:Nt):Dt:= .tup [.lst (N.ins.map strD),.lst (N.sums.map rowD),.lst (N.sts.map stoD),.lst (N.outs.map strD)]
theorem pP {K:PySem.W.Frag} {H:Hp} {D:Addr} {zs:List Str} (e:H D=some (.lst (zs.map V.str))):Rep K H (.ref D) (.lst (zs.map strD)):= .lst (SqL.of e) (by rw [List.length_map,List.length_map]) (qc V.str strD (fun z=> .str z) zs)
theorem JG {K:PySem.W.Frag} {H:Hp} {D:Addr} {zs:List Str} (e:H D=some (.tup (zs.map V.str))):Rep K H (.ref D) (.tup (zs.map strD)):= .tup (SqT.of e) (by rw [List.length_map,List.length_map]) (qc V.str strD (fun z=> .str z) zs)
theorem K0 {K:PySem.W.Frag} {H:Hp} {t:Addr} {v w:V} {d e:Dt} (h:H t=some (.tup [v,w])) (r1:Rep K H v d) (r2:Rep K H w e):Rep K H (.ref t) (.tup [d,e]):= .tup (SqT.of h) rfl fun i x y h1 h2=>by
 match i,h1,h2 with
 | 0,h1,h2=>cases h1;cases h2;exact r1
 | 1,h1,h2=>cases h1;cases h2;exact r2
 | i + 2,h1,_=>simp at h1
theorem N8 {K:PySem.W.Frag} {H:Hp} {t:Addr} {v w v' w':V} {d e d' e':Dt} (h:H t=some (.tup [v,w,v',w'])) (r1:Rep K H v d) (r2:Rep K H w e) (r3:Rep K H v' d') (r4:Rep K H w' e'):Rep K H (.ref t) (.tup [d,e,d',e']):= .tup (SqT.of h) rfl fun i x y h1 h2=>by
 match i,h1,h2 with
 | 0,h1,h2=>cases h1;cases h2;exact r1
 | 1,h1,h2=>cases h1;cases h2;exact r2
 | 2,h1,h2=>cases h1;cases h2;exact r3
 | 3,h1,h2=>cases h1;cases h2;exact r4
 | i + 4,h1,_=>simp at h1
theorem JI {K:PySem.W.Frag} {H:Hp} {D:Addr} {rs:List Rw} (e:H D=some (.lst (rs.map fun r=>V.ref r.1))) (k:RwK H rs):Rep K H (.ref D) (.lst ((rs.map (·.2.2)).map rowD)):= .lst (SqL.of e) (by rw [List.length_map,List.length_map,List.length_map]) fun i x y h1 h2=>by
 rw [List.getElem?_map] at h1
 rw [List.map_map,List.getElem?_map] at h2
 obtain ⟨r,hr,rfl⟩:=Option.map_eq_some_iff.mp h1
 rw [hr] at h2
 cases h2
 have:=k r (List.mem_of_getElem? hr)
 exact K0 this.1 (.str _) (JG this.2)
theorem JH {K:PySem.W.Frag} {H:Hp} {D:Addr} {qs:List Qs} (e:H D=some (.lst (qs.map fun r=>V.ref r.1))) (k:QsK H qs):Rep K H (.ref D) (.lst ((qs.map (·.2)).map stoD)):= .lst (SqL.of e) (by rw [List.length_map,List.length_map,List.length_map]) fun i x y h1 h2=>by
 rw [List.getElem?_map] at h1
 rw [List.map_map,List.getElem?_map] at h2
 obtain ⟨r,hr,rfl⟩:=Option.map_eq_some_iff.mp h1
 rw [hr] at h2
 cases h2
 exact K0 (k r (List.mem_of_getElem? hr)) (.str _) (.str _)
structure TldA (H:Hp) (t D1 D2 D3 D4:Addr) (rs:List Rw) (qs:List Qs) (N:Nt):Prop where
 t:H t=some (.tup [.ref D1,.ref D2,.ref D3,.ref D4])
 i:H D1=some (.lst (N.ins.map V.str))
 s:H D2=some (.lst (rs.map fun r=>V.ref r.1))
 sr:RwK H rs
 es:rs.map (·.2.2)=N.sums
 st:H D3=some (.lst (qs.map fun r=>V.ref r.1))
 tr:QsK H qs
 et:qs.map (·.2)=N.sts
 o:H D4=some (.lst (N.outs.map V.str))
theorem TldA.same {H H2:Hp} {t D1 D2 D3 D4:Addr} {rs:List Rw} {qs:List Qs} {N:Nt} (x:TldA H t D1 D2 D3 D4 rs qs N) (s:Same H H2):TldA H2 t D1 D2 D3 D4 rs qs N:=⟨s.get x.t,s.get x.i,s.get x.s,x.sr.same s,x.es,s.get x.st,fun q m=>s.get (x.tr q m),x.et,s.get x.o⟩
theorem TldA.rep {K:PySem.W.Frag} {H:Hp} {t D1 D2 D3 D4:Addr} {rs:List Rw} {qs:List Qs} {N:Nt} (x:TldA H t D1 D2 D3 D4 rs qs N):Rep K H (.ref t) (netD N):=by
 have r2:Rep K H (.ref D2) (.lst (N.sums.map rowD)):=by rw [← x.es];exact JI x.s x.sr
 have r3:Rep K H (.ref D3) (.lst (N.sts.map stoD)):=by rw [← x.et];exact JH x.st x.tr
 exact N8 x.t (pP x.i) r2 r3 (pP x.o)
theorem jK:∀ l:List Str,dO (l.map strD)=0
 | []=>rfl
 | z::l=>by rw [List.map_cons,dO,jK l];rfl
theorem Cp:∀ l:List (Str×List Str),dO (l.map rowD)≤2
 | []=>Nat.zero_le _
 | r::l=>by
   rw [List.map_cons,dO,rowD,depD,dO,dO,depD,jK]
   have:=Cp l
   simp [depD,dO];omega
theorem Co:∀ l:List (Str×Str),dO (l.map stoD)≤1
 | []=>Nat.zero_le _
 | r::l=>by
   rw [List.map_cons,dO,stoD,depD,dO,dO]
   have:=Co l
   simp [depD,dO];omega
theorem HX (N:Nt):depD (netD N)≤100:=by
 unfold netD
 rw [depD,dO,dO,dO,dO,depD,depD,depD,depD,jK,jK]
 have:=Cp N.sums
 have:=Co N.sts
 simp [dO];omega
noncomputable def Jt (NA:NP):Sp:=fun vs H Q _=>∃ (p:Addr) (N:Nt) (od:List Str),vs=[.ref p]∧NA H p N od∧∀ (t D1 D2 D3 D4:Addr) (H2:Hp) (rs:List Rw) (qs:List Qs),H D1=none→H D2=none→H D3=none→H D4=none→H t=none→Same H H2→TldA H2 t D1 D2 D3 D4 rs qs N→Q (.ref t) H2
noncomputable def LF (NA:NP):Sp:=fun vs H Q _=>∃ (p:Addr) (N:Nt) (od:List Str),vs=[.ref p]∧NA H p N od∧∀ (D:Addr) (H2:Hp) (rs:List Rw),H D=none→Same H H2→H2 D=some (.lst (rs.map fun r=>V.ref r.1))→RwK H2 rs→rs.map (·.2.2)=N.sums→Q (.ref D) H2
structure Sumd (rows:List Nat) (x q:Nat):Prop where
 lt:q < 2 ^ rows.length
 sm:M.sm rows q=x
 fr:M.Frs rows q
structure Bard (rows:List Nat) (x m:Nat):Prop where
 ns:¬ M.Span rows x
 bar:∃ y,M.Span rows y∧x^^^y≠0∧Qo rows (x^^^y).log2∧M.Bar rows (x^^^y).log2 m
 ev:∀ y,M.Span rows y→M.od (m&&&y)=false
 odd:M.od (m&&&x)=true
 lt:∀ W,(∀ r∈rows,r < 2 ^ W)→x < 2 ^ W→m < 2 ^ W
end Sx
namespace L2
open PySem
end L2
namespace Sx
open PySem L2
noncomputable def J (c:Nat):List (List Nat)→List Nat
 | []=>[]
 | [x]=>x
 | x::y::r=>x++c::J c (y::r)
theorem Ow {X:Cx} {K:PySem.W.Frag} (h:X.K=K):OpR X (compareOp .In) (rIn K false):=by subst h;exact GV
inductive Fm:List Str→Prop where
 | i (z:Str) (h:Nm z):Fm ["in",z]
 | o (z:Str) (h:Nm z):Fm ["out",z]
 | s (z:Str) (ws:List Str) (h:Nm z) (hw:∀ w∈ws,Nm w) (l:ws.length≤24):Fm ("sum"::z::"="::ws)
 | t (z y:Str) (h:Nm z) (hy:Nm y):Fm ["store",z,"=",y]
noncomputable def kd (k:Str) (r:List Str):Bool:=decide (r.getD 0 ""=k)
theorem G8 {c:Int} {ni nt:Nat} {rows sums:List (Str×List Str)} {sts:List (Str×Str)} {outs:List Str} (m:Mk c ni nt rows) (h1:ni≤3) (h2:nt≤12) (h3:rows.length≤12) (hp:sums.Perm rows) (hs:sts.map (·.1)=nms c 6 nt) (h4:outs.length≤6)
  (ht:∀ q∈sts,q.2∈nms c 0 ni++nms c 6 nt++nms c 22 rows.length) (ho:∀ z∈outs,z∈nms c 0 ni++nms c 6 nt++nms c 22 rows.length):Gn ⟨nms c 0 ni,sums,sts,outs⟩:=by
 have pn:(sums.map (·.1)).Perm (nms c 22 rows.length):=by rw [← m.nm];exact hp.map _
 have inn:∀ z,z∈nms c 0 ni++nms c 6 nt++nms c 22 rows.length→z∈Nt.names ⟨nms c 0 ni,sums,sts,outs⟩:=fun z hz=>by
  unfold Nt.names
  show z∈nms c 0 ni++sums.map (·.1)++sts.map (·.1)
  rw [hs]
  rcases List.mem_append.mp hz with h | h
  ·rcases List.mem_append.mp h with h | h
   ·exact List.mem_append_left _ (List.mem_append_left _ h)
   ·exact List.mem_append_right _ h
  ·exact List.mem_append_left _ (List.mem_append_right _ (pn.mem_iff.mpr h))
 have lt3:sts.length=nt:=by have:=congrArg List.length hs;rw [List.length_map,cN] at this;exact this
 have row_at:∀ r∈sums,∃ k,rows[k]? =some r:=fun r hr=>List.mem_iff_getElem?.mp (hp.mem_iff.mp hr)
 have num:∀ z∈Nt.names ⟨nms c 0 ni,sums,sts,outs⟩,∃ k:Nat,k < 40∧z=nmf c (k:Int):=fun z hz=>by
  unfold Nt.names at hz
  have hz:z∈nms c 0 ni++sums.map (·.1)++sts.map (·.1):=hz
  rw [hs] at hz
  rcases List.mem_append.mp hz with h | h
  ·rcases List.mem_append.mp h with h | h
   ·obtain ⟨k,hk,e⟩:=fY h;exact ⟨_,by omega,e⟩
   ·obtain ⟨k,hk,e⟩:=fY (pn.mem_iff.mp h);exact ⟨_,by omega,e⟩
  ·obtain ⟨k,hk,e⟩:=fY h;exact ⟨_,by omega,e⟩
 have ndn:∀ (a n:Nat),a + n≤40→(nms c a n).Nodup:=fun a n h=>by
  unfold nms
  refine List.pairwise_map.mpr (List.Pairwise.imp_of_mem (fun {i j} hi hj hij=>?_) List.pairwise_lt_range)
  intro e
  have:=wM c (show a + i < 40 by have:=List.mem_range.mp hi;omega) (show a + j < 40 by have:=List.mem_range.mp hj;omega) e
  omega
 have dis:∀ {a n b k:Nat},a + n≤40→b + k≤40→a + n≤b→∀ x∈nms c a n,∀ y∈nms c b k,x≠y:=fun h1 h2 h3 x hx y hy e=>by
  obtain ⟨i,hi,rfl⟩:=fY hx
  obtain ⟨j,hj,rfl⟩:=fY hy
  have:=wM c (by omega) (by omega) e
  omega
 refine ⟨by show (nms c 0 ni).length≤6;rw [cN];omega,by show sums.length≤40;rw [hp.length_eq];omega,by show sts.length≤16;omega,h4,fun r hr=>?_,fun z hz=>?_,?_,fun r hr z hz=>?_,fun r hr=>inn _ (ht r hr),fun z hz=>inn _ (ho z hz),?_⟩
 ·obtain ⟨k,hk⟩:=row_at r hr
  have:=(m.ws k r hk).1
  omega
 ·obtain ⟨k,hk,rfl⟩:=num z hz
  exact OE c (by omega) (by omega)
 ·unfold Nt.names
  show (nms c 0 ni++sums.map (·.1)++sts.map (·.1)).Nodup
  rw [hs,List.nodup_append,List.nodup_append]
  refine ⟨⟨ndn _ _ (by omega),pn.nodup_iff.mpr (ndn _ _ (by omega)),fun x hx y hy=>dis (by omega) (by omega) (by omega) x hx y (pn.mem_iff.mp hy)⟩,ndn _ _ (by omega),fun x hx y hy=>?_⟩
  rcases List.mem_append.mp hx with h | h
  ·exact dis (by omega) (by omega) (by omega) x h y hy
  ·exact fun e=>dis (a:=6) (n:=nt) (b:=22) (k:=rows.length) (by omega) (by omega) (by omega) y hy x (pn.mem_iff.mp h) e.symm
 ·obtain ⟨k,hk⟩:=row_at r hr
  have hlt:=(List.getElem?_eq_some_iff.mp hk).1
  refine inn z ?_
  rcases List.mem_append.mp ((m.ws k r hk).2 z hz) with h | h
  ·exact List.mem_append_left _ h
  ·obtain ⟨j,hj,rfl⟩:=fY h
   exact List.mem_append_right _ (OD (by omega))
 ·refine ⟨fun z=>(nms c 22 rows.length).idxOf z,fun r hr z hz hzs=>?_⟩
  obtain ⟨k,hk⟩:=row_at r hr
  have hlt:=(List.getElem?_eq_some_iff.mp hk).1
  have er:(nms c 22 rows.length)[k]? =some r.1:=by rw [← m.nm,List.getElem?_map,hk];rfl
  have nd:=ndn 22 rows.length (by omega)
  have ik:∀ (j:Nat) y,(nms c 22 rows.length)[j]? =some y→(nms c 22 rows.length).idxOf y=j:=fun j y hj=>by
   obtain ⟨hj1,hj2⟩:=List.getElem?_eq_some_iff.mp hj
   rw [← hj2]
   exact nd.idxOf_getElem j hj1
  obtain ⟨j,hj,ej⟩:=fY (pn.mem_iff.mp hzs)
  have hjk:j < k:=by
   rcases List.mem_append.mp ((m.ws k r hk).2 z hz) with h | h
   ·exfalso
    rcases List.mem_append.mp h with h | h
    ·exact dis (a:=0) (n:=ni) (b:=22) (k:=rows.length) (by omega) (by omega) (by omega) z h z (pn.mem_iff.mp hzs) rfl
    ·exact dis (a:=6) (n:=nt) (b:=22) (k:=rows.length) (by omega) (by omega) (by omega) z h z (pn.mem_iff.mp hzs) rfl
   ·obtain ⟨j',hj',e'⟩:=fY h
    have:=wM c (show 22 + j < 40 by omega) (show 22 + j' < 40 by omega) (ej.symm.trans e')
    omega
  have ez:(nms c 22 rows.length)[j]? =some z:=by unfold nms;rw [List.getElem?_map,List.getElem?_range hj,ej];rfl
  show (nms c 22 rows.length).idxOf z < (nms c 22 rows.length).idxOf r.1
  rw [ik j z ez,ik k r.1 er]
  exact hjk
inductive Scl:V→String→Prop where
 | str (z:Str) (l:z.length≤1000):Scl (.str z) "str"
 | int (i:Int):Scl (.int i) "int"
 | bl (b:Bool):Scl (.bl b) "bool"
 | non:Scl .non "NoneType"
theorem Scl.kind {K:PySem.W.Frag} {H:Hp} {v:V} {k:String} (s:Scl v k):uy K H v k:=by cases s<;>rfl
theorem Scl.len {v:V} {k:String} (s:Scl v k):∀ z,v= .str z→z.length≤1000:=fun z e=>by cases s with
 | str y l=>cases e;exact l
 | int=>cases e
 | bl=>cases e
 | non=>cases e
noncomputable def Tld (H H2:Hp) (dx:Addr) (v:V):Prop:=Same H H2∧H2 dx=some (.xd [("name",v)])
theorem Nd {H H2:Hp} {x C:Addr} {v:V} (f:H x=none) (e:ExcV H2 x C [("name",v)]) (hk:∀ b u,b≠x→H b=some u→H2 b=some u):∃ dx,H2 x=some (ExcF x C (some dx))∧Tld H (del H2 x) dx v:=by
 obtain ⟨o,a,b⟩:=e
 cases o with
 | none=>cases b
 | some d=>
   have b:H2 d=some (.xd [("name",v)]):=b
   have hd:d≠x:=fun z=>by rw [z,a] at b;cases b
   exact ⟨d,a,fun b' u e'=>by rw [vz (ah e' f)];exact hk _ _ (ah e' f) e',by rw [vz hd];exact b⟩
theorem Tld.pre {H H1 H2:Hp} {dx:Addr} {v:V} (s:Same H H1) (t:Tld H1 H2 dx v):Tld H H2 dx v:=⟨s.trans t.1,t.2⟩
theorem Bd {H H2:Hp} {x C dx:Addr} {v:V} (f:H x=none) (t:H dx=some (.xd [("name",v)])) (u:Upd H H2 x (ExcO x (.ref C) (some dx))):ExcC H2 x C [("name",v)]:=⟨dx,u.at',u.oth _ _ (ah t f) t⟩
noncomputable def F9 (NA:NP):Sp:=fun vs H Q _=>∃ (p:Addr) (N:Nt) (od:List Str),vs=[.ref p]∧NA H p N od∧∀ (D:Addr) (H2:Hp),H D=none→Same H H2→H2 D=some (.lst (N.names.map V.str))→Q (.ref D) H2
theorem G1 (c:Int) {k:Nat} (hk:k < 40):nmf c (k:Int)∈W40∨∃ (d n:Nat),n < 2500∧n=(mixV c 401 % 1000).toNat + 37 * k∧d=97 + (mixV c 400 % 26).toNat∧(nmf c (k:Int)).cps.toList=d::(tx n).cps.toList:=by
 unfold nmf
 by_cases hc:mixV c 402 % 2=0
 ·left
  rw [if_pos hc]
  have hi:(((k:Int) + mixV c 403) % 40).toNat < W40.length:=by
   rw [sL]
   have:=Int.emod_lt_of_pos ((k:Int) + mixV c 403) (show (0:Int) < 40 by decide)
   have:=Int.emod_nonneg ((k:Int) + mixV c 403) (show (40:Int)≠0 by decide)
   omega
  rw [List.getD_eq_getElem?_getD,List.getElem?_eq_getElem hi]
  exact List.getElem_mem hi
 ·right
  rw [if_neg hc]
  refine ⟨_,(mixV c 401 % 1000).toNat + 37 * k,?_,rfl,rfl,?_⟩
  ·have:=Int.emod_lt_of_pos (mixV c 401) (show (0:Int) < 1000 by decide)
   have:=Int.emod_nonneg (mixV c 401) (show (1000:Int)≠0 by decide)
   omega
  ·rw [sE];rfl
noncomputable def Nmc (c:Int) (N:Nt):Prop:=∀ z∈N.names,∃ k:Nat,k < 40∧z=nmf c (k:Int)
noncomputable def sbw (w f z:Str):Str:=if z=w then f else z
noncomputable def cutN (N:Nt) (w f:Str):Nt:=⟨N.ins,N.sums.map (fun r=>(r.1,r.2.map (sbw w f)))++[(f,[])],N.sts.map (fun q=>(q.1,sbw w f q.2)),N.outs.map (sbw w f)⟩
theorem r9 (N:Nt) (w f:Str):(cutN N w f).names.Perm (N.names++[f]):=by
 unfold Nt.names cutN
 rw [List.map_append,List.map_map,List.map_map]
 show (N.ins++(N.sums.map (·.1)++[f])++N.sts.map (·.1)).Perm (N.ins++N.sums.map (·.1)++N.sts.map (·.1)++[f])
 rw [← List.append_assoc,List.append_assoc (N.ins++N.sums.map (·.1)),List.append_assoc (N.ins++N.sums.map (·.1))]
 exact List.Perm.append_left _ List.perm_append_comm
theorem Gr {N:Nt} {w f z:Str} (h:z∈N.names):sbw w f z∈(cutN N w f).names:=by
 rw [(r9 N w f).mem_iff]
 unfold sbw
 split
 ·exact List.mem_append_right _ List.mem_cons_self
 ·exact List.mem_append_left _ h
theorem Kz {N:Nt} (g:Gn N) {w f:Str} (hl:N.sums.length≤39) (hf:Nm f) (hn:f∉N.names):Gn (cutN N w f) where
 li:=g.li
 ls:=by
  show (N.sums.map _++[(f,[])]).length≤40
  rw [List.length_append,List.length_map,List.length_singleton];omega
 lt:=by show (N.sts.map _).length≤16;rw [List.length_map];exact g.lt
 lo:=by show (N.outs.map _).length≤6;rw [List.length_map];exact g.lo
 lw:=fun r hr=>by
  rcases List.mem_append.mp hr with h | h
  ·obtain ⟨r0,h0,rfl⟩:=List.mem_map.mp h
   show (r0.2.map _).length≤24
   rw [List.length_map];exact g.lw r0 h0
  ·rw [List.mem_singleton.mp h];exact Nat.zero_le _
 nm:=fun z hz=>by
  rcases List.mem_append.mp ((r9 N w f).mem_iff.mp hz) with h | h
  ·exact g.nm z h
  ·rw [List.mem_singleton.mp h];exact hf
 nd:=by
  refine (r9 N w f).nodup_iff.mpr (List.nodup_append.mpr ⟨g.nd,by simp,fun x hx y hy e=>?_⟩)
  rw [List.mem_singleton] at hy
  rw [e,hy] at hx;exact hn hx
 ws:=fun r hr z hz=>by
  rcases List.mem_append.mp hr with h | h
  ·obtain ⟨r0,h0,rfl⟩:=List.mem_map.mp h
   obtain ⟨z0,hz0,rfl⟩:=List.mem_map.mp hz
   exact Gr (g.ws r0 h0 z0 hz0)
  ·rw [List.mem_singleton.mp h] at hz;cases hz
 ts:=fun r hr=>by
  obtain ⟨r0,h0,rfl⟩:=List.mem_map.mp hr
  exact Gr (g.ts r0 h0)
 os:=fun z hz=>by
  obtain ⟨z0,hz0,rfl⟩:=List.mem_map.mp hz
  exact Gr (g.os z0 hz0)
 rk:=by
  obtain ⟨rank,hk⟩:=g.rk
  refine ⟨fun z=>if z=f then 0 else rank z + 1,fun r hr z hz hs=>?_⟩
  rcases List.mem_append.mp hr with h | h
  ·obtain ⟨r0,h0,rfl⟩:=List.mem_map.mp h
   obtain ⟨z0,hz0,rfl⟩:=List.mem_map.mp hz
   have h1:r0.1≠f:=fun e=>hn (by rw [← e];unfold Nt.names;exact List.mem_append_left _ (List.mem_append_right _ (List.mem_map.mpr ⟨r0,h0,rfl⟩)))
   show (if sbw w f z0=f then 0 else rank (sbw w f z0) + 1) < (if r0.1=f then 0 else rank r0.1 + 1)
   rw [if_neg h1]
   split
   ·omega
   ·rename_i hne
    have e0:sbw w f z0=z0:=by
     unfold sbw at hne ⊢
     split
     ·rename_i hw;rw [if_pos hw] at hne;exact absurd rfl hne
     ·rfl
    rw [e0] at hs ⊢
    have hs:z0∈(N.sums.map (fun r:Str×List Str=>(r.1,r.2.map (sbw w f)))++[(f,[])]).map (fun r:Str×List Str=>r.1):=hs
    rw [List.map_append,List.map_map] at hs
    rcases List.mem_append.mp hs with h2 | h2
    ·have:=hk r0 h0 z0 hz0 h2;omega
    ·rw [e0] at hne;exact absurd (List.mem_singleton.mp h2) hne
  ·rw [List.mem_singleton.mp h] at hz;cases hz
noncomputable def TupV (K:PySem.W.Frag) (H:Hp) (y:V):Option (List V)→Prop
 | some xs=>∃ r,y= .ref r∧SqT K H r xs∧Po K H xs
 | none=>∃ k,uy K H y k∧k≠"tuple"
noncomputable def Qa (n m:Nat):Option (List V)→Bool
 | some [x,y]=>OG x n&&OG y m
 | _=>false
noncomputable abbrev It2:=V×Option (List V)
noncomputable def LstV (K:PySem.W.Frag) (H:Hp) (y:V):Option (List It2)→Prop
 | some zs=>∃ r,y= .ref r∧H r=some (.lst (zs.map (·.1)))∧∀ z∈zs,TupV K H z.1 z.2
 | none=>∃ k,uy K H y k∧k≠"list"
noncomputable def tabB (x:V) (on oo:Option (List It2)):Bool:=match x,on,oo with
 | .int i,some zs,some ws=>decide (0≤i)&&decide (i≤6)&&decide (zs.length≤120)&&decide (ws.length≤6)&&(zs++ws).all fun z=>Qa zs.length i.toNat z.2
 | _,_,_=>false
end Sx
namespace L2
open PySem
section
variable {σ:St} {H:Hp} {Q:VK}
noncomputable def IJ (C:Addr) (sp:Sp) (W:XW) (σ:St) (Q:VK) (vs:List V) (H:Hp):Prop:=∀ x dx,H x=none→H dx=none→dx≠x→sp (.ref x::(vs++[])) (upd (upd H dx (.own x)) x (.ins C dx [])) (fun v H2=>v= .non∧Q (.ref x) H2) (W σ)
theorem Gy {C:Addr} {sp:Sp} {W:XW} {tr:TA} (h:tr σ H (IJ C sp W σ Q)):KS C sp [] W tr σ H Q:=h
theorem yf {C:Addr} {sp:Sp} {W:XW} {vs:List V} (h:∀ x dx H2,H x=none→Same H H2→H2 x=some (.ins C dx [])→sp (.ref x::vs) H2 (fun v H2=>v= .non∧Q (.ref x) H2) (W σ)):IJ C sp W σ Q vs H:=by
 intro x dx f1 f2 n
 rw [List.append_nil]
 exact h x dx _ f1 (fun b o e=>by rw [ar (ah e f1),ar (ah e f2)];exact e) av
end
end L2
namespace Sx
open PySem L2
structure BadT (K:PySem.W.Frag) (H:Hp) (x y z:V):Prop where
 ex:∃ k on oo,uy K H x k∧LstV K H y on∧LstV K H z oo∧tabB x on oo=false
end Sx
namespace L2
open PySem
end L2
namespace Sx
open PySem L2
theorem GE {K:PySem.W.Frag} {H:Hp} {D:Addr} {v w:V} {d e:Dt} (h:H D=some (.lst [v,w])) (r1:Rep K H v d) (r2:Rep K H w e):Rep K H (.ref D) (.lst [d,e]):=by
 refine .lst (SqL.of h) rfl fun k x d' hx hd=>?_
 match k,hx,hd with
 | 0,hx,hd=>cases hx;cases hd;exact r1
 | 1,hx,hd=>cases hx;cases hd;exact r2
 | k + 2,hx,_=>simp at hx
noncomputable def cps (p q k:Nat):List Nat:=if k + 1 < p then [k + 1] else M.pl 1000 q
structure ChS (H:Hp) (S:Addr) (p q:Nat) (rs:List Addr):Prop where
 at_:H S=some (.lst (rs.map V.ref))
 len:rs.length=p
 get:∀ (k:Nat) (r:Addr),rs[k]? =some r→H r=some (.lst ((cps p q k).map nat))
structure ChT (H:Hp) (D S:Addr) (ms:List Nat) (p q:Nat):Prop where
 fs:M.Fst ms p
 sd:Sumd (ms.take p) (ms.getD p 0) q
 d:H D=some (.lst ((ms.take p).map nat))
 s:∃ rs,ChS H S p q rs
structure LA (K:PySem.W.Frag) (H:Hp) (t n o rr:Addr) (m:Nat) (nx os:List Pr3) (rs:List Nat) (a b:Nat):Prop where
 tt:TabT H t n o m nx os
 sq:SqL K H rr (rs.map nat)
 lr:rs.length=20
 br:∀ r∈rs,r < 2 ^ m
 ln:nx.length≤16
 ha:a < 2 ^ nx.length
 hb:b < 2 ^ nx.length
structure ApA (H:Hp) (f:Addr) (nx os:List Pr3) (d k ans:Nat):Prop where
 f:H f=some (.tup [.str "apart",nat k,nat ans.log2])
 hk:k < nx.length
 an:ans=M.tr2 (prs os) (M.zs (prs nx) d k) 0
 ne:ans≠0
 qu:∀ j,j < k→M.tr2 (prs os) (M.zs (prs nx) d j) 0=0
structure ApL (H:Hp) (f D S:Addr) (nx os:List Pr3) (d p q:Nat):Prop where
 f:H f=some (.tup [.str "alike",.ref D,.ref S])
 ct:ChT H D S (M.zl (prs nx) d nx.length) p q
 qu:∀ j,j < p→M.tr2 (prs os) (M.zs (prs nx) d j) 0=0
structure CmA (H:Hp) (t D:Addr) (m:Nat) (nx:List Pr3) (st T q mk:Nat):Prop where
 f:H t=some (.tup [.str "come",.ref D,nat mk])
 d:H D=some (.lst ((M.upk m q T).map nat))
 hT:T≤nx.length
 no:∀ j,j < T→¬ M.Span (M.rch (prs nx) m j) st
 sd:Sumd (M.rch (prs nx) m T) st q
 br:(T=0∧mk=0)∨∃ T',T=T' + 1∧Bard (M.rch (prs nx) m T') st mk
structure CmN (H:Hp) (t D S:Addr) (m:Nat) (nx:List Pr3) (st mk p q:Nat):Prop where
 f:H t=some (.tup [.str "never",.ref D,.ref S])
 no:∀ j,j≤nx.length→¬ M.Span (M.rch (prs nx) m j) st
 bd:Bard (M.rch (prs nx) m nx.length) st mk
 ct:ChT H D S (M.bl (nA nx) mk nx.length) p q
structure LN (K:PySem.W.Frag) (H:Hp) (n:Addr) (m:Nat) (nx os:List Pr3) (st:Nat):Prop where
 sq:SqL K H n (refs nx)
 pt:Prt H nx
 g:MaG m nx os
 ln:nx.length≤16
 hs:st < 2 ^ nx.length
end Sx
namespace M
noncomputable def ow (x:Nat) (L:List Nat):Nat:=pk (fun k=>od (x&&&L.getD k 0)) 0 L.length
noncomputable def lk1 (A os:List Nat) (t:Nat):List Nat:=os.map fun s=>bkI A s t
noncomputable def lkm (A os:List Nat):Nat→List Nat
 | 0=>[]
 | T + 1=>lkm A os T++lk1 A os T
section
variable (ps os:List (Nat×Nat)) (m:Nat)
noncomputable def msk:List Nat:=lkm (ps.map (·.1)) (os.map (·.1)) ps.length
noncomputable def ldp:List Nat:=fr ((rch ps m ps.length).map (ow · (msk ps os)))
noncomputable def lst_:List Nat:=(ldp ps os m).map fun i=>(rch ps m ps.length).getD i 0
noncomputable def lkp:List Nat:=fr ((msk ps os).map (ow · (lst_ ps os m)))
noncomputable def lkL:List Nat:=(lkp ps os m).map fun i=>(msk ps os).getD i 0
noncomputable def sen:List Nat:=(lkL ps os m).map (ow · (lst_ ps os m))
end
section
variable {ps os:List (Nat×Nat)} {m:Nat}
structure Lsr (ps os:List (Nat×Nat)) (m:Nat) (nx' os':List (Nat×Nat)):Prop where
 ln:nx'.length=(lkp ps os m).length
 lo:os'.length=os.length
 n1:∀ (j:Nat) (q:Nat×Nat),nx'[j]? =some q→q.1 < 2 ^ (lkp ps os m).length∧sm (sen ps os m) q.1=ow (sm (ps.map (·.1)) ((lkL ps os m).getD j 0)) (lst_ ps os m)∧q.2=sm (ps.map (·.2)) ((lkL ps os m).getD j 0)
 o1:∀ (j:Nat) (q:Nat×Nat),os'[j]? =some q→q.1 < 2 ^ (lkp ps os m).length∧sm (sen ps os m) q.1=ow (os.getD j (0,0)).1 (lst_ ps os m)∧q.2=(os.getD j (0,0)).2
structure Fit (ps os:List (Nat×Nat)) (m:Nat):Prop where
 ln:ps.length≤120
 bn:∀ q∈ps++os,q.1 < 2 ^ ps.length
end
end M
namespace Sx
open PySem L2
structure Lrl (H:Hp) (Dr Dl:Addr) (ds es:List Addr) (m:Nat) (nx os:List Pr3):Prop where
 r:H Dr=some (.lst (ds.map V.ref))
 l:H Dl=some (.lst (es.map V.ref))
 dl:ds.length=(M.ldp (prs nx) (prs os) m).length
 el:es.length=(M.lkp (prs nx) (prs os) m).length
 da:∀ (j:Nat) (d k:Nat),ds[j]? =some d→(M.ldp (prs nx) (prs os) m)[j]? =some k→H d=some (.lst ((M.upk m (2 ^ k) nx.length).map nat))
 ea:∀ (j:Nat) (e k:Nat),es[j]? =some e→(M.lkp (prs nx) (prs os) m)[j]? =some k→H e=some (.tup [nat (k / os.length),nat (k % os.length)])
noncomputable def less (H:Hp) (R:Addr→Prop):Hp:=fun b=>@ite _ (R b) (Classical.propDecidable _) none (H b)
structure Hnd2 (H:Hp) (i s t o:Addr) (rs:List Rw) (qs:List Qs) (N:Nt):Prop where
 i:H i=some (.lst (N.ins.map V.str))
 s:H s=some (.lst (rs.map fun r=>V.ref r.1))
 sr:∀ r∈rs,H r.1=some (.tup [.str r.2.2.1,.ref r.2.1])∧(H r.2.1=some (.lst (r.2.2.2.map V.str))∨H r.2.1=some (.tup (r.2.2.2.map V.str)))
 es:rs.map (·.2.2)=N.sums
 t:H t=some (.lst (qs.map fun q=>V.ref q.1))
 tr:∀ q∈qs,H q.1=some (.tup [.str q.2.1,.str q.2.2])
 et:qs.map (·.2)=N.sts
 o:H o=some (.lst (N.outs.map V.str))
theorem Hnd2.same {H H2:Hp} {i s t o:Addr} {rs:List Rw} {qs:List Qs} {N:Nt} (x:Hnd2 H i s t o rs qs N) (h:Same H H2):Hnd2 H2 i s t o rs qs N:=⟨h.get x.i,h.get x.s,fun r m=>⟨h.get (x.sr r m).1,(x.sr r m).2.imp h.get h.get⟩,x.es,h.get x.t,fun q m=>h.get (x.tr q m),x.et,h.get x.o⟩
theorem Kx.hnd2 {x:Addr} {H H2:Hp} (k:Kx x H H2) {C dx:Addr} {fs:List (Str×V)} (hx:H x=some (.ins C dx fs)) {i s t o:Addr} {rs:List Rw} {qs:List Qs} {N:Nt} (h:Hnd2 H i s t o rs qs N):Hnd2 H2 i s t o rs qs N:=
 ⟨k.lst hx h.i,k.lst hx h.s,fun r m=>⟨k.tup hx (h.sr r m).1,(h.sr r m).2.imp (k.lst hx) (k.tup hx)⟩,h.es,k.lst hx h.t,fun q m=>k.tup hx (h.tr q m),h.et,k.lst hx h.o⟩
inductive Thg (H:Hp):V→String→Prop where
 | sc {v:V} {k:String} (s:Scl v k):Thg H v k
 | nil {p:Addr} (e:H p=some (.lst [])):Thg H (.ref p) "list"
inductive Cpy (H H2:Hp):V→V→Prop where
 | sc {v:V} {k:String} (s:Scl v k):Cpy H H2 v v
 | nil {p p2:Addr} (e:H p=some (.lst [])) (e2:H2 p2=some (.lst [])):Cpy H H2 (.ref p) (.ref p2)
noncomputable def PB:Sp:=fun _ _ _ _=>False
noncomputable def Ju (K:PySem.W.Frag):Sp:=fun vs H Q _=>∃ (p:Addr) (ns:List Int) (st mo:Nat),vs=[.ref p,nat st,nat mo]∧SqL K H p (ns.map V.int)∧st≤900∧mo≤12∧∀ (t i s u o:Addr) (H2:Hp) (rs:List Rw) (qs:List Qs) (N:Nt),Same H H2→H2 t=some (.tup [.ref i,.ref s,.ref u,.ref o])→Hnd H2 i s u o rs qs N→Gn N→N.ins.length≤3→N.sums.length≤mo→Nmc (cell ns (st:Int)) N→Q (.ref t) H2
theorem MB {c:Int} {ni nt:Nat} {rows sums:List (Str×List Str)} {sts:List (Str×Str)} {outs:List Str} (m:Mk c ni nt rows) (h1:ni≤3) (h2:nt≤12) (h3:rows.length≤12) (hp:sums.Perm rows) (hs:sts.map (·.1)=nms c 6 nt) (h4:outs.length≤6)
  (ht:∀ q∈sts,q.2∈nms c 0 ni++nms c 6 nt++nms c 22 rows.length) (ho:∀ z∈outs,z∈nms c 0 ni++nms c 6 nt++nms c 22 rows.length):Nmc c ⟨nms c 0 ni,sums,sts,outs⟩:=by
 have pn:(sums.map (·.1)).Perm (nms c 22 rows.length):=by rw [← m.nm];exact hp.map _
 intro z hz
 unfold Nt.names at hz
 have hz:z∈nms c 0 ni++sums.map (·.1)++sts.map (·.1):=hz
 rw [hs] at hz
 rcases List.mem_append.mp hz with h | h
 ·rcases List.mem_append.mp h with h | h
  ·obtain ⟨k,hk,e⟩:=fY h;exact ⟨_,by omega,e⟩
  ·obtain ⟨k,hk,e⟩:=fY (pn.mem_iff.mp h);exact ⟨_,by omega,e⟩
 ·obtain ⟨k,hk,e⟩:=fY h;exact ⟨_,by omega,e⟩
noncomputable def RwLs (H:Hp) (rs:List Rw):Prop:=∀ r∈rs,H r.1=some (.tup [.str r.2.2.1,.ref r.2.1])∧H r.2.1=some (.lst (r.2.2.2.map V.str))
theorem RwLs.same {H H2:Hp} {rs:List Rw} (h:RwLs H rs) (s:Same H H2):RwLs H2 rs:=fun r m=>⟨s.get (h r m).1,s.get (h r m).2⟩
theorem Hy {z:Str} {l:List Str}:(inV (V.str z) (l.map V.str))=true↔z∈l:=by
 unfold inV
 rw [List.any_eq_true]
 constructor
 ·rintro ⟨x,hx,e⟩
  obtain ⟨y,hy,rfl⟩:=List.mem_map.mp hx
  have:y=z:=by simpa [eqV] using e
  rw [← this];exact hy
 ·intro h
  exact ⟨_,List.mem_map.mpr ⟨z,h,rfl⟩,by simp [eqV]⟩
inductive Thg2 (H:Hp):V→String→Prop where
 | sc {v:V} {k:String} (s:Scl v k):Thg2 H v k
 | nil {p:Addr} (e:H p=some (.lst [])):Thg2 H (.ref p) "list"
 | one {p:Addr} {z:Str} (l:z.length≤1000) (e:H p=some (.tup [.str z])):Thg2 H (.ref p) "tuple"
inductive Cpy2 (H H2:Hp):V→V→Prop where
 | sc {v:V} {k:String} (s:Scl v k):Cpy2 H H2 v v
 | nil {p p2:Addr} (e:H p=some (.lst [])) (e2:H2 p2=some (.lst [])):Cpy2 H H2 (.ref p) (.ref p2)
 | one {p p2:Addr} {z:Str} (e:H p=some (.tup [.str z])) (e2:H2 p2=some (.tup [.str z])):Cpy2 H H2 (.ref p) (.ref p2)
theorem Thg2.same {H H2:Hp} {v:V} {k:String} (t:Thg2 H v k) (s:Same H H2):Thg2 H2 v k:=by
 cases t with
 | sc h=>exact .sc h
 | nil e=>exact .nil (s.get e)
 | one l e=>exact .one l (s.get e)
theorem Thg2.str {H:Hp} {z:Str} {k:String} (t:Thg2 H (.str z) k):z.length≤1000:=by
 cases t with
 | sc h=>exact h.len z rfl
theorem Thg2.kind {K:PySem.W.Frag} {H:Hp} {v:V} {k:String} (t:Thg2 H v k):uy K H v k:=by
 cases t with
 | sc h=>exact h.kind
 | nil e=>exact .inl ⟨rfl,_,SqL.of e⟩
 | one l e=>exact .inr (.inl ⟨rfl,_,SqT.of e⟩)
theorem Cpy2.rep {K:PySem.W.Frag} {H H2:Hp} {v v2:V} (c:Cpy2 H H2 v v2) (s:Same H H2):∃ d,Rep K H2 v d∧Rep K H2 v2 d∧depD d≤1:=by
 cases c with
 | sc h=>
   cases h with
   | str z l=>exact ⟨.str z,.str z,.str z,Nat.zero_le _⟩
   | int i=>exact ⟨.int i,.int i,.int i,Nat.zero_le _⟩
   | bl b=>exact ⟨.bl b,.bl b,.bl b,Nat.zero_le _⟩
   | non=>exact ⟨.non,.non,.non,Nat.zero_le _⟩
 | nil e e2=>exact ⟨.lst [],.lst (SqL.of (s.get e)) rfl fun i x d h=>by simp at h,.lst (SqL.of e2) rfl fun i x d h=>by simp at h,by decide⟩
 | one e e2=>
   rename_i p p2 z
   have one:∀ {q:Addr},H2 q=some (.tup [.str z])→Rep K H2 (.ref q) (.tup [.str z]):=fun {q} h=> .tup (SqT.of h) rfl fun i x y h1 h2=>by
    match i,h1,h2 with
    | 0,h1,h2=>cases h1;cases h2;exact .str z
    | i + 1,h1,_=>simp at h1
   exact ⟨.tup [.str z],one (s.get e),one e2,by simp [depD,dO]⟩
noncomputable def Gi:Sp:=fun vs H Q _=>∃ (v:V) (k:String) (d:Int),vs=[v,.int d]∧Scl v k∧Q v H
noncomputable def Gh:Sp:=fun vs H Q _=>∃ (v:V) (k:String),vs=[v,.int 12]∧Thg2 H v k∧∀ v2 H2,Same H H2→Cpy2 H H2 v v2→Q v2 H2
noncomputable def g7 (C:Addr):Sp:=fun vs H Q _=>∃ (p:Addr) (v:V) (k:String),vs=[.ref p,v]∧Thg2 H v k∧H p=some (ExcF p C none)∧∀ v2 H2,ExcV H2 p C [("name",v2)]→(∀ b u,b≠p→H b=some u→H2 b=some u)→Cpy2 H H2 v v2→Q .non H2
noncomputable def Tld3 (H H2:Hp) (dx:Addr) (v:V):Prop:=∃ v2,Tld H H2 dx v2∧Cpy2 H H2 v v2
noncomputable def Dj (CN:Addr):Sp:=fun vs H Q E=>∃ (v:V) (k:String) (d:Addr) (zs:List Str),vs=[v,.ref d]∧Thg2 H v k∧Knw H d zs∧(∀ z∈zs,Nm z)∧(∀ z∈zs,v= .str z→∀ H2,Same H H2→Q .non H2)∧((∀ z∈zs,v≠.str z)→∀ H2 dx,Tld3 H H2 dx v→E (.ref CN) (some dx) H2)
noncomputable def z4 (NA:NP) (CI CS CT CN:Addr):Sp:=fun vs H Q E=>∃ (p:Addr) (N:Nt) (od:List Str) (v:V) (k:String),vs=[.ref p,v]∧NA H p N od∧Thg2 H v k∧(∀ z∈N.names,v= .str z→∀ (w:Addr) (H2:Hp),Same H H2→Wob H2 CI CS CT N z w→Q (.ref w) H2)∧((∀ z∈N.names,v≠.str z)→∀ H2 dx,Tld3 H H2 dx v→E (.ref CN) (some dx) H2)
noncomputable def Dm (CM:Addr):Sp:=fun vs H Q E=>∃ (i s t o:Addr) (rs:List Rw) (qs:List Qs) (N:Nt),vs=[.ref i,.ref s,.ref t,.ref o]∧Hnd2 H i s t o rs qs N∧N.ins.length≤6∧(Gn N→∀ H2,Same H H2→Q .non H2)∧(40 < N.sums.length→E (.ref CM) none H)∧(Gn N∨40 < N.sums.length)
noncomputable def LH (C CI CS CT CM:Addr):Sp:=fun vs H Q E=>∃ (x dx i s t o:Addr) (rs:List Rw) (qs:List Qs) (N:Nt),vs=[.ref x,.ref i,.ref s,.ref t,.ref o]∧H x=some (.ins C dx [])∧Hnd2 H i s t o rs qs N∧N.ins.length≤6∧(Gn N→∀ (H2:Hp) (od:List Str),Kx x H H2→NetA H2 C CI CS CT x N od→Q .non H2)∧(40 < N.sums.length→E (.ref CM) none H)∧(Gn N∨40 < N.sums.length)
noncomputable def Dd:Sp:=fun vs H Q _=>∃ (l:Addr) (zs:List Str) (w f:Str),vs=[.ref l,.str w,.str f]∧(H l=some (.lst (zs.map V.str))∨H l=some (.tup (zs.map V.str)))∧zs.length≤1000∧∀ (D:Addr) (H2:Hp),H D=none→Same H H2→H2 D=some (.lst ((zs.map (sbw w f)).map V.str))→Q (.ref D) H2
noncomputable def Nv (NA:NP) (CN CB CD CM:Addr):Sp:=fun vs H Q E=>∃ (p:Addr) (N:Nt) (od:List Str) (v f:V) (k k':String),vs=[.ref p,v,f]∧NA H p N od∧Thg2 H v k∧Scl f k'∧
 ((∀ z∈N.names,v≠.str z)→∀ H2 dx,Tld3 H H2 dx v→E (.ref CN) (some dx) H2)∧
 (∀ w∈N.names,v= .str w→ui f=false→∀ H2 dx,Tld H H2 dx f→E (.ref CB) (some dx) H2)∧
 (∀ w∈N.names,v= .str w→∀ z∈N.names,f= .str z→∀ H2 dx,Tld H H2 dx f→E (.ref CD) (some dx) H2)∧
 (∀ w∈N.names,v= .str w→∀ z,f= .str z→Nm z→z∉N.names→(39 < N.sums.length→∀ H2,Same H H2→E (.ref CM) none H2)∧(N.sums.length≤39→∀ (n:Addr) (H2:Hp) (od2:List Str),H n=none→Same H H2→NA H2 n (cutN N w z) od2→Q (.ref n) H2))
noncomputable def fln (k:Nat):Str:=("n":Str)++tx k++("z":Str)
theorem HM (k:Nat):(fln k).cps.toList=110::((tx k).cps.toList++[122]):=by
 unfold fln;rw [sE,sE];rfl
theorem HN:∀ k:Fin 40,(nm (fln k.1).cps.toList=true∧fln k.1∉W40)∧(fln k.1).cps.toList.getLast? =some 122:=by decide +kernel
theorem MK {j k:Nat} (hj:j < 40) (hk:k < 40) (e:fln j=fln k):j=k:=by
 have e2:=congrArg (fun z:Str=>z.cps.toList) e
 simp only [HM] at e2
 injection e2 with _ e2
 have e4:=congrArg dval (List.append_cancel_right e2)
 rw [(u2 ⟨j,by omega⟩).1.1,(u2 ⟨k,by omega⟩).1.1] at e4
 exact e4
theorem Ms {c:Int} {k j:Nat} (hk:k < 40) (hj:j < 40):nmf c (k:Int)≠fln j:=fun e=>by
 have ha:=HN ⟨j,hj⟩
 rcases G1 c hk with h | ⟨d,n,hn,_,_,h⟩
 ·rw [e] at h;exact ha.1.2 h
 ·rw [e] at h
  have h2:=ha.2
  have h2:(fln j).cps.toList.getLast? =some 122:=h2
  rw [h] at h2
  have hf:=(u2 ⟨n,hn⟩).1.2
  rw [List.all_eq_true] at hf
  cases hl:(tx n).cps.toList with
  | nil=>
    rw [hl] at h
    have:=congrArg List.length h
    rw [HM,List.length_cons,List.length_append] at this
    simp at this
  | cons x xs=>
    rw [hl,List.getLast?_cons_cons] at h2
    have hm:122∈(tx n).cps.toList:=by rw [hl];exact List.mem_of_getLast? h2
    exact absurd (hf 122 hm) (by decide)
noncomputable def flrs (n:Nat):List (Str×List Str):=(List.range n).map fun k=>(fln k,[])
theorem xm (n:Nat):(flrs n).length=n:=by unfold flrs;rw [List.length_map,List.length_range]
theorem HL (n:Nat):flrs (n + 1)=flrs n++[(fln n,[])]:=by unfold flrs;rw [List.range_succ,List.map_append];rfl
theorem vy (n:Nat):(flrs n).map (·.1)=(List.range n).map fln:=by unfold flrs;rw [List.map_map];rfl
noncomputable def fil (N:Nt) (n:Nat):Nt:=⟨N.ins,N.sums++flrs n,N.sts,N.outs⟩
theorem jm (N:Nt) (n:Nat):(fil N n).names.Perm (N.names++(List.range n).map fln):=by
 unfold Nt.names fil
 rw [List.map_append,vy]
 show (N.ins++(N.sums.map (·.1)++_)++N.sts.map (·.1)).Perm (N.ins++N.sums.map (·.1)++N.sts.map (·.1)++_)
 rw [← List.append_assoc,List.append_assoc (N.ins++N.sums.map (·.1)),List.append_assoc (N.ins++N.sums.map (·.1))]
 exact List.Perm.append_left _ List.perm_append_comm
theorem Nmc.fln {c:Int} {N:Nt} (h:Nmc c N) {j:Nat} (hj:j < 40):Sx.fln j∉N.names:=fun hz=>by
 obtain ⟨k,hk,e⟩:=h _ hz
 exact Ms hk hj e.symm
theorem Gn.fil {c:Int} {N:Nt} (g:Gn N) (h:Nmc c N) {n:Nat} (hn:N.sums.length + n≤40):Gn (fil N n) where
 li:=g.li
 ls:=by
  show (N.sums++flrs n).length≤40
  rw [List.length_append,xm];omega
 lt:=g.lt
 lo:=g.lo
 lw:=fun r hr=>by
  rcases List.mem_append.mp hr with hr | hr
  ·exact g.lw r hr
  ·obtain ⟨k,_,rfl⟩:=List.mem_map.mp hr
   exact Nat.zero_le _
 nm:=fun z hz=>by
  rcases List.mem_append.mp ((jm N n).mem_iff.mp hz) with h1 | h1
  ·exact g.nm z h1
  ·obtain ⟨k,hk,rfl⟩:=List.mem_map.mp h1
   exact (HN ⟨k,by have:=List.mem_range.mp hk;omega⟩).1.1
 nd:=by
  refine (jm N n).nodup_iff.mpr (List.nodup_append.mpr ⟨g.nd,?_,fun x hx y hy e=>?_⟩)
  ·refine List.pairwise_map.mpr (List.Pairwise.imp_of_mem (fun {a b} ha hb ne e=>ne ?_) List.nodup_range)
   exact MK (by have:=List.mem_range.mp ha;omega) (by have:=List.mem_range.mp hb;omega) e
  ·obtain ⟨k,hk,rfl⟩:=List.mem_map.mp hy
   rw [e] at hx
   exact h.fln (by have:=List.mem_range.mp hk;omega) hx
 ws:=fun r hr z hz=>by
  refine (jm N n).mem_iff.mpr ?_
  rcases List.mem_append.mp hr with hr | hr
  ·exact List.mem_append_left _ (g.ws r hr z hz)
  ·obtain ⟨k,hk,rfl⟩:=List.mem_map.mp hr
   cases hz
 ts:=fun r hr=>(jm N n).mem_iff.mpr (List.mem_append_left _ (g.ts r hr))
 os:=fun r hr=>(jm N n).mem_iff.mpr (List.mem_append_left _ (g.os r hr))
 rk:=by
  obtain ⟨rank,hk⟩:=g.rk
  refine ⟨rank,fun r hr z hz hs=>?_⟩
  rcases List.mem_append.mp hr with hr | hr
  ·refine hk r hr z hz ?_
   have hs:z∈(N.sums++flrs n).map (·.1):=hs
   rw [List.map_append,vy] at hs
   rcases List.mem_append.mp hs with hs | hs
   ·exact hs
   ·obtain ⟨k,hk2,e⟩:=List.mem_map.mp hs
    exact absurd (g.ws r hr z hz) (by rw [← e];exact h.fln (by have:=List.mem_range.mp hk2;omega))
  ·obtain ⟨k,hk2,rfl⟩:=List.mem_map.mp hr
   cases hz
theorem tx70:∀ n:Fin 1040,(tx (n.1 + 2590)).length=4:=by decide +kernel
noncomputable def nm7 (c:Int) (k:Nat):Str:=(⟨#[97 + (mixV c 400 % 26).toNat]⟩:Str)++tx ((mixV c 401 % 1000).toNat + 37 * k)
theorem AH (c:Int) {k:Nat} (h:k=70∨k=71):(nm7 c k).length≤1000:=by
 have:=Int.emod_lt_of_pos (mixV c 401) (show (0:Int) < 1000 by decide)
 have:=Int.emod_nonneg (mixV c 401) (show (1000:Int)≠0 by decide)
 have hx:=tx70 ⟨(mixV c 401 % 1000).toNat + 37 * k - 2590,by omega⟩
 have hx:(tx ((mixV c 401 % 1000).toNat + 37 * k - 2590 + 2590)).length=4:=hx
 rw [show (mixV c 401 % 1000).toNat + 37 * k - 2590 + 2590=(mixV c 401 % 1000).toNat + 37 * k by omega] at hx
 have e:(nm7 c k).length=1 + (tx ((mixV c 401 % 1000).toNat + 37 * k)).length:=by
  unfold nm7
  show ((_:Str).cps++(_:Str).cps).size=_
  rw [Array.size_append];rfl
 omega
noncomputable def dueA (zs:List Str) (n:Nat) (v f:V):Nat:=if v∈zs.map V.str then (if ui f=true then (if f∈zs.map V.str then 2 else if 39 < n then 3 else 4) else 1) else 0
noncomputable def DueV (H:Hp) (r:V) (c:Nat) (v f:V):Prop:=match c with
 | 0=>∃ D,r= .ref D∧H D=some (.lst [.str "wire",v])
 | 1=>∃ D,r= .ref D∧H D=some (.lst [.str "name",f])
 | 2=>∃ D,r= .ref D∧H D=some (.lst [.str "doubled",f])
 | 3=>∃ D,r= .ref D∧H D=some (.lst [.str "many"])
 | _=>r= .non
noncomputable def dueD (c:Nat) (d e:Dt):Dt:=match c with
 | 0=> .lst [.str "wire",d]
 | 1=> .lst [.str "name",e]
 | 2=> .lst [.str "doubled",e]
 | 3=> .lst [.str "many"]
 | _=> .non
theorem DueV.same {H H2:Hp} {r v f:V} {c:Nat} (h:DueV H r c v f) (s:Same H H2):DueV H2 r c v f:=by
 match c,h with
 | 0,h=>obtain ⟨D,e,h⟩:=h;exact ⟨D,e,s.get h⟩
 | 1,h=>obtain ⟨D,e,h⟩:=h;exact ⟨D,e,s.get h⟩
 | 2,h=>obtain ⟨D,e,h⟩:=h;exact ⟨D,e,s.get h⟩
 | 3,h=>obtain ⟨D,e,h⟩:=h;exact ⟨D,e,s.get h⟩
 | c + 4,h=>exact h
theorem N9 {K:PySem.W.Frag} {H:Hp} {t:Addr} {v:V} {d:Dt} (h:H t=some (.lst [v])) (r1:Rep K H v d):Rep K H (.ref t) (.lst [d]):= .lst (SqL.of h) rfl fun i x y h1 h2=>by
 match i,h1,h2 with
 | 0,h1,h2=>cases h1;cases h2;exact r1
 | i + 1,h1,_=>simp at h1
theorem DueV.rep {K:PySem.W.Frag} {H:Hp} {r v f:V} {c:Nat} {d e:Dt} (h:DueV H r c v f) (rv:Rep K H v d) (rf:Rep K H f e):Rep K H r (dueD c d e):=by
 match c,h with
 | 0,h=>obtain ⟨D,rfl,h2⟩:=h;exact GE h2 (.str _) rv
 | 1,h=>obtain ⟨D,rfl,h2⟩:=h;exact GE h2 (.str _) rf
 | 2,h=>obtain ⟨D,rfl,h2⟩:=h;exact GE h2 (.str _) rf
 | 3,h=>obtain ⟨D,rfl,h2⟩:=h;exact N9 h2 (.str _)
 | c + 4,h=>have h:r= .non:=h;rw [h];exact .non
theorem Ku {c:Nat} {d e:Dt} (h1:depD d≤1) (h2:depD e≤1):depD (dueD c d e)≤100:=by
 match c with
 | 0=>simp only [dueD,depD,dO];omega
 | 1=>simp only [dueD,depD,dO];omega
 | 2=>simp only [dueD,depD,dO];omega
 | 3=>simp only [dueD,depD,dO];omega
 | c + 4=>exact Nat.zero_le _
theorem Scl.rep {K:PySem.W.Frag} {H:Hp} {v:V} {k:String} (s:Scl v k):∃ d,Rep K H v d∧depD d≤1:=by
 cases s with
 | str z l=>exact ⟨_,.str z,Nat.zero_le _⟩
 | int i=>exact ⟨_,.int i,Nat.zero_le _⟩
 | bl b=>exact ⟨_,.bl b,Nat.zero_le _⟩
 | non=>exact ⟨_,.non,Nat.zero_le _⟩
theorem Thg2.cpy {H:Hp} {v:V} {k:String} (t:Thg2 H v k):Cpy2 H H v v:=by
 cases t with
 | sc h=>exact .sc h
 | nil e=>exact .nil e e
 | one l e=>exact .one e e
theorem Cpy2.same {H H2 H3:Hp} {v v2:V} (c:Cpy2 H H2 v v2) (s:Same H2 H3):Cpy2 H H3 v v2:=by
 cases c with
 | sc h=>exact .sc h
 | nil a1 a2=>exact .nil a1 (s.get a2)
 | one a1 a2=>exact .one a1 (s.get a2)
theorem Iv {K:PySem.W.Frag} {H:Hp} {v:V} {k:String} (t:Thg2 H v k) (zs:List Str):∃ d,Rep K H v d∧(zs.any fun z=>eqD (.str z) d)=decide (v∈zs.map V.str):=by
 cases t with
 | sc h=>
   cases h with
   | str z l=>
     refine ⟨_,.str z,?_⟩
     rw [Bool.eq_iff_iff,List.any_eq_true,decide_eq_true_eq,List.mem_map]
     constructor
     ·rintro ⟨x,hx,e⟩;exact ⟨x,hx,congrArg V.str (eq_of_beq e)⟩
     ·rintro ⟨x,hx,e⟩;cases e;exact ⟨_,hx,beq_self_eq_true _⟩
   | int i=>
     refine ⟨_,.int i,?_⟩
     rw [Bool.eq_iff_iff,List.any_eq_true,decide_eq_true_eq,List.mem_map]
     exact ⟨fun h=>(by obtain ⟨x,hx,e⟩:=h;cases e),fun h=>(by obtain ⟨x,hx,e⟩:=h;cases e)⟩
   | bl i=>
     refine ⟨_,.bl i,?_⟩
     rw [Bool.eq_iff_iff,List.any_eq_true,decide_eq_true_eq,List.mem_map]
     exact ⟨fun h=>(by obtain ⟨x,hx,e⟩:=h;cases e),fun h=>(by obtain ⟨x,hx,e⟩:=h;cases e)⟩
   | non=>
     refine ⟨_,.non,?_⟩
     rw [Bool.eq_iff_iff,List.any_eq_true,decide_eq_true_eq,List.mem_map]
     exact ⟨fun h=>(by obtain ⟨x,hx,e⟩:=h;cases e),fun h=>(by obtain ⟨x,hx,e⟩:=h;cases e)⟩
 | nil e=>
   refine ⟨.lst [],.lst (SqL.of e) rfl fun i x d h=>by simp at h,?_⟩
   rw [Bool.eq_iff_iff,List.any_eq_true,decide_eq_true_eq,List.mem_map]
   exact ⟨fun h=>(by obtain ⟨x,hx,e⟩:=h;cases e),fun h=>(by obtain ⟨x,hx,e⟩:=h;cases e)⟩
 | one l e=>
   rename_i p z
   refine ⟨.tup [.str z],.tup (SqT.of e) rfl (fun i x y h1 h2=>?_),?_⟩
   ·match i,h1,h2 with
    | 0,h1,h2=>cases h1;cases h2;exact .str z
    | i + 1,h1,_=>simp at h1
   rw [Bool.eq_iff_iff,List.any_eq_true,decide_eq_true_eq,List.mem_map]
   exact ⟨fun h=>(by obtain ⟨x,hx,e⟩:=h;cases e),fun h=>(by obtain ⟨x,hx,e⟩:=h;cases e)⟩
noncomputable def Ge:Sp:=fun vs H Q _=>∃ (c:Int) (k:Nat),vs=[.int c,nat k]∧(k=70∨k=71)∧∀ H2,Same H H2→Q (.str (nm7 c k)) H2
noncomputable def Dh:Sp:=fun vs H Q _=>∃ (c:Int) (l:Addr) (zs:List Str),vs=[.int c,.ref l]∧H l=some (.lst (zs.map V.str))∧zs≠[]∧zs.length≤1000∧(∀ z∈zs,z.length≤1000)∧∀ (f:V) (k:String) (H2:Hp),Same H H2→Scl f k→Q f H2
noncomputable def LJ:Sp:=fun vs H Q _=>∃ (f:V) (k:String),vs=[f]∧Scl f k∧∀ H2,Same H H2→Q (.bl (ui f)) H2
noncomputable def LK:Sp:=fun vs H Q _=>∃ (l:Addr) (zs:List Str) (n:Nat) (v f:V) (k k':String),vs=[.ref l,nat n,v,f]∧H l=some (.lst (zs.map V.str))∧zs.length≤1000∧Thg2 H v k∧Scl f k'∧∀ (r:V) (H2:Hp),Same H H2→DueV H2 r (dueA zs n v f) v f→Q r H2
noncomputable def Gf:Sp:=fun vs H Q _=>∃ (l:Addr) (zs:List Str) (w f:Str),vs=[.ref l,.str w,.str f]∧(H l=some (.lst (zs.map V.str))∨H l=some (.tup (zs.map V.str)))∧zs.length≤1000∧∀ (D:Addr) (H2:Hp),H D=none→Same H H2→H2 D=some (.lst ((zs.map (sbw w f)).map V.str))→Q (.ref D) H2
noncomputable def Dg:Sp:=fun vs H Q _=>∃ (t D1 D2 D3 D4:Addr) (rs:List Rw) (qs:List Qs) (N:Nt) (w f:Str),vs=[.ref t,.str w,.str f]∧TldA H t D1 D2 D3 D4 rs qs N∧Gn N∧∀ (t' E1 E2 E3 E4:Addr) (H2:Hp) (rs':List Rw) (qs':List Qs),Same H H2→TldA H2 t' E1 E2 E3 E4 rs' qs' (cutN N w f)→Q (.ref t') H2
theorem DueV.ref {H:Hp} {r v f:V} {zs:List Str} {n:Nat} {v':V} (h:DueV H r (dueA zs n v f) v' f) (hc:dueA zs n v f≠4):∃ D,r= .ref D:=by
 have hk:dueA zs n v f=0∨dueA zs n v f=1∨dueA zs n v f=2∨dueA zs n v f=3:=by
  revert hc
  unfold dueA
  split
  ·split
   ·split
    ·intro _;exact .inr (.inr (.inl rfl))
    ·split
     ·intro _;exact .inr (.inr (.inr rfl))
     ·intro hc;exact absurd rfl hc
   ·intro _;exact .inr (.inl rfl)
  ·intro _;exact .inl rfl
 rcases hk with e | e | e | e<;>rw [e] at h<;>obtain ⟨D,hD,_⟩:=h<;>exact ⟨D,hD⟩
theorem Ks:∀ j:Fin 41,(("n":Str)++tx j.1).length≤100:=by decide +kernel
theorem flen {j:Nat} (h:j < 41):(("n":Str)++tx j).length + ("z":Str).length≤sizeLine:=by
 have h1:=Ks ⟨j,h⟩
 have h2:("z":Str).length=1:=rfl
 rw [sizeLine_eq,h2]
 have h1:(("n":Str)++tx j).length≤100:=h1
 omega
noncomputable def FndV (NA:NP) (H:Hp) (r:V) (c:Nat) (N:Nt) (v f:V):Prop:=if c=4 then ∃ (n:Addr) (w z:Str) (od:List Str),r= .ref n∧v= .str w∧f= .str z∧NA H n (cutN N w z) od else r= .non
noncomputable def Gg (NA:NP):Sp:=fun vs H Q _=>∃ (p:Addr) (N:Nt) (od:List Str) (v f:V) (k k':String),vs=[.ref p,v,f]∧NA H p N od∧Thg2 H v k∧Scl f k'∧∀ (D:Addr) (r1 r2 v2:V) (H2:Hp),Same H H2→H2 D=some (.lst [r1,r2])→Cpy2 H H2 v v2→DueV H2 r2 (dueA N.names N.sums.length v f) v2 f→FndV NA H2 r1 (dueA N.names N.sums.length v f) N v f→Q (.ref D) H2
end Sx
namespace My
open PySem L2 Sx
local macro_rules | `(tactic| walk_at "o") =>`(tactic| first | exact Or.inl rfl | exact Or.inr rfl)
local macro_rules | `(tactic| walk_at "s") =>`(tactic| exact ⟨rfl,rfl,rfl,by decide +kernel,rfl,by decide +kernel,by decide +kernel⟩)
local macro_rules | `(tactic| walk_at "l2side") =>`(tactic| first | assumption | rfl | omega | decide | ((try dsimp only [CDiv,Qq,CPow,CMul]);first | omega | decide | (refine ⟨?_,?_⟩<;>first | omega | decide) | (refine ⟨?_,?_,?_⟩<;>first | omega | decide) | (left;refine ⟨?_,?_⟩<;>first | omega | decide) | (right;refine ⟨?_,?_⟩<;>first | omega | decide)))
local macro_rules | `(tactic| walk_at "l2len") =>`(tactic| ((with_reducible show _ + _≤sizeLine);first | assumption | (rw [sizeLine_eq];omega) | omega))
local macro_rules | `(tactic| walk_at "l2at") =>`(tactic| first | assumption | exact av | (refine' Same.get (by assumption) ?h;(case h=>walk_at "l2at")))
local macro_rules | `(tactic| walk_at "l2hp") =>`(tactic| first | assumption | (refine' SqL.of ?h;(case h=>walk_at "l2at")) | (refine' SqT.of ?h;(case h=>walk_at "l2at")) | (refine' Same.seq (by assumption) ?h;(case h=>walk_at "l2hp")) | (refine' Same.tup (by assumption) ?h;(case h=>walk_at "l2hp")) | (refine' Rep.same (by assumption) ?h;(case h=>walk_at "l2hp")) | walk_at "l2at")
local macro_rules | `(tactic| walk_at "l2kind") =>`(tactic| first | assumption | exact rfl | (refine' Or.inl ⟨rfl,_,?e⟩;(case e=>walk_at "l2hp")) | (refine' Or.inr (Or.inl ⟨rfl,_,?e⟩);(case e=>walk_at "l2hp")) | (refine' Or.inr (Or.inr ⟨rfl,_,Or.inl ?e⟩);(case e=>walk_at "l2hp")))
local macro_rules | `(tactic| walk_at "l2step") =>`(tactic| first
 | (with_reducible refine PL ?_) | (with_reducible refine P7 ?_) | (with_reducible refine s_if ?_) | (with_reducible refine PM ?_) | (with_reducible refine s_retN ?_) | (with_reducible refine NW ?_) | (with_reducible refine NG ?_)
 | ((with_reducible refine' PF ?e ?_);(case e=>repeat constructor)) | (with_reducible refine s_c ?_) | (with_reducible refine s_op ?_) | (with_reducible refine s_un ?_)
 | (with_reducible refine N2 ?_) | (with_reducible refine PU ?_) | (with_reducible refine L8 ?_) | (with_reducible refine s_cb ?_)
 | (with_reducible refine PP ?_) | ((with_reducible refine' s_rI ?e ?_);(case e=>walk_at "l2side")) | (with_reducible refine s_rU ?_)
 | ((with_reducible refine' PQ ?e ?_);(case e=>rfl)) | ((with_reducible refine' PN ?e ?_);(case e=>rfl)) | (with_reducible refine PY ?_)
 | (with_reducible refine NC ?_) | (with_reducible refine s_tB ?_) | (with_reducible refine L2.s_chain ?_) | (with_reducible refine P8 ?_) | (with_reducible refine s_or ?_) | (with_reducible refine PR ?_)
 | (with_reducible refine N4 ?_) | (with_reducible refine s_orV ?_) | (with_reducible refine s_notV ?_) | (with_reducible refine P3 ?_)
 | ((with_reducible refine' LX ?e ?_);(case e=>repeat constructor)) | (with_reducible refine LY ?_) | (with_reducible refine NU ?_) | ((with_reducible refine' NT ?e ?l ?_);(case e=>walk_at "l2hp");(case l=>rfl))
 | (with_reducible refine PJ ?_) | (with_reducible refine PX ?_) | ((with_reducible refine' NI ?l ?_);(case l=>exact He (Nat.le_of_ble_eq_true rfl))) | ((with_reducible refine' NH ?l ?_);(case l=>exact He (Nat.le_of_ble_eq_true rfl)))
 | (with_reducible refine s_sl ?_) | (with_reducible refine JB ?_) | (with_reducible refine NF ?_)
 | ((with_reducible refine' PK ?e ?_);(case e=>walk_at "l2hp")) | ((with_reducible refine' s_slS ?e ?_);(case e=>walk_at "l2side"))
 | ((with_reducible refine' P1 ?e ?a ?_);(case e=>walk_at "l2hp");(case a=>first | assumption | rfl)) | ((with_reducible refine' PZ ?e ?a ?_);(case e=>walk_at "l2hp");(case a=>first | assumption | rfl))
 | ((with_reducible refine' s_ty ?e ?_);(case e=>first | exact rfl | (refine' Or.inl ⟨rfl,_,?f⟩;(case f=>walk_at "l2hp")) | (refine' Or.inr (Or.inr (Or.inl ⟨rfl,Or.inl ⟨_,?f⟩⟩));(case f=>walk_at "l2hp"))))
 | (with_reducible refine s_bm0 ?_) | (with_reducible refine s_bm ?_) | (with_reducible refine s_bits ?_)
 | ((with_reducible refine' NN ?e ?_);(case e=>walk_at "l2hp")) | ((with_reducible refine' NL ?e ?_);(case e=>walk_at "l2hp")) | ((with_reducible refine' NM ?e ?_);(case e=>walk_at "l2side"))
 | ((with_reducible refine' P2 ?e ?m ?_);(case e=>walk_at "l2kind");(case m=>decide))
 | (with_reducible refine NZ ?_) | (with_reducible refine P4 ?_) | (with_reducible refine LV ?_) | (with_reducible refine NR ?_) | (with_reducible refine NS ?_) | (with_reducible refine ND ?_) | (with_reducible refine s_rng2 ?_)
 | (with_reducible refine PD ?_) | (with_reducible refine NB ?_) | (with_reducible refine LZ ?_) | (with_reducible refine s_intB ?_) | (with_reducible refine s_inS ?_) | ((with_reducible refine' s_addS ?e ?_);(case e=>walk_at "l2side"))
 | (with_reducible refine N3 ?_) | ((with_reducible refine' gK ?e ?_);(case e=>first | rfl | decide | assumption)) | ((with_reducible refine' eR ?e ?_);(case e=>first | rfl | decide | assumption)) | ((with_reducible refine' JE ?a ?b ?_);(case a=>omega);(case b=>omega))
 | (with_reducible refine ⟨_,_,rfl,rfl,?_⟩;(with_reducible refine ⟨?l,?_⟩);(case l=>walk_at "l2len")) | (with_reducible refine ⟨_,_,rfl,rfl,?_⟩) | (with_reducible refine Or.inl ⟨_,rfl,?_⟩) | (with_reducible refine Or.inr ⟨_,rfl,?_⟩)
 | (with_reducible refine ⟨_,rfl,?_⟩) | (with_reducible refine ⟨rfl,?_⟩) | ((with_reducible refine' ⟨⟨_,?e⟩,?_⟩);(case e=>walk_at "l2hp")))
local macro_rules | `(tactic| walk_at "l2") =>`(tactic| repeat walk_at "l2step")
local macro_rules | `(tactic| walk_at "l2step") =>`(tactic| first
 | (with_reducible refine JA ?_) | (with_reducible refine P5 ?_) | (with_reducible refine NK ?_) | (with_reducible refine JC ?_) | (with_reducible refine NJ ?_) | (with_reducible refine NX ?_) | (with_reducible refine N1 ?_) | (with_reducible refine LW ?_)
 | ((with_reducible refine' LT ?e ?_);(case e=>walk_at "l2hp")) | ((with_reducible refine' LS ?e ?_);(case e=>walk_at "l2hp")) | ((with_reducible refine' Nz ?e ?_);(case e=>walk_at "l2hp")) | ((with_reducible refine' Ny ?e ?_);(case e=>walk_at "l2hp")))
local macro_rules | `(tactic| walk_at "l2step") =>`(tactic| first
 | (with_reducible refine P6 ?_) | (with_reducible refine NY ?_) | (with_reducible refine s_disp1I ?_) | ((with_reducible refine' LU ?e ?_);(case e=>walk_at "l2at")))
local macro_rules | `(tactic| walk_at "l2step") =>`(tactic| first | (with_reducible refine LR ?_) | (with_reducible refine s_try0 ?_) | (with_reducible refine L7 ?_))
noncomputable def top (i:Nat):Stmt:=PySem.Challenge.pw_sumwires_k84_wires_cut.main.body.getD i (.Pass ⟨0,0,0,0⟩)
noncomputable abbrev jX:Stmt:=top 3
theorem z9:aI ["thing","depth"] ["thing","depth"] (ae jX):=by walk_at "s"
noncomputable abbrev bP:Stmt:=dz (top 6) 0
theorem ky:aI ["self","name"] ["self","name"] (ae bP):=by walk_at "s"
noncomputable abbrev bO:Stmt:=dz (top 7) 0
theorem ku:aI ["self","name"] ["self","name"] (ae bO):=by walk_at "s"
noncomputable abbrev bW:Stmt:=dz (top 8) 0
theorem lH:aI ["self","name"] ["self","name"] (ae bW):=by walk_at "s"
noncomputable abbrev fQ:Stmt:=top 14
theorem DB:aI ["thing"] ["thing"] (ae fQ):=by walk_at "s"
noncomputable abbrev cq:Stmt:=dz (top 16) 0
theorem oJ:aI ["self","name"] ["self","name"] (ae cq):=by walk_at "s"
noncomputable abbrev bX:Stmt:=dz (top 17) 0
theorem lI:aI ["self","name","number"] ["self","name","number"] (ae bX):=by walk_at "s"
noncomputable abbrev bN:Stmt:=dz (top 18) 0
theorem kt:aI ["self","name","wires"] ["self","name","wires"] (ae bN):=by walk_at "s"
noncomputable abbrev bC:Stmt:=dz (top 19) 0
theorem i3:aI ["self","name","wire","number"] ["self","name","wire","number"] (ae bC):=by walk_at "s"
noncomputable abbrev cz:Stmt:=top 26
theorem sX:aI ["ins","sums","stores","outs"] ["ins","sums","stores","outs"] (ae cz):=by walk_at "s"
noncomputable abbrev cV:Stmt:=top 27
theorem gJ:aI ["names","known","name"] ["names"] (ae cV):=by walk_at "s"
noncomputable abbrev dC:Stmt:=top 28
theorem vS:aI ["wire","known"] ["wire","known"] (ae dC):=by walk_at "s"
noncomputable abbrev cU:Stmt:=top 29
theorem dq:aI ["sums","stores","outs","known","row","wire"] ["sums","stores","outs","known"] (ae cU):=by walk_at "s"
noncomputable abbrev bh:Stmt:=top 30
theorem iL:aI ["ins","sums","stores","wires"] ["ins","sums","stores"] (ae bh):=by walk_at "s"
noncomputable abbrev kz:Stmt:=top 31
theorem Jz:aI ["row","waiting"] ["row","waiting"] (ae kz):=by walk_at "s"
noncomputable abbrev eQ:Stmt:=top 33
theorem fF:aI ["sums","names","left","waiting","ready"] ["sums"] (ae eQ):=by walk_at "s"
noncomputable abbrev bw:Stmt:=dz (top 34) 0
theorem p8:aI ["self","ins","sums","stores","outs"] ["self","ins","sums","stores","outs"] (ae bw):=by walk_at "s"
noncomputable abbrev cE:Stmt:=dz (top 34) 1
theorem p7:aI ["self"] ["self"] (ae cE):=by walk_at "s"
noncomputable abbrev cD:Stmt:=dz (top 34) 2
theorem p6:aI ["self"] ["self"] (ae cD):=by walk_at "s"
noncomputable abbrev b4:Stmt:=dz (top 34) 3
theorem mP:aI ["self"] ["self"] (ae b4):=by walk_at "s"
noncomputable abbrev cr:Stmt:=dz (top 34) 4
theorem oK:aI ["self"] ["self"] (ae cr):=by walk_at "s"
noncomputable abbrev fJ:Stmt:=dz (top 34) 5
theorem Ab:aI ["self"] ["self"] (ae fJ):=by walk_at "s"
noncomputable abbrev b3:Stmt:=dz (top 34) 6
theorem mO:aI ["self"] ["self"] (ae b3):=by walk_at "s"
noncomputable abbrev cZ:Stmt:=dz (top 34) 7
theorem sZ:aI ["self","name"] ["self","name"] (ae cZ):=by walk_at "s"
noncomputable abbrev fP:Stmt:=top 36
theorem DA:aI ["wires","wire","fresh"] ["wires","wire","fresh"] (ae fP):=by walk_at "s"
noncomputable abbrev s_cut:Stmt:=top 37
theorem Gq:aI ["net","wire","fresh","sums","stores"] ["net","wire","fresh"] (ae s_cut):=by walk_at "s"
noncomputable abbrev d5:Stmt:=top 39
theorem ye:aI ["_law_script","_law_k"] ["_law_script","_law_k"] (ae d5):=by walk_at "s"
noncomputable abbrev fG:Stmt:=top 40
theorem kr:aI ["_law_cell_here","_law_k","_law_number"] ["_law_cell_here","_law_k"] (ae fG):=by walk_at "s"
noncomputable abbrev d4:Stmt:=top 41
theorem cx:aI ["_law_cell_here","_law_k","_law_letters","_law_some"] ["_law_cell_here","_law_k"] (ae d4):=by walk_at "s"
noncomputable abbrev cL:Stmt:=top 42
theorem cT:aI ["_law_cell_here","_law_start","_law_names","_law_digits","_law_left","_law_found","_law_k","_law_many"] ["_law_cell_here","_law_start","_law_names","_law_digits"] (ae cL):=by walk_at "s"
noncomputable abbrev cW:Stmt:=top 43
theorem ba:aI ["_law_script","_law_start","_law_most","_law_cell_here","_law_sizes","_law_ins","_law_stores","_law_known","_law_sums","_law_k","_law_wires_here","_law_at","_law_ends","_law_name_here","_law_outs"] ["_law_script","_law_start","_law_most"] (ae cW):=by walk_at "s"
noncomputable abbrev cX:Stmt:=top 44
theorem sY:aI ["_law_cell_here","_law_names"] ["_law_cell_here","_law_names"] (ae cX):=by walk_at "s"
noncomputable abbrev b9:Stmt:=top 45
theorem p5:aI ["_law_word"] ["_law_word"] (ae b9):=by walk_at "s"
noncomputable abbrev fH:Stmt:=top 46
theorem Aa:aI ["_law_names","_law_many","_law_wire","_law_fresh"] ["_law_names","_law_many","_law_wire","_law_fresh"] (ae fH):=by walk_at "s"
noncomputable abbrev cC:Stmt:=top 47
theorem fN:aI ["_law_names","_law_wire","_law_fresh","_law_found","_law_name_here"] ["_law_names","_law_wire","_law_fresh"] (ae cC):=by walk_at "s"
noncomputable abbrev cM:Stmt:=top 48
theorem cK:aI ["_law_lists","_law_wire","_law_fresh","_law_ins","_law_sums","_law_stores","_law_outs","_law_rows","_law_ends"] ["_law_lists","_law_wire","_law_fresh"] (ae cM):=by walk_at "s"
noncomputable abbrev dD:Stmt:=top 49
theorem bG:aI ["_law_net_one","_law_wire","_law_fresh","_law_found","_law_told_here","e"] ["_law_net_one","_law_wire","_law_fresh"] (ae dD):=by walk_at "s"
noncomputable abbrev s0:Stmt:=top 50
theorem dF:aI ["_law_script","_law_ins","_law_sums","_law_stores","_law_outs","_law_more","_law_lists","_law_net_one","_law_names","_law_k","_law_cell_here","_law_wire","_law_fresh","_law_due_here","_law_found","_law_told_here"] ["_law_script"] (ae s0):=by walk_at "s"
set_option genInjectivity false in
set_option genSizeOf false in
structure Ad where
 jn:Addr
 zo:FuncData
 aM:Addr
 dR:FuncData
 aL:Addr
 dQ:FuncData
 aX:Addr
 eA:FuncData
 dN:Addr
 r8:FuncData
 bj:Addr
 bZ:FuncData
 aJ:Addr
 eB:FuncData
 aG:Addr
 dP:FuncData
 aB:Addr
 dk:FuncData
 bS:Addr
 iy:FuncData
 bT:Addr
 iz:FuncData
 b6:Addr
 jp:FuncData
 bR:Addr
 iw:FuncData
 bz:Addr
 ge:FuncData
 iu:Addr
 Bk:FuncData
 dM:Addr
 r6:FuncData
 bq:Addr
 gW:FuncData
 bp:Addr
 gU:FuncData
 bo:Addr
 gT:FuncData
 aU:Addr
 fo:FuncData
 bc:Addr
 gf:FuncData
 cv:Addr
 nM:FuncData
 aS:Addr
 fk:FuncData
 bA:Addr
 iC:FuncData
 dL:Addr
 rZ:FuncData
 xn:Addr
 MP:FuncData
 cB:Addr
 la:FuncData
 c8:Addr
 nK:FuncData
 ci:Addr
 iA:FuncData
 b7:Addr
 jq:FuncData
 c7:Addr
 nJ:FuncData
 bU:Addr
 iB:FuncData
 bI:Addr
 gR:FuncData
 c9:Addr
 nL:FuncData
 bJ:Addr
 gS:FuncData
 cA:Addr
 k8:FuncData
 b8:Addr
 jr:FuncData
 ze:Addr
 MO:FuncData
 bB:Addr
 ay:Addr
 au:Addr
 am:Addr
 bt:Addr
 aA:Addr
 aw:Addr
 aj:Addr
 ai:Addr
 ao:Addr
 iZ:Tok
 pV:Tok
 gI:Tok
 mK:Tok
 kl:Tok
 ig:Tok
 kj:Tok
 iY:Tok
 iX:Tok
open PySem.W in
structure Tx (K:Frag) (mg:Str→Option Value) (a:Ad):Prop where
 vI:Fun K "kept" "kept" jX a.jn a.zo
 rJ:keepIn K (.ref a.jn)=true
 mz:bM K a.zo ["thing","depth"] []
 rQ:mg "kept"=some (.ref a.jn)
 cJ:Fun K "__init__" "BadName.__init__" bP a.aM a.dR
 Cg:keepIn K (.ref a.aM)=true
 dX:bM K a.dR ["self","name"] []
 cI:Fun K "__init__" "Doubled.__init__" bO a.aL a.dQ
 Cf:keepIn K (.ref a.aL)=true
 dW:bM K a.dQ ["self","name"] []
 de:Fun K "__init__" "NoWire.__init__" bW a.aX a.eA
 EB:keepIn K (.ref a.aX)=true
 eE:bM K a.eA ["self","name"] []
 mI:Fun K "is_name" "is_name" fQ a.dN a.r8
 rK:keepIn K (.ref a.dN)=true
 jB:bM K a.r8 ["thing"] []
 rR:mg "is_name"=some (.ref a.dN)
 dZ:Fun K "__init__" "Wire.__init__" cq a.bj a.bZ
 Hn:keepIn K (.ref a.bj)=true
 cQ:bM K a.bZ ["self","name"] []
 dh:Fun K "__init__" "InWire.__init__" bX a.aJ a.eB
 EC:keepIn K (.ref a.aJ)=true
 eF:bM K a.eB ["self","name","number"] []
 cH:Fun K "__init__" "SumWire.__init__" bN a.aG a.dP
 Ce:keepIn K (.ref a.aG)=true
 dS:bM K a.dP ["self","name","wires"] []
 cn:Fun K "__init__" "StoreWire.__init__" bC a.aB a.dk
 zV:keepIn K (.ref a.aB)=true
 dm:bM K a.dk ["self","name","wire","number"] []
 fB:Fun K "check_sizes" "check_sizes" cz a.bS a.iy
 w9:keepIn K (.ref a.bS)=true
 iE:bM K a.iy ["ins","sums","stores","outs"] []
 xi:mg "check_sizes"=some (.ref a.bS)
 fC:Fun K "check_names" "check_names" cV a.bT a.iz
 xa:keepIn K (.ref a.bT)=true
 iF:bM K a.iz ["names"] []
 xj:mg "check_names"=some (.ref a.bT)
 gF:Fun K "check_wire" "check_wire" dC a.b6 a.jp
 gA:keepIn K (.ref a.b6)=true
 dE:bM K a.jp ["wire","known"] []
 gC:mg "check_wire"=some (.ref a.b6)
 fA:Fun K "check_wires" "check_wires" cU a.bR a.iw
 w8:keepIn K (.ref a.bR)=true
 iD:bM K a.iw ["sums","stores","outs","known"] []
 xh:mg "check_wires"=some (.ref a.bR)
 dY:Fun K "wires_by_name" "wires_by_name" bh a.bz a.ge
 rG:keepIn K (.ref a.bz)=true
 gl:bM K a.ge ["ins","sums","stores"] []
 rO:mg "wires_by_name"=some (.ref a.bz)
 xV:Fun K "waits" "waits" kz a.iu a.Bk
 Hl:keepIn K (.ref a.iu)=true
 xG:bM K a.Bk ["row","waiting"] []
 HF:mg "waits"=some (.ref a.iu)
 mH:Fun K "ordered" "ordered" eQ a.dM a.r6
 Hm:keepIn K (.ref a.dM)=true
 sD:bM K a.r6 ["sums"] []
 HG:mg "ordered"=some (.ref a.dM)
 eP:Fun K "__init__" "Net.__init__" bw a.bq a.gW
 Jk:keepIn K (.ref a.bq)=true
 eK:bM K a.gW ["self","ins","sums","stores","outs"] []
 eO:Fun K "in_names" "Net.in_names" cE a.bp a.gU
 Jj:keepIn K (.ref a.bp)=true
 eJ:bM K a.gU ["self"] []
 eN:Fun K "sum_rows" "Net.sum_rows" cD a.bo a.gT
 Ji:keepIn K (.ref a.bo)=true
 eI:bM K a.gT ["self"] []
 dy:Fun K "store_rows" "Net.store_rows" b4 a.aU a.fo
 FR:keepIn K (.ref a.aU)=true
 du:bM K a.fo ["self"] []
 d0:Fun K "out_wires" "Net.out_wires" cr a.bc a.gf
 Ho:keepIn K (.ref a.bc)=true
 dU:bM K a.gf ["self"] []
 jP:Fun K "told" "Net.told" fJ a.cv a.nM
 M9:keepIn K (.ref a.cv)=true
 jL:bM K a.nM ["self"] []
 dw:Fun K "wire_names" "Net.wire_names" b3 a.aS a.fk
 FQ:keepIn K (.ref a.aS)=true
 fq:bM K a.fk ["self"] []
 fE:Fun K "wire_of" "Net.wire_of" cZ a.bA a.iC
 Kj:keepIn K (.ref a.bA)=true
 iH:bM K a.iC ["self","name"] []
 mG:Fun K "put_for" "put_for" fP a.dL a.rZ
 rH:keepIn K (.ref a.dL)=true
 jA:bM K a.rZ ["wires","wire","fresh"] []
 rP:mg "put_for"=some (.ref a.dL)
 KO:Fun K "cut" "cut" s_cut a.xn a.MP
 Qh:keepIn K (.ref a.xn)=true
 MS:bM K a.MP ["net","wire","fresh"] []
 Qi:mg "cut"=some (.ref a.xn)
 iJ:Fun K "_law_cell" "_law_cell" d5 a.cB a.la
 ip:keepIn K (.ref a.cB)=true
 eC:bM K a.la ["_law_script","_law_k"] []
 iq:mg "_law_cell"=some (.ref a.cB)
 jN:Fun K "_law_mix" "_law_mix" fG a.c8 a.nK
 aV:keepIn K (.ref a.c8)=true
 aK:bM K a.nK ["_law_cell_here","_law_k"] []
 aW:mg "_law_mix"=some (.ref a.c8)
 gq:Fun K "_law_name" "_law_name" d4 a.ci a.iA
 em:keepIn K (.ref a.ci)=true
 cP:bM K a.iA ["_law_cell_here","_law_k"] []
 eo:mg "_law_name"=some (.ref a.ci)
 gG:Fun K "_law_wires" "_law_wires" cL a.b7 a.jq
 yV:keepIn K (.ref a.b7)=true
 jC:bM K a.jq ["_law_cell_here","_law_start","_law_names","_law_digits"] []
 y1:mg "_law_wires"=some (.ref a.b7)
 jM:Fun K "_law_net" "_law_net" cW a.c7 a.nJ
 Ez:keepIn K (.ref a.c7)=true
 nS:bM K a.nJ ["_law_script","_law_start","_law_most"] []
 ET:mg "_law_net"=some (.ref a.c7)
 fD:Fun K "_law_called" "_law_called" cX a.bU a.iB
 xc:keepIn K (.ref a.bU)=true
 iG:bM K a.iB ["_law_cell_here","_law_names"] []
 xk:mg "_law_called"=some (.ref a.bU)
 eL:Fun K "_law_is_name" "_law_is_name" b9 a.bI a.gR
 uz:keepIn K (.ref a.bI)=true
 gX:bM K a.gR ["_law_word"] []
 uA:mg "_law_is_name"=some (.ref a.bI)
 jO:Fun K "_law_due" "_law_due" fH a.c9 a.nL
 EA:keepIn K (.ref a.c9)=true
 nT:bM K a.nL ["_law_names","_law_many","_law_wire","_law_fresh"] []
 EU:mg "_law_due"=some (.ref a.c9)
 eM:Fun K "_law_instead" "_law_instead" cC a.bJ a.gS
 gP:keepIn K (.ref a.bJ)=true
 dr:bM K a.gS ["_law_names","_law_wire","_law_fresh"] []
 gQ:mg "_law_instead"=some (.ref a.bJ)
 iI:Fun K "_law_told" "_law_told" cM a.cA a.k8
 A3:keepIn K (.ref a.cA)=true
 lu:bM K a.k8 ["_law_lists","_law_wire","_law_fresh"] []
 A6:mg "_law_told"=some (.ref a.cA)
 gH:Fun K "_law_asked" "_law_asked" dD a.b8 a.jr
 yW:keepIn K (.ref a.b8)=true
 jD:bM K a.jr ["_law_net_one","_law_wire","_law_fresh"] []
 y2:mg "_law_asked"=some (.ref a.b8)
 KN:Fun K "law" "law" s0 a.ze a.MO
 Qv:keepIn K (.ref a.ze)=true
 Pb:bM K a.MO ["_law_script"] []
 Qw:mg "law"=some (.ref a.ze)
 HH:mg "Wire"=some (.ref a.bB)
 Qu:Cls K a.bB
 Qt:IL K a.bB
 IU:aq K a.bB "by_name"
 M5:aq K a.bB "ins"
 B2:aq K a.bB "kept_stores"
 Mz:aq K a.bB "name"
 JY:aq K a.bB "number"
 Mx:aq K a.bB "outs"
 Mw:aq K a.bB "ring"
 FH:aq K a.bB "sum_order"
 Mu:aq K a.bB "sums"
 Mt:aq K a.bB "wire"
 Ld:aq K a.bB "wires"
 Kq:mg "InWire"=some (.ref a.ay)
 xW:Cls K a.ay
 Pr:IL K a.ay
 KL:Mk K a.ay a.aJ
 FN:aq K a.ay "by_name"
 Lg:aq K a.ay "ins"
 zU:aq K a.ay "kept_stores"
 l8:aq K a.ay "name"
 qY:aq K a.ay "number"
 Kd:aq K a.ay "outs"
 Kc:aq K a.ay "ring"
 B5:aq K a.ay "sum_order"
 Kb:aq K a.ay "sums"
 Ka:aq K a.ay "wire"
 I0:aq K a.ay "wires"
 HI:mg "SumWire"=some (.ref a.au)
 sQ:Cls K a.au
 Pp:IL K a.au
 IK:Mk K a.au a.aG
 Ef:aq K a.au "by_name"
 JZ:aq K a.au "ins"
 yJ:aq K a.au "kept_stores"
 j6:aq K a.au "name"
 FI:aq K a.au "number"
 IY:aq K a.au "outs"
 IX:aq K a.au "ring"
 AI:aq K a.au "sum_order"
 IW:aq K a.au "sums"
 IV:aq K a.au "wire"
 qV:aq K a.au "wires"
 A8:mg "StoreWire"=some (.ref a.am)
 iK:Cls K a.am
 MX:IL K a.am
 BQ:Mk K a.am a.aB
 AJ:aq K a.am "by_name"
 G4:aq K a.am "ins"
 wN:aq K a.am "kept_stores"
 iQ:aq K a.am "name"
 l6:aq K a.am "number"
 FL:aq K a.am "outs"
 FK:aq K a.am "ring"
 yK:aq K a.am "sum_order"
 FJ:aq K a.am "sums"
 pc:aq K a.am "wire"
 Eg:aq K a.am "wires"
 OU:mg "Net"=some (.ref a.bt)
 dn:Cls K a.bt
 Qy:IL K a.bt
 Pn:Mk K a.bt a.bq
 ka:Meth K a.bt "in_names" a.bp
 j9:Meth K a.bt "sum_rows" a.bo
 iR:Meth K a.bt "store_rows" a.aU
 jj:Meth K a.bt "out_wires" a.bc
 vp:Meth K a.bt "told" a.cv
 pd:Meth K a.bt "wire_names" a.aS
 wQ:Meth K a.bt "wire_of" a.bA
 dJ:aq K a.bt "by_name"
 qX:aq K a.bt "ins"
 c6:aq K a.bt "kept_stores"
 M8:aq K a.bt "name"
 Lf:aq K a.bt "number"
 nj:aq K a.bt "outs"
 M7:aq K a.bt "ring"
 qW:aq K a.bt "sum_order"
 h7:aq K a.bt "sums"
 M6:aq K a.bt "wire"
 MA:aq K a.bt "wires"
 bZ:Lx K a.bB "__init__" a.bj
 ir:mg "WireError"=some (.ref a.aA)
 ki:Pj K a.aA
 y3:mg "TooMany"=some (.ref a.aw)
 iW:excIn K a.aw [.type "ValueError",.type "Exception",.type "BaseException",.type "object"] "ValueError.__new__"=true
 IM:XIsi K a.aw
 OP:keepIn K (.ref a.aw)=true
 eW:mroIn K a.aw (.ref a.ao)=some false
 d8:mroIn K a.aw (.ref a.aj)=some false
 d7:mroIn K a.aw (.ref a.ai)=some false
 d6:mroIn K a.aw (.ref a.aw)=some true
 dA:kitOne K (.ref a.aw) (.ref a.aA)=some true
 HC:nZ K a.aw
 y9:mg "BadName"=some (.ref a.aj)
 HE:nZ K a.aj
 sN:XOwn K a.aj a.aA a.aM
 IO:XIsi K a.aj
 nG:hasDictIn K a.aj=true
 eZ:mroIn K a.aj (.ref a.ao)=some false
 eg:mroIn K a.aj (.ref a.aj)=some true
 hG:mroIn K a.aj (.ref a.ai)=some false
 g9:mroIn K a.aj (.ref a.aw)=some false
 Ei:aq K a.aj "by_name"
 Kf:aq K a.aj "ins"
 yM:aq K a.aj "kept_stores"
 j8:aq K a.aj "name"
 FP:aq K a.aj "number"
 Jh:aq K a.aj "outs"
 Jg:aq K a.aj "ring"
 AL:aq K a.aj "sum_order"
 Jf:aq K a.aj "sums"
 Je:aq K a.aj "wire"
 G7:aq K a.aj "wires"
 gd:kitOne K (.ref a.aj) (.ref a.aA)=some true
 zX:kitOne K (.ref a.aj) (.type "ValueError")=some true
 y8:mg "Doubled"=some (.ref a.ai)
 HD:nZ K a.ai
 sM:XOwn K a.ai a.aA a.aL
 IN:XIsi K a.ai
 nF:hasDictIn K a.ai=true
 eX:mroIn K a.ai (.ref a.ao)=some false
 ee:mroIn K a.ai (.ref a.aj)=some false
 d9:mroIn K a.ai (.ref a.ai)=some true
 g8:mroIn K a.ai (.ref a.aw)=some false
 Eh:aq K a.ai "by_name"
 Ke:aq K a.ai "ins"
 yL:aq K a.ai "kept_stores"
 j7:aq K a.ai "name"
 FO:aq K a.ai "number"
 Jd:aq K a.ai "outs"
 Jc:aq K a.ai "ring"
 AK:aq K a.ai "sum_order"
 Jb:aq K a.ai "sums"
 Ja:aq K a.ai "wire"
 G6:aq K a.ai "wires"
 gc:kitOne K (.ref a.ai) (.ref a.aA)=some true
 zW:kitOne K (.ref a.ai) (.type "ValueError")=some true
 Ci:mg "NoWire"=some (.ref a.ao)
 Kn:nZ K a.ao
 xP:XOwn K a.ao a.aA a.aX
 KM:XIsi K a.ao
 rM:hasDictIn K a.ao=true
 fS:mroIn K a.ao (.ref a.ao)=some true
 iO:mroIn K a.ao (.ref a.aj)=some false
 iN:mroIn K a.ao (.ref a.ai)=some false
 iM:mroIn K a.ao (.ref a.aw)=some false
 FM:aq K a.ao "by_name"
 Le:aq K a.ao "ins"
 zT:aq K a.ao "kept_stores"
 l7:aq K a.ao "name"
 G5:aq K a.ao "number"
 J9:aq K a.ao "outs"
 J8:aq K a.ao "ring"
 B3:aq K a.ao "sum_order"
 J7:aq K a.ao "sums"
 J0:aq K a.ao "wire"
 IZ:aq K a.ao "wires"
 gB:kitOne K (.ref a.ao) (.ref a.aA)=some true
 A5:kitOne K (.ref a.ao) (.type "ValueError")=some true
 jl:mg "KEPT_DEPTH"=some (.int 12 a.iZ)
 HJ:mg "LETTERS"=some (.str "abcdefghijklmnopqrstuvwxyz" a.pV)
 uB:mg "LONGEST_NAME"=some (.int 6 a.gI)
 EV:mg "MOST_INS"=some (.int 6 a.mK)
 Ba:mg "MOST_OUTS"=some (.int 6 a.kl)
 xl:mg "MOST_STORES"=some (.int 16 a.ig)
 A9:mg "MOST_SUMS"=some (.int 40 a.kj)
 y6:mg "MOST_WIRES"=some (.int 24 a.iY)
 y4:mg "NAME_SIGNS"=some (.str "abcdefghijklmnopqrstuvwxyz0123456789" a.iX)
 Qd:mg "all"=none
 OF:mg "any"=none
 B0:mg "dict"=none
 io:mg "enumerate"=none
 b5:mg "isinstance"=none
 fZ:mg "len"=none
 j5:mg "list"=none
 Qc:mg "min"=none
 kS:mg "range"=none
 Ee:mg "reversed"=none
 G3:mg "str"=none
 eh:mg "tuple"=none
section
variable {P:Program} {w:World} {K:PySem.W.Frag} {mg:Str→Option Value} {base:Heap} {a:Ad}
theorem mX (T:Tx K mg a):FnOk P w K mg base CX0 1 a.dN a.r8 ["thing"] (Gb K):=by
 refine T.mI.ok DB (fun vs H Q E h=>?_) (fun cdv A outer s H vs Q E hr h=>?_)
 ·obtain ⟨x,k,rfl,_⟩:=h;rfl
 ·obtain ⟨x,k,rfl,hk,hz,q⟩:=h
  have q0:=q H (Same.refl H)
  refine ⟨_,((af (cw (PW.pt (vY (jY (eS (aD (eU (K:=K) rfl) (by rfl) T.b5 PyProof.Rows.boot_isinstance (aa (pv 0) (aa (i6 (v:= .ty "str") (by rfl) T.G3 PyProof.Rows.boot_str rfl) ad))))) (vY (aZ mW (pv 0) bE (bx _)) (ym (aZ qr (aD (be (K:=K) rfl) (by rfl) T.fZ PySem.boot_len (aa (pv 0) ad)) (ff (v:= .int 6) (by rfl) T.uB ⟨_,rfl⟩) (bx _)))))) (al (a9 An)) aR)
   (al (a9 (Os (kE yw (cu Ch (pv 0) ak (fun _ _=>rfl)) (ff (v:= .str "abcdefghijklmnopqrstuvwxyz") (by rfl) T.HJ ⟨_,rfl⟩) (by rfl)) (Oo (aD (Il (K:=K) rfl rfl) (by rfl) T.Qd PyProof.Rows.boot_all (aa (b2 (osc:=ae fQ) (ON:=["thing"]) (N:=["sign"]) (n:=1) (fx:=[]) rfl rfl rfl (by decide +kernel) (K9 (pv 0)) (a0 (by decide)) (fun _ _ _ _ _=>⟨(az (i:=0) (show List.Nodup (["sign"]:List Str) from by decide +kernel) rfl (by walk_at "o")),bF,(kE yw (pv 0) (ff (v:= .str "abcdefghijklmnopqrstuvwxyz0123456789") (by rfl) T.y4 ⟨_,rfl⟩) (by rfl))⟩)) ad)))))))),aP (σ':=[some _]) rfl ?_⟩
  walk_at "l2"
  cases x with
  | int i=>have hk:k="int":=hk;subst hk;walk_at "l2";exact q0
  | bl b=>have hk:k="bool":=hk;subst hk;walk_at "l2";exact q0
  | non=>have hk:k="NoneType":=hk;subst hk;walk_at "l2";exact q0
  | ref p=>rcases hk with ⟨rfl,_⟩ | ⟨rfl,_⟩ | ⟨rfl,_⟩<;>walk_at "l2"<;>exact q0
  | str z=>
    have hk:k="str":=hk
    subst hk
    have hz:=hz z rfl
    have hs:z.length≤sizeLine:=Nat.le_of_lt (bg hz)
    have q:∀ H',Same H H'→Q (.bl (nm z.cps.toList)) H':=q
    have q0:=q H (Same.refl H)
    walk_at "l2"
    by_cases h1:z=""
    ·rw [F8.mp h1] at q0
     refine gK (by rw [decide_eq_true];rw [h1]) ?_
     walk_at "l2"
     exact q0
    ·refine eR (by rw [decide_eq_false];exact fun z=>h1 (V.str.inj z)) ?_
     walk_at "l2"
     obtain ⟨c,r,hcr⟩:∃ c r,z.cps.toList=c::r:=by
      cases hl:z.cps.toList with
      | nil=>exact absurd (F8.mpr hl) h1
      | cons c r=>exact ⟨c,r,rfl⟩
     have hlen:=wR z
     rw [hcr] at q0 hlen
     have q:∀ H',Same H H'→Q (.bl (decide ((c::r).length≤6)&&low c&&(c::r).all fun c=>low c||fig c)) H':=fun H' s=>by have:=q H' s;rw [hcr] at this;exact this
     by_cases h2:(6:Int) < z.length
     ·refine gK (decide_eq_true h2) ?_
      walk_at "l2"
      have:=q H (Same.refl H)
      rw [decide_eq_false (show ¬ (c::r).length≤6 by omega)] at this
      exact this
     ·refine eR (decide_eq_false h2) ?_
      rw [decide_eq_true (show (c::r).length≤6 by omega)] at q
      walk_at "l2"
      refine JD hs (c:=c) (by rw [hcr];exact bv (j:=0) rfl) ?_
      walk_at "l2"
      rw [StrLaws.found_one,memL]
      cases hlo:low c
      ·rw [hlo] at q
       walk_at "l2"
       exact q H (Same.refl H)
      ·rw [hlo] at q
       walk_at "l2"
       intro D f
       refine Cr (Cs (fun i ys=>ys=(((c::r).take i).map fun c=>low c||fig c).map V.bl) H D) (Cs.zero f rfl) (fun i d ys H' hd ⟨e,s,at',len⟩=>?_) (fun ys H' ⟨e,s,at',len⟩=>?_)
       ·have hi:i < z.cps.size:=(Array.getElem?_eq_some_iff.mp hd).1
        have hd':(c::r)[i]? =some d:=by rw [← hcr];simpa using hd
        walk_at "l2"
        rw [StrLaws.found_one,memN]
        refine Cs.put f s at' len (by have:z.cps.size=z.length:=rfl;omega) ?_
        rw [e,List.take_succ,hd',List.map_append,List.map_append];rfl
       ·have hsz:z.cps.size=(c::r).length:=hlen.symm
        rw [hsz,List.take_length] at e
        refine N5 (SqL.of (by rw [at',e])) ?_
        have:=q H' s
        rw [List.all_map]
        exact this
  | _=>exact False.elim hk
theorem fi (T:Tx K mg a):FnOk P w K mg base CX0 1 a.bj a.bZ ["self","name"] (Jx K):=by
 refine T.dZ.ok oJ (fun vs H Q E h=>?_) (fun cdv A outer s H vs Q E hr h=>?_)
 ·obtain ⟨x,C,dx,nm,rfl,_⟩:=h;rfl
 ·obtain ⟨x,C,dx,nm,rfl,hc,hn,hx,q⟩:=h
  refine ⟨_,((al (fT (K:=K) rfl (pv 0) (pv 1) rfl))),aP (σ':=[some _,some _]) rfl ?_⟩
  walk_at "l2"
  exact fO hx hc hn (by decide) rfl q
theorem lT (T:Tx K mg a):FnOk P w K mg base CX0 2 a.aJ a.eB ["self","name","number"] (Jw a.ay):=by
 have cS:=@fi P w K mg base a T
 refine T.dh.ok lI (fun vs H Q E h=>?_) (fun cdv A outer s H vs Q E hr h=>?_)
 ·obtain ⟨x,dx,nm,k,rfl,_⟩:=h;rfl
 ·obtain ⟨x,dx,nm,k,rfl,hx,q⟩:=h
  refine ⟨_,((af (bY (ql (by rfl) T.HH T.bZ cS (hr.mono (by decide)) T.cQ .nil aQ (aa (pv 0) (aa (pv 1) ad))))
   (al (fT (K:=K) rfl (pv 0) (pv 2) rfl)))),aP (σ':=[some _,some _,some _]) rfl ?_⟩
  walk_at "l2"
  refine ⟨x,_,dx,nm,rfl,T.xW,T.l8,hx,fun H2 u=>?_⟩
  walk_at "l2"
  exact fO u.at' T.xW T.qY (by show 1 < 1000;decide) rfl fun H3 u3=>q H3 (u.trans u3)
theorem i9 (T:Tx K mg a):FnOk P w K mg base CX0 2 a.aB a.dk ["self","name","wire","number"] (Jv a.am):=by
 have cS:=@fi P w K mg base a T
 refine T.cn.ok i3 (fun vs H Q E h=>?_) (fun cdv A outer s H vs Q E hr h=>?_)
 ·obtain ⟨x,dx,nm,w,k,rfl,_⟩:=h;rfl
 ·obtain ⟨x,dx,nm,wr,k,rfl,hx,q⟩:=h
  refine ⟨_,((af (bY (ql (by rfl) T.HH T.bZ cS (hr.mono (by decide)) T.cQ .nil aQ (aa (pv 0) (aa (pv 1) ad))))
   (af (fT (K:=K) rfl (pv 0) (pv 2) rfl)
   (al (fT (K:=K) rfl (pv 0) (pv 3) rfl))))),aP (σ':=[some _,some _,some _,some _]) rfl ?_⟩
  walk_at "l2"
  refine ⟨x,_,dx,nm,rfl,T.iK,T.iQ,hx,fun H2 u=>?_⟩
  walk_at "l2"
  refine fO u.at' T.iK T.pc (by show 1 < 1000;decide) rfl fun H3 u3=>?_
  walk_at "l2"
  exact fO u3.at' T.iK T.l6 (by show 2 < 1000;decide) rfl fun H4 u4=>q H4 ((u.trans u3).trans u4)
theorem kF (T:Tx K mg a):FnOk P w K mg base CX0 2 a.aG a.dP ["self","name","wires"] (Gj K a.au):=by
 have cS:=@fi P w K mg base a T
 refine T.cH.ok kt (fun vs H Q E h=>?_) (fun cdv A outer s H vs Q E hr h=>?_)
 ·obtain ⟨x,dx,nm,tw,ws,rfl,_⟩:=h;rfl
 ·obtain ⟨x,dx,nm,tw,ws,rfl,hw,hx,q⟩:=h
  have hne:tw≠x:=fj hw hx fun z=>by cases z
  refine ⟨_,((af (bY (ql (by rfl) T.HH T.bZ cS (hr.mono (by decide)) T.cQ .nil aQ (aa (pv 0) (aa (pv 1) ad))))
   (al (fT (K:=K) rfl (pv 0) (bb (b0 (K:=K) rfl) (by rfl) T.eh PyProof.Rows.boot_tuple (aa (pv 2) ad)) rfl)))),aP (σ':=[some _,some _,some _]) rfl ?_⟩
  walk_at "l2"
  refine ⟨x,_,dx,nm,rfl,T.sQ,T.j6,hx,fun H2 u=>?_⟩
  have hw2:=u.oth _ _ hne hw
  walk_at "l2"
  exact fO u.at' T.sQ T.qV (by show 1 < 1000;decide) rfl fun H4 u4=>q H4 (u.trans u4)
end
section
variable {P:Program} {w:World} {K:PySem.W.Frag} {mg:Str→Option Value} {base:Heap} {a:Ad}
local macro_rules | `(tactic| walk_at "l2step") =>`(tactic| first | ((with_reducible refine' c_whole ?e ?_);(case e=>walk_at "l2kind")) | ((with_reducible refine' c_mask ?e ?_);(case e=>walk_at "l2kind")) | (with_reducible refine cG ?_) | (with_reducible refine d3 ?_))
local macro_rules | `(tactic| walk_at "l2step") =>`(tactic| first | (with_reducible refine vU ?_) | (with_reducible refine Gu ?_) | (with_reducible refine Gz ?_) | (with_reducible refine Gv ?_) | (with_reducible refine Ac ?_) | (with_reducible refine s_try ?_))
local macro_rules | `(tactic| walk_at "l2step") =>`(tactic| first | (with_reducible refine BX ?_))
theorem JU (T:Tx K mg a):FnOk P w K mg base CX0 1 a.jn a.zo ["thing","depth"] PB:=by
 refine T.vI.ok z9 (fun vs H Q E h=>?_) (fun cdv A outer s H vs Q E hr h=>?_)
 ·exact False.elim h
 ·exact False.elim h
theorem JT (T:Tx K mg a):FnOk P w K mg base CX0 2 a.jn a.zo ["thing","depth"] Gi:=by
 have jF:=@JU P w K mg base a T
 refine T.vI.ok z9 (fun vs H Q E h=>?_) (fun cdv A outer s H vs Q E hr h=>?_)
 ·obtain ⟨v,k,d,rfl,_⟩:=h;rfl
 ·obtain ⟨v,k,d,rfl,sv,q⟩:=h
  refine ⟨_,((af (cw (aZ mW (pv 1) ak (bx _)) (al (a9 (pv 0))) aR)
   (af (cw (eS (aD (eU (K:=K) rfl) (by rfl) T.b5 PyProof.Rows.boot_isinstance (aa (pv 0) (aa (i6 (v:= .ty "list") (by rfl) T.j5 PyProof.Rows.boot_list rfl) ad)))) (al (a9 (b2 (osc:=ae jX) (ON:=["thing","depth"]) (N:=["part","depth"]) (n:=1) (fx:=[1]) rfl rfl rfl (by decide +kernel) (mT (K:=K) rfl (pv 0)) (a0 (by decide)) (fun _ _ _ _ _=>⟨(az (i:=0) (show List.Nodup (["part","depth"]:List Str) from by decide +kernel) rfl (by walk_at "o")),bF,(ax jF (hr.mono (by decide)) (by rfl) T.rQ T.rJ T.mz .nil aQ (aa (pv 0) (aa (aC vn (pv 1) ak) ad)))⟩)))) aR)
   (af (cw (eS (aD (eU (K:=K) rfl) (by rfl) T.b5 PyProof.Rows.boot_isinstance (aa (pv 0) (aa (i6 (v:= .ty "tuple") (by rfl) T.eh PyProof.Rows.boot_tuple rfl) ad)))) (al (a9 (bb (b0 (K:=K) rfl) (by rfl) T.eh PyProof.Rows.boot_tuple (aa (b2 (osc:=ae jX) (ON:=["thing","depth"]) (N:=["part","depth"]) (n:=1) (fx:=[1]) rfl rfl rfl (by decide +kernel) (mT (K:=K) rfl (pv 0)) (a0 (by decide)) (fun _ _ _ _ _=>⟨(az (i:=0) (show List.Nodup (["part","depth"]:List Str) from by decide +kernel) rfl (by walk_at "o")),bF,(ax jF (hr.mono (by decide)) (by rfl) T.rQ T.rJ T.mz .nil aQ (aa (pv 0) (aa (aC vn (pv 1) ak) ad)))⟩)) ad)))) aR)
   (af (cw (eS (aD (eU (K:=K) rfl) (by rfl) T.b5 PyProof.Rows.boot_isinstance (aa (pv 0) (aa (i6 (v:= .ty "dict") (by rfl) T.B0 PyProof.Rows.boot_dict rfl) ad)))) (al ii) aR)
   (al (a9 (pv 0)))))))),aP (σ':=[some _,some _]) rfl ?_⟩
  walk_at "l2"
  by_cases hd:d=0
  ·refine gK (decide_eq_true (by rw [hd])) ?_
   walk_at "l2"
   exact q
  ·refine eR (decide_eq_false fun z=>hd (V.int.inj z)) ?_
   cases sv<;>(walk_at "l2";exact q)
theorem Ao (T:Tx K mg a):FnOk P w K mg base CX0 3 a.jn a.zo ["thing","depth"] Gh:=by
 have jF:=@JT P w K mg base a T
 refine T.vI.ok z9 (fun vs H Q E h=>?_) (fun cdv A outer s H vs Q E hr h=>?_)
 ·obtain ⟨v,k,rfl,_⟩:=h;rfl
 ·obtain ⟨v,k,rfl,th,q⟩:=h
  refine ⟨_,((af (cw (aZ mW (pv 1) ak (bx _)) (al (a9 (pv 0))) aR)
   (af (cw (eS (aD (eU (K:=K) rfl) (by rfl) T.b5 PyProof.Rows.boot_isinstance (aa (pv 0) (aa (i6 (v:= .ty "list") (by rfl) T.j5 PyProof.Rows.boot_list rfl) ad)))) (al (a9 (b2 (osc:=ae jX) (ON:=["thing","depth"]) (N:=["part","depth"]) (n:=1) (fx:=[1]) rfl rfl rfl (by decide +kernel) (mT (K:=K) rfl (pv 0)) (a0 (by decide)) (fun _ _ _ _ _=>⟨(az (i:=0) (show List.Nodup (["part","depth"]:List Str) from by decide +kernel) rfl (by walk_at "o")),bF,(ax jF (hr.mono (by decide)) (by rfl) T.rQ T.rJ T.mz .nil aQ (aa (pv 0) (aa (aC vn (pv 1) ak) ad)))⟩)))) aR)
   (af (cw (eS (aD (eU (K:=K) rfl) (by rfl) T.b5 PyProof.Rows.boot_isinstance (aa (pv 0) (aa (i6 (v:= .ty "tuple") (by rfl) T.eh PyProof.Rows.boot_tuple rfl) ad)))) (al (a9 (bb (b0 (K:=K) rfl) (by rfl) T.eh PyProof.Rows.boot_tuple (aa (b2 (osc:=ae jX) (ON:=["thing","depth"]) (N:=["part","depth"]) (n:=1) (fx:=[1]) rfl rfl rfl (by decide +kernel) (mT (K:=K) rfl (pv 0)) (a0 (by decide)) (fun _ _ _ _ _=>⟨(az (i:=0) (show List.Nodup (["part","depth"]:List Str) from by decide +kernel) rfl (by walk_at "o")),bF,(ax jF (hr.mono (by decide)) (by rfl) T.rQ T.rJ T.mz .nil aQ (aa (pv 0) (aa (aC vn (pv 1) ak) ad)))⟩)) ad)))) aR)
   (af (cw (eS (aD (eU (K:=K) rfl) (by rfl) T.b5 PyProof.Rows.boot_isinstance (aa (pv 0) (aa (i6 (v:= .ty "dict") (by rfl) T.B0 PyProof.Rows.boot_dict rfl) ad)))) (al ii) aR)
   (al (a9 (pv 0)))))))),aP (σ':=[some _,some _]) rfl ?_⟩
  cases th with
  | sc sv=>
    cases sv with
    | str z l=>walk_at "l2";exact q _ H (Same.refl _) (.sc (.str z l))
    | int i=>walk_at "l2";exact q _ H (Same.refl _) (.sc (.int i))
    | bl b=>walk_at "l2";exact q _ H (Same.refl _) (.sc (.bl b))
    | non=>walk_at "l2";exact q _ H (Same.refl _) (.sc .non)
  | nil e=>
    walk_at "l2"
    refine .inl ⟨⟨_,SqL.of e⟩,fun D hD=>?_⟩
    refine bL (xs:=[]) (fun i ys H'=>Cs (fun i ys=>ys=[]) H D i ys H') (Cs.zero hD rfl) (fun i ys H' _ c=>SqL.of (c.same.get e)) (fun i v ys H' hv c=>by simp at hv) (fun ys H' c=>?_)
    have e2:=c.at'
    rw [c.pv] at e2
    walk_at "l2"
    exact q _ H' c.same (.nil e e2)
  | one l e=>
    rename_i p z
    walk_at "l2"
    refine .inr ⟨⟨_,SqT.of e⟩,fun D hD=>?_⟩
    refine pS (xs:=[.str z]) (fun i ys H'=>Cs (fun i ys=>ys=([V.str z]).take i) H D i ys H') (Cs.zero hD rfl) (fun i ys H' _ c=>SqT.of (c.same.get e)) (fun i v ys H' hv c=>?_) (fun ys H' c=>?_)
    ·have hi:i=0:=by
      have:=(List.getElem?_eq_some_iff.mp hv).1
      simp only [List.length_cons,List.length_nil] at this;omega
     subst hi
     cases hv
     walk_at "l2"
     refine ⟨.str z,"str",_,rfl,.str z l,?_⟩
     refine Cs.put hD c.same c.at' c.len (by omega) ?_
     rw [c.pv];rfl
    ·have e2:=c.at'
     rw [c.pv] at e2
     have e2:H' D=some (.lst [.str z]):=e2
     have s2:=c.same
     clear c
     walk_at "l2"
     intro t3 H3 f3 s3 e3
     walk_at "l2"
     exact q _ H3 (s2.trans s3) (.one e e3)
theorem lS (T:Tx K mg a):FnOk P w K mg base CX0 4 a.aX a.eA ["self","name"] (g7 a.ao):=by
 have jF:=@Ao P w K mg base a T
 refine T.de.ok lH (fun vs H Q E h=>?_) (fun cdv A outer s H vs Q E hr h=>?_)
 ·obtain ⟨p,v,k,rfl,_⟩:=h;rfl
 ·obtain ⟨p,v,k,rfl,sv,e,q⟩:=h
  refine ⟨_,((af (bY (wg (K:=K) rfl (by rfl) T.ir T.ki (aa (pv 0) (aa bE ad))))
   (al (Ag (K:=K) rfl (pv 0) (ax jF (hr.mono (by decide)) (by rfl) T.rQ T.rJ T.mz .nil aQ (aa (pv 1) (aa (ff (v:= .int 12) (by rfl) T.jl ⟨_,rfl⟩) ad))) rfl)))),aP (σ':=[some _,some _]) rfl ?_⟩
  walk_at "l2"
  refine p9 e T.xP ?_
  walk_at "l2"
  refine ⟨v,k,rfl,sv,fun v2 H1 s1 cp=>?_⟩
  have e1:=s1.get e
  walk_at "l2"
  refine vT e1 T.xP T.l7 fun H2 e2 s2=>?_
  walk_at "l2"
  refine q v2 H2 e2 (fun b u hb hu=>s2 _ _ hb (s1.get hu)) ?_
  cases cp with
  | sc h=>exact .sc h
  | nil a1 a2=>exact .nil a1 (s2 _ _ (fun z=>by rw [z,e1] at a2;cases a2) a2)
  | one a1 a2=>exact .one a1 (s2 _ _ (fun z=>by rw [z,e1] at a2;cases a2) a2)
theorem kH (T:Tx K mg a):FnOk P w K mg base CX0 4 a.aM a.dR ["self","name"] (g7 a.aj):=by
 have jF:=@Ao P w K mg base a T
 refine T.cJ.ok ky (fun vs H Q E h=>?_) (fun cdv A outer s H vs Q E hr h=>?_)
 ·obtain ⟨p,v,k,rfl,_⟩:=h;rfl
 ·obtain ⟨p,v,k,rfl,sv,e,q⟩:=h
  refine ⟨_,((af (bY (wg (K:=K) rfl (by rfl) T.ir T.ki (aa (pv 0) (aa bE ad))))
   (al (Ag (K:=K) rfl (pv 0) (ax jF (hr.mono (by decide)) (by rfl) T.rQ T.rJ T.mz .nil aQ (aa (pv 1) (aa (ff (v:= .int 12) (by rfl) T.jl ⟨_,rfl⟩) ad))) rfl)))),aP (σ':=[some _,some _]) rfl ?_⟩
  walk_at "l2"
  refine p9 e T.sN ?_
  walk_at "l2"
  refine ⟨v,k,rfl,sv,fun v2 H1 s1 cp=>?_⟩
  have e1:=s1.get e
  walk_at "l2"
  refine vT e1 T.sN T.j8 fun H2 e2 s2=>?_
  walk_at "l2"
  refine q v2 H2 e2 (fun b u hb hu=>s2 _ _ hb (s1.get hu)) ?_
  cases cp with
  | sc h=>exact .sc h
  | nil a1 a2=>exact .nil a1 (s2 _ _ (fun z=>by rw [z,e1] at a2;cases a2) a2)
  | one a1 a2=>exact .one a1 (s2 _ _ (fun z=>by rw [z,e1] at a2;cases a2) a2)
theorem kG (T:Tx K mg a):FnOk P w K mg base CX0 4 a.aL a.dQ ["self","name"] (g7 a.ai):=by
 have jF:=@Ao P w K mg base a T
 refine T.cI.ok ku (fun vs H Q E h=>?_) (fun cdv A outer s H vs Q E hr h=>?_)
 ·obtain ⟨p,v,k,rfl,_⟩:=h;rfl
 ·obtain ⟨p,v,k,rfl,sv,e,q⟩:=h
  refine ⟨_,((af (bY (wg (K:=K) rfl (by rfl) T.ir T.ki (aa (pv 0) (aa bE ad))))
   (al (Ag (K:=K) rfl (pv 0) (ax jF (hr.mono (by decide)) (by rfl) T.rQ T.rJ T.mz .nil aQ (aa (pv 1) (aa (ff (v:= .int 12) (by rfl) T.jl ⟨_,rfl⟩) ad))) rfl)))),aP (σ':=[some _,some _]) rfl ?_⟩
  walk_at "l2"
  refine p9 e T.sM ?_
  walk_at "l2"
  refine ⟨v,k,rfl,sv,fun v2 H1 s1 cp=>?_⟩
  have e1:=s1.get e
  walk_at "l2"
  refine vT e1 T.sM T.j7 fun H2 e2 s2=>?_
  walk_at "l2"
  refine q v2 H2 e2 (fun b u hb hu=>s2 _ _ hb (s1.get hu)) ?_
  cases cp with
  | sc h=>exact .sc h
  | nil a1 a2=>exact .nil a1 (s2 _ _ (fun z=>by rw [z,e1] at a2;cases a2) a2)
  | one a1 a2=>exact .one a1 (s2 _ _ (fun z=>by rw [z,e1] at a2;cases a2) a2)
theorem lQ (T:Tx K mg a):FnOk P w K mg base (CX1 P w) 6 a.b6 a.jp ["wire","known"] (Dj a.ao):=by
 have jG:=@mX P w K mg base a T
 have nX:=@lS P w K mg base a T
 refine T.gF.okX vS (fun vs H Q E h=>?_) (fun cdv A outer s H vs Q E hr h=>?_)
 ·obtain ⟨v,k,d,zs,rfl,_⟩:=h;rfl
 ·obtain ⟨v,k,d,zs,rfl,sv,⟨kvs,ed,ek⟩,nms,qQ,qE⟩:=h
  have hu:=Hz hr
  have fin:∀ {H2:Hp} (σ:St),Same H H2→(∀ z∈zs,v≠.str z)→pU a.ao (g7 a.ao) E0 (fun _=>E) σ [v] H2:=fun {H2} σ s2 hb=>vd fun x H3 f3 s3 e3=>⟨x,v,k,rfl,(sv.same s2).same s3,e3,fun v2 H4 e4 k4 cp=>by
   obtain ⟨dx,a1,a2⟩:=Nd (H:=H2) f3 e4 fun b u hb' e'=>k4 _ _ hb' (s3.get e')
   exact ⟨rfl,some dx,a1,qE hb _ dx ⟨v2,a2.pre s2,by
    cases cp with
    | sc h=>exact .sc h
    | nil c1 c2=>
      cases sv with
      | sc h=>cases h
      | one l c0=>
        have:=s3.get (s2.get c0)
        rw [c1] at this;cases this
      | nil c0=>
        refine .nil c0 ?_
        rw [vz (fun z=>by rw [z,a1] at c2;cases c2)];exact c2
    | one c1 c2=>
      cases sv with
      | sc h=>cases h
      | nil c0=>
        have:=s3.get (s2.get c0)
        rw [c1] at this;cases this
      | one l c0=>
        have hc:=s3.get (s2.get c0)
        rw [c1] at hc
        cases hc
        refine .one c0 ?_
        rw [vz (fun z=>by rw [z,a1] at c2;cases c2)];exact c2⟩⟩⟩
  refine ⟨_,((al (cw (PW.pt (vY (jY (eS (ax jG (hr.mono (by decide)) (by rfl) T.rR T.rK T.jB .nil aQ (aa (pv 0) ad)))) (ym (K8 (GS hu (pv 0) (pv 1)))))) (al (qd T.xP nX (hr.mono (by decide)) (by rfl) T.Ci T.eE aQ fz rfl (aa (pv 0) ad))) aR))),aP (σ':=[some _,some _]) rfl ?_⟩
  walk_at "l2"
  refine ⟨v,k,rfl,sv.kind,fun z e=>by subst e;exact sv.str,fun H2 s2=>?_⟩
  by_cases hn:ui v=true
  ·rw [hn]
   cases sv with
   | nil=>cases hn
   | one=>cases hn
   | sc sv=>
    cases sv with
    | int=>cases hn
    | bl=>cases hn
    | non=>cases hn
    | str z l=>
     have ed2:=s2.get ed
     walk_at "l2"
     refine L5 ed2 ?_
     rw [pL ek z]
     by_cases hz:z∈zs
     ·rw [decide_eq_true hz]
      walk_at "l2"
      exact qQ z hz rfl H2 s2
     ·rw [decide_eq_false hz]
      walk_at "l2"
      exact fin _ s2 fun y hy e=>hz (by cases e;exact hy)
  ·rw [show ui v=false by simpa using hn]
   walk_at "l2"
   exact fin _ s2 fun y hy e=>hn (by rw [e];exact nms y hy)
end
section
variable {P:Program} {w:World} {K:PySem.W.Frag} {mg:Str→Option Value} {base:Heap} {a:Ad}
local macro_rules | `(tactic| walk_at "l2step") =>`(tactic| first | ((with_reducible refine' c_whole ?e ?_);(case e=>walk_at "l2kind")) | ((with_reducible refine' c_mask ?e ?_);(case e=>walk_at "l2kind")) | (with_reducible refine cG ?_) | (with_reducible refine d3 ?_))
theorem tE (T:Tx K mg a):FnOk P w K mg base (CX1 P w) 1 a.bS a.iy ["ins","sums","stores","outs"] (Dm a.aw):=by
 refine T.fB.okX sX (fun vs H Q E h=>?_) (fun cdv A outer s H vs Q E hr h=>?_)
 ·obtain ⟨i,s,t,o,rs,qs,N,rfl,_⟩:=h;rfl
 ·obtain ⟨i,s,t,o,rs,qs,N,rfl,hn,li,qQ,qE,hor⟩:=h
  have hi:=hn.i
  have hs:=hn.s
  have ht:=hn.t
  have ho:=hn.o
  have lrs:rs.length=N.sums.length:=by rw [← hn.es,List.length_map]
  have lqs:qs.length=N.sts.length:=by rw [← hn.et,List.length_map]
  refine ⟨_,((af (cw (aZ qr (aD (be (K:=K) rfl) (by rfl) T.fZ PySem.boot_len (aa (pv 0) ad)) (ff (v:= .int 6) (by rfl) T.EV ⟨_,rfl⟩) (bx _)) (al ii) aR)
   (af (cw (aZ qr (aD (be (K:=K) rfl) (by rfl) T.fZ PySem.boot_len (aa (pv 1) ad)) (ff (v:= .int 40) (by rfl) T.A9 ⟨_,rfl⟩) (bx _)) (al (JM PySem.F.excBase_ValueError T.iW fz rfl (by rfl) T.y3 (aa bE ad))) aR)
   (af (cw (aZ qr (aD (be (K:=K) rfl) (by rfl) T.fZ PySem.boot_len (aa (pv 2) ad)) (ff (v:= .int 16) (by rfl) T.xl ⟨_,rfl⟩) (bx _)) (al ii) aR)
   (af (cw (aZ qr (aD (be (K:=K) rfl) (by rfl) T.fZ PySem.boot_len (aa (pv 3) ad)) (ff (v:= .int 6) (by rfl) T.Ba ⟨_,rfl⟩) (bx _)) (al ii) aR)
   (al (cw (eS (aD (zy (K:=K) rfl rfl) (by rfl) T.OF PyProof.Rows.boot_any (aa (b2 (osc:=ae cz) (ON:=["ins","sums","stores","outs"]) (N:=["row"]) (n:=1) (fx:=[]) rfl rfl rfl (by decide +kernel) (cj (K:=K) rfl (pv 1)) (a0 (by decide)) (fun _ _ _ _ _=>⟨(az (i:=0) (show List.Nodup (["row"]:List Str) from by decide +kernel) rfl (by walk_at "o")),bF,(kE qr (aD (be (K:=K) rfl) (by rfl) T.fZ PySem.boot_len (aa (cu (cf (K:=K) rfl) (pv 0) ak (fun _ _=>rfl)) ad)) (ff (v:= .int 24) (by rfl) T.y6 ⟨_,rfl⟩) (bx _))⟩)) ad))) (al ii) aR))))))),aP (σ':=[some _,some _,some _,some _]) rfl ?_⟩
  walk_at "l2"
  rw [List.length_map]
  refine eR (decide_eq_false (by omega)) ?_
  walk_at "l2"
  rw [List.length_map]
  by_cases hbig:40 < N.sums.length
  ·refine gK (decide_eq_true (by omega)) ?_
   walk_at "l2"
   exact ⟨by rw [sizeLine_eq];decide,qE hbig⟩
  have g:Gn N:=hor.resolve_right hbig
  have ls:=g.ls
  have lt:=g.lt
  have lo:=g.lo
  have q:=qQ g
  refine eR (decide_eq_false (by omega)) ?_
  walk_at "l2"
  rw [List.length_map]
  refine eR (decide_eq_false (by omega)) ?_
  walk_at "l2"
  rw [List.length_map]
  refine eR (decide_eq_false (by omega)) ?_
  walk_at "l2"
  intro D hD
  refine bL (xs:=rs.map fun r=>V.ref r.1) (fun i ys H'=>Cs (fun i ys=>ys=(List.replicate i false).map V.bl) H D i ys H') (Cs.zero hD rfl) (fun i ys H' _ c=>SqL.of (c.same.get hs)) (fun i x ys H' hx c=>?_) (fun ys H' c=>?_)
  ·obtain ⟨r,hr',rfl⟩:=bi hx
   have hi:=(List.getElem?_eq_some_iff.mp hr').1
   have hm:=List.mem_of_getElem? hr'
   have er:=c.same.get (hn.sr r hm).1
   have hw:=g.lw r.2.2 (by rw [← hn.es];exact List.mem_map.mpr ⟨r,hm,rfl⟩)
   rcases (hn.sr r hm).2 with ew | ew
   ·have ew:=c.same.get ew
    walk_at "l2"
    rw [List.length_map,decide_eq_false (show ¬ (24:Int) < (r.2.2.2.length:Int) by omega)]
    refine Cs.put hD c.same c.at' c.len (by omega) ?_
    rw [c.pv,List.replicate_succ',List.map_append];rfl
   ·have ew:=c.same.get ew
    walk_at "l2"
    rw [List.length_map,decide_eq_false (show ¬ (24:Int) < (r.2.2.2.length:Int) by omega)]
    refine Cs.put hD c.same c.at' c.len (by omega) ?_
    rw [c.pv,List.replicate_succ',List.map_append];rfl
  ·have ec:=c.at'
   rw [c.pv] at ec
   walk_at "l2"
   refine KZ (SqL.of ec) ?_
   walk_at "l2"
   refine eR (by simp) ?_
   walk_at "l2"
   exact q H' c.same
theorem tF (T:Tx K mg a):FnOk P w K mg base CX0 2 a.bT a.iz ["names"] Gm:=by
 have jG:=@mX P w K mg base a T
 refine T.fC.ok gJ (fun vs H Q E h=>?_) (fun cdv A outer s H vs Q E hr h=>?_)
 ·obtain ⟨l,zs,rfl,_⟩:=h;rfl
 ·obtain ⟨l,zs,rfl,hl,ln,nd,hn,q⟩:=h
  have hu:=Hz hr
  refine ⟨_,((af (bf (i:=1) gJ.nd rfl (by walk_at "o") JQ)
   (al (jZ PassesOwn.never rfl (cj (K:=K) rfl (pv 0)) (az (i:=2) gJ.nd rfl (by walk_at "o")) (af (cw (jY (eS (ax jG (hr.mono (by decide)) (by rfl) T.rR T.rK T.jB .nil aQ (aa (pv 2) ad)))) (al ii) aR)
   (af (cw (K8 (La hu (pv 2) (pv 1))) (al ii) aR)
   (al (Me hu (pv 1) (pv 2) An rfl)))))))),aP (σ':=[some _,none,none]) rfl ?_⟩
  walk_at "l2"
  intro D H1 f1 s1 e1
  have hl1:=s1.get hl
  walk_at "l2"
  refine Cj (xs:=zs.map V.str) (fun i σ H'=>∃ v,σ=[some (.ref l),some (.ref D),v]∧Same H H'∧∃ kvs:List (Key×V),H' D=some (.dK kvs)∧kvs.map (·.1)=(zs.take i).map Sum.inr) ⟨none,rfl,s1,[],e1,rfl⟩ (fun i σ H' _ ⟨_,_,s',_⟩=>SqL.of (s'.get hl)) ?_ ?_
  ·rintro i y σ H' hy ⟨v,rfl,s',kvs,eD,ek⟩
   obtain ⟨z,hz,rfl⟩:=bi hy
   have hi:=(List.getElem?_eq_some_iff.mp hz).1
   have hnot:z∉zs.take i:=fun m=>by
    have h2:=nd
    rw [← List.take_append_drop i zs,List.nodup_append] at h2
    exact h2.2.2 z m z (List.mem_of_getElem? (i:=0) (by rw [List.getElem?_drop,Nat.add_zero];exact hz)) rfl
   have lk:kvs.length≤1000:=by have:=congrArg List.length ek;rw [List.length_map,List.length_map,List.length_take] at this;omega
   walk_at "l2"
   refine c_nm (hn z (List.mem_of_getElem? hz)) fun H2 s2=>?_
   have eD2:=s2.get eD
   walk_at "l2"
   refine KY eD2 ?_
   rw [pL ek z,decide_eq_false hnot]
   walk_at "l2"
   refine L4 eD2 (bg lk) fun H3 u3=>?_
   rw [Mc ek hnot] at u3
   walk_at "l2"
   refine ⟨fun b o e=>u3.oth _ _ (ah e f1) (s2.get (s'.get e)),_,u3.at',?_⟩
   rw [List.map_append,ek,take_succ hz,List.map_append];rfl
  ·rintro σ H' ⟨v,rfl,s',_⟩
   walk_at "l2"
   exact q H' s'
theorem tD (T:Tx K mg a):FnOk P w K mg base CX0 7 a.bR a.iw ["sums","stores","outs","known"] Gk:=by
 have eV:=@lQ P w K mg base a T
 refine T.fA.ok dq (fun vs H Q E h=>?_) (fun cdv A outer s H vs Q E hr h=>?_)
 ·obtain ⟨i,s,t,o,d,rs,qs,N,rfl,_⟩:=h;rfl
 ·obtain ⟨i,s,t,o,d,rs,qs,N,rfl,kp,g,kn,q⟩:=h
  have hs:=kp.s
  have ht:=kp.t
  have ho:=kp.o
  refine ⟨_,((af (jZ PassesOwn.never rfl (mS (K:=K) rfl (pv 0)) (az (i:=4) dq.nd rfl (by walk_at "o")) (al (jZ PassesOwn.never rfl (mS (K:=K) rfl (cu (cf (K:=K) rfl) (pv 4) ak (fun _ _=>rfl))) (az (i:=5) dq.nd rfl (by walk_at "o")) (al (bY (jI eV (hr.mono (by decide)) (by rfl) T.gC T.gA T.dE .nil thr0 (aa (pv 5) (aa (pv 3) ad))))))))
   (af (jZ PassesOwn.never rfl (mS (K:=K) rfl (pv 1)) (az (i:=4) dq.nd rfl (by walk_at "o")) (al (bY (jI eV (hr.mono (by decide)) (by rfl) T.gC T.gA T.dE .nil thr0 (aa (cu (cf (K:=K) rfl) (pv 4) ak (fun _ _=>rfl)) (aa (pv 3) ad))))))
   (al (jZ PassesOwn.never rfl (mS (K:=K) rfl (pv 2)) (az (i:=5) dq.nd rfl (by walk_at "o")) (al (bY (jI eV (hr.mono (by decide)) (by rfl) T.gC T.gA T.dE .nil thr0 (aa (pv 5) (aa (pv 3) ad)))))))))),aP (σ':=[some _,some _,some _,some _,none,none]) rfl ?_⟩
  walk_at "l2"
  refine rS (xs:=rs.map fun r=>V.ref r.1) (fun i σ H'=>∃ v1 v2,σ=[some (.ref s),some (.ref t),some (.ref o),some (.ref d),v1,v2]∧Same H H') ⟨none,none,rfl,Same.refl _⟩ (fun i σ H' _ ⟨_,_,_,s'⟩=>SqT.of (s'.get hs)) ?_ ?_
  ·rintro i y σ H' hy ⟨v1,v2,rfl,s'⟩
   obtain ⟨r,hr',rfl⟩:=bi hy
   have hm:=List.mem_of_getElem? hr'
   have er:=s'.get (kp.sr r hm).1
   have ew:=s'.get (kp.sr r hm).2
   have hin:r.2.2∈N.sums:=by rw [← kp.es];exact List.mem_map.mpr ⟨r,hm,rfl⟩
   walk_at "l2"
   refine rS (xs:=r.2.2.2.map V.str) (fun j σ H2=>∃ v,σ=[some (.ref s),some (.ref t),some (.ref o),some (.ref d),some (.ref r.1),v]∧Same H' H2) ⟨_,rfl,Same.refl _⟩ (fun j σ H2 _ ⟨_,_,s2⟩=>SqT.of (s2.get ew)) ?_ ?_
   ·rintro j y σ H2 hy ⟨v,rfl,s2⟩
    obtain ⟨z,hz,rfl⟩:=bi hy
    have hzn:=g.ws r.2.2 hin z (List.mem_of_getElem? hz)
    walk_at "l2"
    refine ⟨.str z,"str",d,N.names,rfl,.sc (.str _ (by have:=(g.nm _ hzn).len;omega)),(kn.same s').same s2,g.nm,fun _ _ _ H3 s3=>?_,fun bad=>absurd rfl (bad _ hzn)⟩
    walk_at "l2"
    exact s2.trans s3
   ·rintro σ H2 ⟨v,rfl,s2⟩
    walk_at "l2"
    exact ⟨_,_,rfl,s'.trans s2⟩
  ·rintro σ H' ⟨v1,v2,rfl,s'⟩
   have ht':=s'.get ht
   walk_at "l2"
   refine rS (xs:=qs.map fun r=>V.ref r.1) (fun i σ H2=>∃ v1,σ=[some (.ref s),some (.ref t),some (.ref o),some (.ref d),v1,v2]∧Same H' H2) ⟨_,rfl,Same.refl _⟩ (fun i σ H2 _ ⟨_,_,s2⟩=>SqT.of (s2.get ht')) ?_ ?_
   ·rintro i y σ H2 hy ⟨v1,rfl,s2⟩
    obtain ⟨r,hr',rfl⟩:=bi hy
    have hm:=List.mem_of_getElem? hr'
    have er:=s2.get (s'.get (kp.tr r hm))
    have hin:r.2∈N.sts:=by rw [← kp.et];exact List.mem_map.mpr ⟨r,hm,rfl⟩
    have hzn:=g.ts r.2 hin
    walk_at "l2"
    refine ⟨.str r.2.2,"str",d,N.names,rfl,.sc (.str _ (by have:=(g.nm _ hzn).len;omega)),(kn.same s').same s2,g.nm,fun _ _ _ H3 s3=>?_,fun bad=>absurd rfl (bad _ hzn)⟩
    walk_at "l2"
    exact s2.trans s3
   ·rintro σ H2 ⟨v1,rfl,s2⟩
    have s02:=s'.trans s2
    have ho':=s02.get ho
    walk_at "l2"
    refine rS (xs:=N.outs.map V.str) (fun i σ H3=>∃ v2,σ=[some (.ref s),some (.ref t),some (.ref o),some (.ref d),v1,v2]∧Same H2 H3) ⟨_,rfl,Same.refl _⟩ (fun i σ H3 _ ⟨_,_,s3⟩=>SqT.of (s3.get ho')) ?_ ?_
    ·rintro i y σ H3 hy ⟨v2,rfl,s3⟩
     obtain ⟨z,hz,rfl⟩:=bi hy
     have hzn:=g.os z (List.mem_of_getElem? hz)
     walk_at "l2"
     refine ⟨.str z,"str",d,N.names,rfl,.sc (.str _ (by have:=(g.nm _ hzn).len;omega)),(kn.same s02).same s3,g.nm,fun _ _ _ H4 s4=>?_,fun bad=>absurd rfl (bad _ hzn)⟩
     walk_at "l2"
     exact s3.trans s4
    ·rintro σ H3 ⟨v2,rfl,s3⟩
     walk_at "l2"
     exact q _ (s02.trans s3)
end
section
variable {P:Program} {w:World} {K:PySem.W.Frag} {mg:Str→Option Value} {base:Heap} {a:Ad}
local macro_rules | `(tactic| walk_at "l2step") =>`(tactic| first | ((with_reducible refine' c_whole ?e ?_);(case e=>walk_at "l2kind")) | ((with_reducible refine' c_mask ?e ?_);(case e=>walk_at "l2kind")) | (with_reducible refine cG ?_) | (with_reducible refine d3 ?_))
theorem JS (T:Tx K mg a):FnOk P w K mg base CX0 1 a.iu a.Bk ["row","waiting"] Js:=by
 refine T.xV.ok Jz (fun vs H Q E h=>?_) (fun cdv A outer s H vs Q E hr h=>?_)
 ·obtain ⟨r,d,zs,rfl,_⟩:=h;rfl
 ·obtain ⟨r,d,zs,rfl,er,ew,lw,⟨kvs,ed,ek⟩,q⟩:=h
  have hu:=Hz hr
  refine ⟨_,((al (a9 (aD (zy (K:=K) rfl rfl) (by rfl) T.OF PyProof.Rows.boot_any (aa (b2 (osc:=ae kz) (ON:=["row","waiting"]) (N:=["wire","waiting"]) (n:=1) (fx:=[1]) rfl rfl rfl (by decide +kernel) (mS (K:=K) rfl (cu (cf (K:=K) rfl) (pv 0) ak (fun _ _=>rfl))) (a0 (by decide)) (fun _ _ _ _ _=>⟨(az (i:=0) (show List.Nodup (["wire","waiting"]:List Str) from by decide +kernel) rfl (by walk_at "o")),bF,(Oq (La hu (pv 0) (pv 1)))⟩)) ad))))),aP (σ':=[some _,some _]) rfl ?_⟩
  walk_at "l2"
  intro D hD
  refine pS (xs:=r.2.2.2.map V.str) (fun i ys H'=>Cs (fun i ys=>ys=((r.2.2.2.take i).map fun w=>decide (w∈zs)).map V.bl) H D i ys H') (Cs.zero hD rfl) (fun i ys H' _ c=>SqT.of (c.same.get ew)) (fun i x ys H' hx c=>?_) (fun ys H' c=>?_)
  ·obtain ⟨z,hz,rfl⟩:=bi hx
   have hi:=(List.getElem?_eq_some_iff.mp hz).1
   walk_at "l2"
   refine KY (c.same.get ed) ?_
   rw [pL ek z]
   refine Cs.put hD c.same c.at' c.len (by omega) ?_
   rw [c.pv,take_succ hz,List.map_append,List.map_append];rfl
  ·have ec:=c.at'
   rw [c.pv,List.length_map,List.take_length] at ec
   walk_at "l2"
   refine KZ (SqL.of ec) ?_
   have eany:(r.2.2.2.map fun w=>decide (w∈zs)).any id=d2 zs r.2.2.2:=by rw [List.any_map];rfl
   walk_at "l2"
   rw [eany]
   exact q H' c.same
theorem oP (T:Tx K mg a):FnOk P w K mg base CX0 4 a.bz a.ge ["ins","sums","stores"] (Dc a.ay a.au a.am):=by
 have nY:=@lT P w K mg base a T
 have mD:=@kF P w K mg base a T
 have jW:=@i9 P w K mg base a T
 refine T.dY.ok iL (fun vs H Q E h=>?_) (fun cdv A outer s H vs Q E hr h=>?_)
 ·obtain ⟨i,s,t,o,rs,qs,N,rfl,_⟩:=h;rfl
 ·obtain ⟨i,s,t,o,rs,qs,N,rfl,kp,g,q⟩:=h
  have hi:=kp.i
  have hs:=kp.s
  have ht:=kp.t
  have li:=g.li
  have ls:=g.ls
  have lt:=g.lt
  have lrs:rs.length=N.sums.length:=by rw [← kp.es,List.length_map]
  have lqs:qs.length=N.sts.length:=by rw [← kp.et,List.length_map]
  refine ⟨_,((af (ij (osc:=ae bh) (ON:=["ins","sums","stores","wires"]) (N:=["number","name"]) (n:=2) (fx:=[]) (i:=3) iL.nd rfl rfl rfl rfl rfl rfl (by decide +kernel) (wf (K:=K) rfl (by rfl) T.io (pv 0)) (y0 (eG (a0 (by decide)) (eG (a0 (by decide)) rN))) (fun _ _ _ _ _=>⟨(qj (K:=K) (n:=2) rfl rfl (bu (az (i:=0) (show List.Nodup (["number","name"]:List Str) from by decide +kernel) rfl (by walk_at "o")) (bu (az (i:=1) (show List.Nodup (["number","name"]:List Str) from by decide +kernel) rfl (by walk_at "o")) gL))),bF,(Al T.KL nY (hr.mono (by decide)) (by rfl) T.Kq T.eF .nil aQ (aa (pv 1) (aa (pv 0) ad)))⟩))
   (af (bY (i5 (K:=K) rfl PySem.F.plainAttrs_list PySem.F.slot_list_extend PySem.F.type_list_extend qZ (pv 3) (aa (b2 (osc:=ae bh) (ON:=["ins","sums","stores","wires"]) (N:=["row"]) (n:=1) (fx:=[]) rfl rfl rfl (by decide +kernel) (mS (K:=K) rfl (pv 1)) (a0 (by decide)) (fun _ _ _ _ _=>⟨(az (i:=0) (show List.Nodup (["row"]:List Str) from by decide +kernel) rfl (by walk_at "o")),bF,(Al T.IK mD (hr.mono (by decide)) (by rfl) T.HI T.dS .nil aQ (aa (cu (cf (K:=K) rfl) (pv 0) ak (fun _ _=>rfl)) (aa (cu (cf (K:=K) rfl) (pv 0) ak (fun _ _=>rfl)) ad)))⟩)) ad)))
   (af (bY (i5 (K:=K) rfl PySem.F.plainAttrs_list PySem.F.slot_list_extend PySem.F.type_list_extend qZ (pv 3) (aa (b2 (osc:=ae bh) (ON:=["ins","sums","stores","wires"]) (N:=["number","row"]) (n:=2) (fx:=[]) rfl rfl rfl (by decide +kernel) (wf (K:=K) rfl (by rfl) T.io (pv 2)) (y0 (eG (a0 (by decide)) (eG (a0 (by decide)) rN))) (fun _ _ _ _ _=>⟨(qj (K:=K) (n:=2) rfl rfl (bu (az (i:=0) (show List.Nodup (["number","row"]:List Str) from by decide +kernel) rfl (by walk_at "o")) (bu (az (i:=1) (show List.Nodup (["number","row"]:List Str) from by decide +kernel) rfl (by walk_at "o")) gL))),bF,(Al T.BQ jW (hr.mono (by decide)) (by rfl) T.A8 T.dm .nil aQ (aa (cu (cf (K:=K) rfl) (pv 1) ak (fun _ _=>rfl)) (aa (cu (cf (K:=K) rfl) (pv 1) ak (fun _ _=>rfl)) (aa (pv 0) ad))))⟩)) ad)))
   (al (a9 (bb (vG rfl) (by rfl) T.B0 PyProof.Rows.boot_dict (aa (b2 (osc:=ae bh) (ON:=["ins","sums","stores","wires"]) (N:=["wire"]) (n:=1) (fx:=[]) rfl rfl rfl (by decide +kernel) (cj (K:=K) rfl (pv 3)) (a0 (by decide)) (fun _ _ _ _ _=>⟨(az (i:=0) (show List.Nodup (["wire"]:List Str) from by decide +kernel) rfl (by walk_at "o")),bF,(dH (aa (dj (K:=K) rfl (pv 0) rfl) (aa (pv 0) ad)))⟩)) ad)))))))),aP (σ':=[some _,some _,some _,none]) rfl ?_⟩
  walk_at "l2"
  refine .inr ⟨⟨_,SqT.of hi⟩,?_⟩
  intro D hD
  refine vA (xs:=N.ins.map V.str) (fun i ys H'=>∃ ws,WL H H' a.ay a.au a.am N D ys (N.ins.take i) ws) ⟨[],rfl,rfl,fun _ h=>absurd h (by simp),bH hD,av⟩ (fun i ys H' _ ⟨ws,c⟩=>SqT.of (c.same.get hi)) (fun i x ys H' pz H2 hx ⟨ws,c⟩ fp s2 e2=>?_) (fun ys H' ⟨ws,c⟩=>?_)
  ·obtain ⟨z,hz,rfl⟩:=bi hx
   have hlt:=(List.getElem?_eq_some_iff.mp hz).1
   have lw:ws.length=i:=by have:=congrArg List.length c.nm;rw [List.length_map,List.length_take] at this;omega
   walk_at "l2"
   intro x dx H3 f3 s3 e3
   refine ⟨x,dx,.str z,nat i,rfl,e3,fun H4 u4=>⟨rfl,?_⟩⟩
   have s24:Same H2 H4:=fun b o e=>u4.oth _ _ (ah e f3) (s3.get e)
   exact c.put hD (s2.trans s24) (.i i dx hz u4.at') (by rw [List.length_take];omega) (take_succ hz)
  ·rw [List.length_map,List.take_length] at c
   have hs1:=c.same.get hs
   have ht1:=c.same.get ht
   have hD1:=c.d
   walk_at "l2"
   intro D2 hD2
   refine pS (xs:=rs.map fun r=>V.ref r.1) (fun i ys H2=>∃ ws,WL H' H2 a.ay a.au a.am N D2 ys ((rs.take i).map (·.2.2.1)) ws) ⟨[],rfl,rfl,fun _ h=>absurd h (by simp),bH hD2,av⟩ (fun i ys H2 _ ⟨ws,c2⟩=>SqT.of (c2.same.get hs1)) (fun i x ys2 H2 hx ⟨ws2,c2⟩=>?_) (fun ys2 H2 ⟨ws2,c2⟩=>?_)
   ·obtain ⟨r,hr',rfl⟩:=bi hx
    have hlt:=(List.getElem?_eq_some_iff.mp hr').1
    have hm:=List.mem_of_getElem? hr'
    have s02:=c.same.trans c2.same
    have er:=s02.get (kp.sr r hm).1
    have ew:=s02.get (kp.sr r hm).2
    walk_at "l2"
    intro x dx H3 f3 s3 e3
    refine ⟨x,dx,.str r.2.2.1,r.2.1,_,rfl,s3.get ew,e3,fun H4 u4=>⟨rfl,?_⟩⟩
    have s24:Same H2 H4:=fun b o e=>u4.oth _ _ (ah e f3) (s3.get e)
    exact c2.put hD2 s24 (.s r.2.2.2 dx r.2.1 (by rw [← kp.es];exact List.mem_map.mpr ⟨r,hm,rfl⟩) u4.at' (s24.get ew)) (by rw [List.length_map,List.length_take];omega) (by rw [take_succ hr',List.map_append];rfl)
   ·rw [List.length_map,List.take_length] at c2
    have hD12:=c2.same.get hD1
    have eD2:=c2.d
    have lys:ys.length=N.ins.length:=by rw [c.ey,← c.nm,List.length_map,List.length_map]
    have lys2:ys2.length=rs.length:=by rw [c2.ey,List.length_map,← List.length_map (f:=(·.1)),c2.nm,List.length_map]
    walk_at "l2"
    refine vW hD12 eD2 (by rw [sizeLine_eq];omega) fun H3 u3=>?_
    have c3:=c.join c2 hD u3
    have hD3:=c3.d
    have ht3:=c3.same.get ht
    have lys3:(ys++ys2).length=N.ins.length + rs.length:=by rw [List.length_append,lys,lys2]
    clear c c2 hD12 eD2 hs1 ht1 hD1 lys lys2 hD2
    generalize ys++ys2=ys3 at *
    walk_at "l2"
    refine .inr ⟨⟨_,SqT.of ht3⟩,?_⟩
    intro D4 hD4
    refine vA (xs:=qs.map fun q=>V.ref q.1) (fun i ys H'=>∃ ws,WL H3 H' a.ay a.au a.am N D4 ys ((qs.take i).map (·.2.1)) ws) ⟨[],rfl,rfl,fun _ h=>absurd h (by simp),bH hD4,av⟩ (fun i ys H' _ ⟨ws,c⟩=>SqT.of (c.same.get ht3)) (fun i x ys H4 pz H5 hx ⟨ws,c⟩ fp s5 e5=>?_) (fun ys4 H4 ⟨ws4,c4⟩=>?_)
    ·obtain ⟨r,hr',rfl⟩:=bi hx
     have hlt:=(List.getElem?_eq_some_iff.mp hr').1
     have hm:=List.mem_of_getElem? hr'
     have er:=s5.get (c.same.get (c3.same.get (kp.tr r hm)))
     walk_at "l2"
     intro x dx H6 f6 s6 e6
     refine ⟨x,dx,.str r.2.1,.str r.2.2,nat i,rfl,e6,fun H7 u7=>⟨rfl,?_⟩⟩
     have s57:Same H5 H7:=fun b o e=>u7.oth _ _ (ah e f6) (s6.get e)
     exact c.put hD4 (s5.trans s57) (.t i r.2.2 dx (by rw [← kp.et,List.getElem?_map,hr'];rfl) u7.at') (by rw [List.length_map,List.length_take];omega) (by rw [take_succ hr',List.map_append];rfl)
    ·rw [List.length_map,List.take_length] at c4
     have hD34:=c4.same.get hD3
     have eD4:=c4.d
     have lys4:ys4.length=qs.length:=by rw [c4.ey,List.length_map,← List.length_map (f:=(·.1)),c4.nm,List.length_map]
     walk_at "l2"
     refine vW hD34 eD4 (by rw [sizeLine_eq];omega) fun H5 u5=>?_
     have c5:=c3.join c4 hD u5
     have hD5:=c5.d
     have ey5:=c5.ey
     have enm:N.ins++rs.map (·.2.2.1)++qs.map (·.2.1)=N.names:=by
      unfold Nt.names
      rw [← kp.es,← kp.et,List.map_map,List.map_map];rfl
     rw [enm] at c5
     clear c3 c4 hD34 eD4 hD3 ht3 hD4
     rw [ey5] at hD5
     generalize ws++ws2++ws4=wl at *
     have lwl:wl.length≤100:=by rw [← List.length_map (f:=(·.1)),c5.nm,← enm,List.length_append,List.length_append,List.length_map,List.length_map];omega
     walk_at "l2"
     intro D6 hD6
     refine bL (xs:=wl.map fun q=>V.ref q.2) (fun i ys H'=>∃ ps:List (Addr×Key×V),ys=ps.map (fun q=>V.ref q.1)∧ps.map (·.2)=(wl.take i).map (fun q=>((Sum.inr q.1:Key),V.ref q.2))∧(∀ q∈ps,H' q.1=some (.tup [kV q.2.1,q.2.2]))∧Same H5 H'∧H' D6=some (.lst ys)) ⟨[],rfl,rfl,fun _ h=>absurd h (by simp),bH hD6,av⟩ (fun i ys H' _ ⟨_,_,_,_,s',_⟩=>SqL.of (s'.get hD5)) ?_ ?_
     ·rintro i y ys H' hy ⟨ps,rfl,hps,hq,s',eD⟩
      obtain ⟨q0,hq0,rfl⟩:=bi hy
      have hlt:=(List.getElem?_eq_some_iff.mp hq0).1
      have hlen:ps.length=i:=by have:=congrArg List.length hps;rw [List.length_map,List.length_map,List.length_take] at this;omega
      have wb:=(c5.ob q0 (List.mem_of_getElem? hq0)).same s'
      have fld:∀ {Q:VK},Q (.str q0.1) H'→MY K (Str.ofString "name") Q (V.ref q0.2) H':=fun h=>by
       cases wb with
       | i k dx hk e=>exact cF e T.xW T.l8 rfl h
       | s ws dx tw hk e et=>exact cF e T.sQ T.j6 rfl h
       | t k y dx hk e=>exact cF e T.iK T.iQ rfl h
      walk_at "l2"
      refine fld ?_
      walk_at "l2"
      intro tt H6 f6 s6 e6
      have ntt:tt≠D6:=fun z=>by rw [z,eD] at f6;cases f6
      refine ⟨s6.get eD,by rw [List.length_map];exact bg (by omega),ps++[(tt,Sum.inr q0.1,.ref q0.2)],by rw [List.map_append];rfl,by rw [List.map_append,hps,take_succ hq0,List.map_append];rfl,fun q' hq'=>?_,fun b o e=>?_,av⟩
      ·rcases List.mem_append.mp hq' with h | h
       ·have e:=hq q' h
        rw [ar (fj e eD fun z=>by cases z)]
        exact s6.get e
       ·rw [List.mem_singleton] at h;subst h
        rw [ar ntt];exact e6
      ·rw [ar (ah e hD6)]
       exact s6.get (s'.get e)
     ·rintro ys H6 ⟨ps,rfl,hps,hq,s',eD⟩
      rw [List.length_map,List.take_length] at hps
      have ek:ps.map (fun q=>q.2.1)=N.names.map Sum.inr:=by
       have:=congrArg (List.map (·.1)) hps
       rw [List.map_map,List.map_map] at this
       rw [← c5.nm,List.map_map]
       exact this
      walk_at "l2"
      refine GA eD hq (by rw [ek];exact List.Pairwise.map _ (fun x y h z=>h (Sum.inr.inj z)) g.nd) fun d H7 f7 s7 e7=>?_
      have s57:=s'.trans s7
      rw [hps] at e7
      exact q d H7 wl ((c5.same.trans s').free f7) (c5.same.trans s57) ⟨e7,c5.nm,fun q' hq'=>(c5.ob q' hq').same s57⟩
theorem DO (T:Tx K mg a):FnOk P w K mg base CX0 2 a.dM a.r6 ["sums"] Df:=by
 have IP:=@JS P w K mg base a T
 refine T.mH.ok fF (fun vs H Q E h=>?_) (fun cdv A outer s H vs Q E hr h=>?_)
 ·obtain ⟨s,rs,N,rfl,_⟩:=h;rfl
 ·obtain ⟨s,rs,N,rfl,hs,hsr,hes,g,q⟩:=h
  have lrs:rs.length=N.sums.length:=by rw [← hes,List.length_map]
  have ls:=g.ls
  refine ⟨_,((af (bf (i:=1) fF.nd rfl (by walk_at "o") (bV ad))
   (af (bf (i:=2) fF.nd rfl (by walk_at "o") (bb (fL (K:=K) rfl) (by rfl) T.j5 PyProof.Rows.boot_list (aa (pv 0) ad)))
   (af (JL PassesOwn.never (aZ qr (aD (be (K:=K) rfl) (by rfl) T.fZ PySem.boot_len (aa (pv 2) ad)) ak (bx _)) (af (bf (i:=3) fF.nd rfl (by walk_at "o") (bb (vG rfl) (by rfl) T.B0 PyProof.Rows.boot_dict (aa (pv 2) ad)))
   (af (ij (osc:=ae eQ) (ON:=["sums","names","left","waiting","ready"]) (N:=["row","waiting"]) (n:=1) (fx:=[3]) (i:=4) fF.nd rfl rfl rfl rfl rfl rfl (by decide +kernel) (cj (K:=K) rfl (pv 2)) (a0 (by decide)) (fun _ _ _ _ _=>⟨(az (i:=0) (show List.Nodup (["row","waiting"]:List Str) from by decide +kernel) rfl (by walk_at "o")),(v0 (jY (eS (ax IP (hr.mono (by decide)) (by rfl) T.HF T.Hl T.xG .nil aQ (aa (pv 0) (aa (pv 1) ad)))))),(cu (cf (K:=K) rfl) (pv 0) ak (fun _ _=>rfl))⟩))
   (af (cw (aZ mW (aD (be (K:=K) rfl) (by rfl) T.fZ PySem.boot_len (aa (pv 4) ad)) ak (bx _)) (al ii) aR)
   (af (bY (i5 (K:=K) rfl PySem.F.plainAttrs_list PySem.F.slot_list_extend PySem.F.type_list_extend qZ (pv 1) (aa (pv 4) ad)))
   (al (ij (osc:=ae eQ) (ON:=["sums","names","left","waiting","ready"]) (N:=["row","waiting"]) (n:=1) (fx:=[3]) (i:=2) fF.nd rfl rfl rfl rfl rfl rfl (by decide +kernel) (cj (K:=K) rfl (pv 2)) (a0 (by decide)) (fun _ _ _ _ _=>⟨(az (i:=0) (show List.Nodup (["row","waiting"]:List Str) from by decide +kernel) rfl (by walk_at "o")),(v0 (eS (ax IP (hr.mono (by decide)) (by rfl) T.HF T.Hl T.xG .nil aQ (aa (pv 0) (aa (pv 1) ad))))),(pv 0)⟩))))))))
   (al (a9 (pv 1))))))),aP (σ':=[some _,none,none,none,none]) rfl ?_⟩
  walk_at "l2"
  intro Dn H1 f1 s1 e1
  have hs1:=s1.get hs
  walk_at "l2"
  intro Dl H2 f2 s2 e2
  walk_at "l2"
  have nd:=g.nds
  refine ⟨fun μ σ' H'=>∃ (od:List Str) (lf:List Rw) (Dl:Addr) (v3 v4:Option V),σ'=[some (.ref s),some (.ref Dn),some (.ref Dl),v3,v4]∧Same H H'∧H' Dn=some (.lst (od.map V.str))∧H' Dl=some (.lst (lf.map fun r=>V.ref r.1))∧Dl≠Dn∧(∀ r∈lf,r∈rs)∧Otp N.sums od (lf.map (·.2.2))∧μ=lf.length,⟨rs.length,[],rs,Dl,none,none,rfl,s1.trans s2,s2.get e1,e2,fun z=>(by rw [z,e1] at f2;cases f2),fun _ h=>h,by rw [hes];exact Otp.start _,rfl⟩,?_⟩
  rintro μ σ' H3 ⟨od,lf,Dl,v3,v4,rfl,s3,en,el,nln,sub,ot,rfl⟩
  walk_at "l2"
  rw [List.length_map]
  by_cases h0:lf=[]
  ·subst h0
   refine eR (decide_eq_false (by simp)) ?_
   walk_at "l2"
   exact q Dn H3 od f1 s3 en ot.done
  ·have hpos:0 < lf.length:=List.length_pos_iff.mpr h0
   refine gK (decide_eq_true (by omega)) ?_
   have hperm:=ot.perm.nodup_iff.mpr nd
   rw [List.nodup_append] at hperm
   have ndl:(lf.map (·.2.2.1)).Nodup:=by have:=hperm.2.1;rw [List.map_map] at this;exact this
   have lod:od.length + lf.length=N.sums.length:=by have:=ot.perm.length_eq;rw [List.length_append,List.length_map,List.length_map,List.length_map] at this;exact this
   have hrd:=ot.ready g (by simpa using h0)
   have zsE:(lf.map (·.2.2)).map (·.1)=lf.map (·.2.2.1):=by rw [List.map_map];rfl
   rw [zsE] at hrd
   have lfr:∀ r∈lf,∀ {H'},Same H H'→H' r.1=some (.tup [.str r.2.2.1,.ref r.2.1])∧H' r.2.1=some (.tup (r.2.2.2.map V.str)):=fun r hr H' s'=>⟨s'.get (hsr r (sub r hr)).1,s'.get (hsr r (sub r hr)).2⟩
   have lwr:∀ r∈lf,r.2.2.2.length≤24:=fun r hr=>g.lw r.2.2 (by rw [← hes];exact List.mem_map.mpr ⟨r,sub r hr,rfl⟩)
   refine ⟨fun σ' H'=>∃ (od:List Str) (lf':List Rw) (Dl:Addr) (v3 v4:Option V),σ'=[some (.ref s),some (.ref Dn),some (.ref Dl),v3,v4]∧Same H H'∧H' Dn=some (.lst (od.map V.str))∧H' Dl=some (.lst (lf'.map fun r=>V.ref r.1))∧Dl≠Dn∧(∀ r∈lf',r∈rs)∧Otp N.sums od (lf'.map (·.2.2))∧lf'.length < lf.length,fun σ' H' ⟨od,lf',Dl,v3,v4,a1,a2,a3,a4,a5,a6,a7,a8⟩=>⟨lf'.length,a8,od,lf',Dl,v3,v4,a1,a2,a3,a4,a5,a6,a7,rfl⟩,?_⟩
   walk_at "l2"
   refine GA (ps:=lf.map fun r=>(r.1,Sum.inr r.2.2.1,V.ref r.2.1)) (by rw [List.map_map];exact el) (fun q' hq'=>?_) ?_ fun d H4 f4 s4 e4=>?_
   ·obtain ⟨r,hr',rfl⟩:=List.mem_map.mp hq'
    exact (lfr r hr' s3).1
   ·rw [List.map_map]
    have:=List.Pairwise.map (Sum.inr:Str→Key) (S:=fun a b=>a≠b) (fun x y h z=>h (Sum.inr.inj z)) ndl
    rw [List.map_map] at this
    exact this
   have kn:Knw H4 d (lf.map (·.2.2.1)):=⟨_,e4,by rw [List.map_map,List.map_map,List.map_map];rfl⟩
   have el4:=s4.get el
   have en4:=s4.get en
   have s04:=s3.trans s4
   walk_at "l2"
   intro D5 hD5
   refine bL (xs:=lf.map fun r=>V.ref r.1) (fun i ys H'=>ys=(((lf.take i).filter fun r=> !d2 (lf.map (·.2.2.1)) r.2.2.2).map (·.2.2.1)).map V.str∧Same H4 H'∧H' D5=some (.lst ys)) ⟨rfl,bH hD5,av⟩ (fun i ys H' _ ⟨_,s',_⟩=>SqL.of (s'.get el4)) (fun i x ys H' hx ⟨ey,s',e'⟩=>?_) (fun ys H5 ⟨ey,s5,e5⟩=>?_)
   ·obtain ⟨r,hr',rfl⟩:=bi hx
    have hm:=List.mem_of_getElem? hr'
    have hlt:=(List.getElem?_eq_some_iff.mp hr').1
    have rr:=lfr r hm (s04.trans s')
    have r1:=rr.1
    have fs:(lf.take (i + 1)).filter (fun r=> !d2 (lf.map (·.2.2.1)) r.2.2.2)=(lf.take i).filter (fun r=> !d2 (lf.map (·.2.2.1)) r.2.2.2)++(if (!d2 (lf.map (·.2.2.1)) r.2.2.2)=true then [r] else []):=by rw [take_succ hr',List.filter_append,List.filter_cons];rfl
    walk_at "l2"
    refine ⟨r,d,lf.map (·.2.2.1),rfl,rr.1,rr.2,lwr r hm,kn.same s',fun H6 s6=>?_⟩
    have r16:=s6.get r1
    cases hw:d2 (lf.map (·.2.2.1)) r.2.2.2 with
    | true=>
      walk_at "l2"
      refine ⟨?_,s'.trans s6,s6.get e'⟩
      rw [fs,hw,ey];simp
    | false=>
      walk_at "l2"
      refine ⟨s6.get e',?_,?_,fun b o e=>?_,av⟩
      ·rw [ey,List.length_map,List.length_map]
       have:=List.length_filter_le (fun r:Rw=> !d2 (lf.map (·.2.2.1)) r.2.2.2) (lf.take i)
       rw [List.length_take] at this
       exact bg (by omega)
      ·rw [fs,hw,ey];simp
      ·rw [ar (ah e hD5)]
       exact s6.get (s'.get e)
   ·rw [List.length_map,List.take_length] at ey
    have fm:((lf.map (·.2.2)).filter fun r=> !d2 (lf.map (·.2.2.1)) r.2)=(lf.filter fun r=> !d2 (lf.map (·.2.2.1)) r.2.2.2).map (·.2.2):=by rw [List.filter_map];rfl
    have fm2:((lf.map (·.2.2)).filter fun r=>d2 (lf.map (·.2.2.1)) r.2)=(lf.filter fun r=>d2 (lf.map (·.2.2.1)) r.2.2.2).map (·.2.2):=by rw [List.filter_map];rfl
    rw [fm,List.length_map] at hrd
    have lys:ys.length=(lf.filter fun r=> !d2 (lf.map (·.2.2.1)) r.2.2.2).length:=by rw [ey,List.length_map,List.length_map]
    have lle:=List.length_filter_le (fun r:Rw=> !d2 (lf.map (·.2.2.1)) r.2.2.2) lf
    have hless:=Bb (fun r:Rw=>d2 (lf.map (·.2.2.1)) r.2.2.2) lf hrd
    have ot':=ot.step nd
    rw [zsE,fm,fm2,List.map_map] at ot'
    have el5:=s5.get el4
    have en5:=s5.get en4
    walk_at "l2"
    refine eR (decide_eq_false fun z=>by have:=V.int.inj z;omega) ?_
    walk_at "l2"
    refine vW en5 e5 (by rw [List.length_map,lys,sizeLine_eq];omega) fun H6 u6=>?_
    have s46:∀ b o,b≠Dn→H4 b=some o→H6 b=some o:=fun b o n e=>u6.oth _ _ n (s5.get e)
    have s06:Same H H6:=fun b o e=>s46 b o (ah e f1) (s04.get e)
    have el6:=u6.oth _ _ nln el5
    have en6:=u6.at'
    rw [ey,← List.map_append] at en6
    have kn6:Knw H6 d (lf.map (·.2.2.1)):=by
     obtain ⟨kvs,ed,ek⟩:=kn
     exact ⟨kvs,s46 _ _ (fj ed en4 fun z=>by cases z) ed,ek⟩
    walk_at "l2"
    intro D7 hD7
    refine bL (xs:=lf.map fun r=>V.ref r.1) (fun i ys H'=>ys=((lf.take i).filter fun r=>d2 (lf.map (·.2.2.1)) r.2.2.2).map (fun r=>V.ref r.1)∧Same H6 H'∧H' D7=some (.lst ys)) ⟨rfl,bH hD7,av⟩ (fun i ys H' _ ⟨_,s',_⟩=>SqL.of (s'.get el6)) (fun i x ys H' hx ⟨ey,s',e'⟩=>?_) (fun ys H7 ⟨ey7,s7,e7⟩=>?_)
    ·obtain ⟨r,hr',rfl⟩:=bi hx
     have hm:=List.mem_of_getElem? hr'
     have hlt:=(List.getElem?_eq_some_iff.mp hr').1
     have rr:=lfr r hm (s06.trans s')
     have fs:(lf.take (i + 1)).filter (fun r=>d2 (lf.map (·.2.2.1)) r.2.2.2)=(lf.take i).filter (fun r=>d2 (lf.map (·.2.2.1)) r.2.2.2)++(if d2 (lf.map (·.2.2.1)) r.2.2.2=true then [r] else []):=by rw [take_succ hr',List.filter_append,List.filter_cons];rfl
     walk_at "l2"
     refine ⟨r,d,lf.map (·.2.2.1),rfl,rr.1,rr.2,lwr r hm,kn6.same s',fun H8 s8=>?_⟩
     cases hw:d2 (lf.map (·.2.2.1)) r.2.2.2 with
     | false=>
       walk_at "l2"
       refine ⟨?_,s'.trans s8,s8.get e'⟩
       rw [fs,hw,ey];simp
     | true=>
       walk_at "l2"
       refine ⟨s8.get e',?_,?_,fun b o e=>?_,av⟩
       ·rw [ey,List.length_map]
        have:=List.length_filter_le (fun r:Rw=>d2 (lf.map (·.2.2.1)) r.2.2.2) (lf.take i)
        rw [List.length_take] at this
        exact bg (by omega)
       ·rw [fs,hw,ey];simp
       ·rw [ar (ah e hD7)]
        exact s8.get (s'.get e)
    ·rw [List.length_map,List.take_length] at ey7
     rw [ey7] at e7
     walk_at "l2"
     have hsub:∀ r∈lf.filter (fun r=>d2 (lf.map (·.2.2.1)) r.2.2.2),r∈rs:=fun r hr=>sub r (List.mem_filter.mp hr).1
     have nd7:D7≠Dn:=fun z=>(by rw [z,en6] at hD7;cases hD7)
     exact ⟨_,_,D7,_,_,rfl,s06.trans s7,s7.get en6,e7,nd7,hsub,ot',hless⟩
end
section
variable {P:Program} {w:World} {K:PySem.W.Frag} {mg:Str→Option Value} {base:Heap} {a:Ad}
local macro_rules | `(tactic| walk_at "l2step") =>`(tactic| first | ((with_reducible refine' c_whole ?e ?_);(case e=>walk_at "l2kind")) | ((with_reducible refine' c_mask ?e ?_);(case e=>walk_at "l2kind")) | (with_reducible refine cG ?_) | (with_reducible refine d3 ?_))
theorem jc (T:Tx K mg a):FnOk P w K mg base (CX1 P w) 9 a.bq a.gW ["self","ins","sums","stores","outs"] (LH a.bt a.ay a.au a.am a.aw):=by
 have xR:=@tE P w K mg base a T
 have xS:=@tF P w K mg base a T
 have xQ:=@tD P w K mg base a T
 have sO:=@oP P w K mg base a T
 have IQ:=@DO P w K mg base a T
 refine T.eP.okX p8 (fun vs H Q E h=>?_) (fun cdv A outer s H vs Q E hr h=>?_)
 ·obtain ⟨x,dx,i,s,t,o,rs,qs,N,rfl,_⟩:=h;rfl
 ·obtain ⟨x,dx,i,s,t,o,rs,qs,N,rfl,hx,hn,li,qQ,qE,hor⟩:=h
  have lrs:rs.length=N.sums.length:=by rw [← hn.es,List.length_map]
  have lqs:qs.length=N.sts.length:=by rw [← hn.et,List.length_map]
  refine ⟨_,((af (bY (jI xR (hr.mono (by decide)) (by rfl) T.xi T.w9 T.iE .nil fz (aa (pv 1) (aa (pv 2) (aa (pv 3) (aa (pv 4) ad))))))
   (af (bY (ax xS (hr.mono (by decide)) (by rfl) T.xj T.xa T.iF .nil aQ (aa (aC i8 (aC i8 (bb (fL (K:=K) rfl) (by rfl) T.j5 PyProof.Rows.boot_list (aa (pv 1) ad)) (b2 (osc:=ae bw) (ON:=["self","ins","sums","stores","outs"]) (N:=["row"]) (n:=1) (fx:=[]) rfl rfl rfl (by decide +kernel) (cj (K:=K) rfl (pv 2)) (a0 (by decide)) (fun _ _ _ _ _=>⟨(az (i:=0) (show List.Nodup (["row"]:List Str) from by decide +kernel) rfl (by walk_at "o")),bF,(cu (cf (K:=K) rfl) (pv 0) ak (fun _ _=>rfl))⟩))) (b2 (osc:=ae bw) (ON:=["self","ins","sums","stores","outs"]) (N:=["row"]) (n:=1) (fx:=[]) rfl rfl rfl (by decide +kernel) (cj (K:=K) rfl (pv 3)) (a0 (by decide)) (fun _ _ _ _ _=>⟨(az (i:=0) (show List.Nodup (["row"]:List Str) from by decide +kernel) rfl (by walk_at "o")),bF,(cu (cf (K:=K) rfl) (pv 0) ak (fun _ _=>rfl))⟩))) ad)))
   (af (fT (K:=K) rfl (pv 0) (bb (b0 (K:=K) rfl) (by rfl) T.eh PyProof.Rows.boot_tuple (aa (pv 1) ad)) rfl)
   (af (fT (K:=K) rfl (pv 0) (bb (b0 (K:=K) rfl) (by rfl) T.eh PyProof.Rows.boot_tuple (aa (b2 (osc:=ae bw) (ON:=["self","ins","sums","stores","outs"]) (N:=["row"]) (n:=1) (fx:=[]) rfl rfl rfl (by decide +kernel) (cj (K:=K) rfl (pv 2)) (a0 (by decide)) (fun _ _ _ _ _=>⟨(az (i:=0) (show List.Nodup (["row"]:List Str) from by decide +kernel) rfl (by walk_at "o")),bF,(dH (aa (cu (cf (K:=K) rfl) (pv 0) ak (fun _ _=>rfl)) (aa (bb (b0 (K:=K) rfl) (by rfl) T.eh PyProof.Rows.boot_tuple (aa (cu (cf (K:=K) rfl) (pv 0) ak (fun _ _=>rfl)) ad)) ad)))⟩)) ad)) rfl)
   (af (fT (K:=K) rfl (pv 0) (bb (b0 (K:=K) rfl) (by rfl) T.eh PyProof.Rows.boot_tuple (aa (b2 (osc:=ae bw) (ON:=["self","ins","sums","stores","outs"]) (N:=["row"]) (n:=1) (fx:=[]) rfl rfl rfl (by decide +kernel) (cj (K:=K) rfl (pv 3)) (a0 (by decide)) (fun _ _ _ _ _=>⟨(az (i:=0) (show List.Nodup (["row"]:List Str) from by decide +kernel) rfl (by walk_at "o")),bF,(dH (aa (cu (cf (K:=K) rfl) (pv 0) ak (fun _ _=>rfl)) (aa (cu (cf (K:=K) rfl) (pv 0) ak (fun _ _=>rfl)) ad)))⟩)) ad)) rfl)
   (af (fT (K:=K) rfl (pv 0) (bb (b0 (K:=K) rfl) (by rfl) T.eh PyProof.Rows.boot_tuple (aa (pv 4) ad)) rfl)
   (af (fT (K:=K) rfl (pv 0) (ax sO (hr.mono (by decide)) (by rfl) T.rO T.rG T.gl .nil aQ (aa (dj (K:=K) rfl (pv 0) rfl) (aa (dj (K:=K) rfl (pv 0) rfl) (aa (dj (K:=K) rfl (pv 0) rfl) ad)))) rfl)
   (af (bY (ax xQ (hr.mono (by decide)) (by rfl) T.xh T.w8 T.iD .nil aQ (aa (dj (K:=K) rfl (pv 0) rfl) (aa (dj (K:=K) rfl (pv 0) rfl) (aa (dj (K:=K) rfl (pv 0) rfl) (aa (dj (K:=K) rfl (pv 0) rfl) ad))))))
   (al (fT (K:=K) rfl (pv 0) (bb (b0 (K:=K) rfl) (by rfl) T.eh PyProof.Rows.boot_tuple (aa (ax IQ (hr.mono (by decide)) (by rfl) T.HG T.Hm T.sD .nil aQ (aa (dj (K:=K) rfl (pv 0) rfl) ad)) ad)) rfl))))))))))),aP (σ':=[some _,some _,some _,some _,some _]) rfl ?_⟩
  walk_at "l2"
  refine ⟨i,s,t,o,rs,qs,N,rfl,hn,li,fun g H1 s1=>?_,fun hb=>qE hb,hor⟩
  have ls:=g.ls
  have lt:=g.lt
  have lo:=g.lo
  have q:=qQ g
  have hn1:=hn.same s1
  have hi1:=hn1.i
  have hs1:=hn1.s
  have ht1:=hn1.t
  walk_at "l2"
  intro D2 H2 f2 s2 e2
  have hs2:=s2.get hs1
  walk_at "l2"
  intro D3 hD3
  refine bL (xs:=rs.map fun r=>V.ref r.1) (fun i ys H'=>Cs (fun i ys=>ys=((rs.take i).map (·.2.2.1)).map V.str) H2 D3 i ys H') (Cs.zero hD3 rfl) (fun i ys H' _ c=>SqL.of (c.same.get hs2)) (fun i x ys H' hx c=>?_) (fun ys H3 c=>?_)
  ·obtain ⟨r,hr',rfl⟩:=bi hx
   have hlt:=(List.getElem?_eq_some_iff.mp hr').1
   have er:=c.same.get (s2.get (hn1.sr r (List.mem_of_getElem? hr')).1)
   walk_at "l2"
   refine Cs.put hD3 c.same c.at' c.len (by omega) ?_
   rw [c.pv,take_succ hr',List.map_append,List.map_append];rfl
  ·have e3:=c.at'
   rw [c.pv,List.length_map,List.take_length] at e3
   have s23:=c.same
   clear c
   refine qa (s23.get e2) e3 (by rw [List.length_map,List.length_map,List.length_map,sizeLine_eq];omega) fun D4 H4 f4 s4 e4=>?_
   have s14:=s2.trans (s23.trans s4)
   have ht4:=s14.get ht1
   walk_at "l2"
   intro D5 hD5
   refine bL (xs:=qs.map fun r=>V.ref r.1) (fun i ys H'=>Cs (fun i ys=>ys=((qs.take i).map (·.2.1)).map V.str) H4 D5 i ys H') (Cs.zero hD5 rfl) (fun i ys H' _ c=>SqL.of (c.same.get ht4)) (fun i x ys H' hx c=>?_) (fun ys H5 c=>?_)
   ·obtain ⟨r,hr',rfl⟩:=bi hx
    have hlt:=(List.getElem?_eq_some_iff.mp hr').1
    have er:=c.same.get (s14.get (hn1.tr r (List.mem_of_getElem? hr')))
    walk_at "l2"
    refine Cs.put hD5 c.same c.at' c.len (by omega) ?_
    rw [c.pv,take_succ hr',List.map_append,List.map_append];rfl
   ·have e5:=c.at'
    rw [c.pv,List.length_map,List.take_length] at e5
    have s45:=c.same
    clear c
    have enm:N.ins++rs.map (·.2.2.1)++qs.map (·.2.1)=N.names:=by
     unfold Nt.names
     rw [← hn.es,← hn.et,List.map_map,List.map_map];rfl
    have lnm:N.names.length≤100:=by rw [← enm,List.length_append,List.length_append,List.length_map,List.length_map];omega
    refine qa (s45.get e4) e5 (by rw [List.length_append,List.length_map,List.length_map,List.length_map,List.length_map,List.length_map,sizeLine_eq];omega) fun D6 H6 f6 s6 e6=>?_
    rw [← List.map_append,← List.map_append,enm] at e6
    have s16:=s14.trans (s45.trans s6)
    walk_at "l2"
    refine ⟨D6,N.names,rfl,e6,by omega,g.nd,g.nm,fun H7 s7=>?_⟩
    have s07:=s1.trans (s16.trans s7)
    have hn7:=hn.same s07
    have hx7:=s07.get hx
    clear e6 e5 e4 e3 e2 s16 s14 hs2 ht4 hi1 hs1 ht1 hn1 hD3 hD5 f2 f4 f6 s1 s2 s23 s4 s45 s6 s7
    have hi7:=hn7.i
    walk_at "l2"
    intro ti H8 f8 s8 e8
    walk_at "l2"
    refine fO (s8.get hx7) T.dn T.qX (by show 0 < 1000;decide) rfl fun H9 u9=>?_
    have hx8:=s8.get hx7
    have hn9:=(Kx.upd u9).hnd2 hx8 (hn7.same s8)
    have e9:=(Kx.upd u9).tup hx8 e8
    have hx9:=u9.at'
    have k9:Kx x H H9:=(Kx.same (s07.trans s8)).trans (Kx.upd u9)
    have hs9:=hn9.s
    clear u9 hx8 s8 e8 f8 hi7 hx7 hn7 s07
    walk_at "l2"
    intro D10 hD10
    refine bL (xs:=rs.map fun r=>V.ref r.1) (fun i ys H'=>∃ rs':List Rw,ys=rs'.map (fun r=>V.ref r.1)∧rs'.map (·.2.2)=(rs.take i).map (·.2.2)∧RwK H' rs'∧Same H9 H'∧H' D10=some (.lst ys)) ⟨[],rfl,rfl,fun _ h=>absurd h (by simp),bH hD10,av⟩ (fun i ys H' _ ⟨_,_,_,_,s',_⟩=>SqL.of (s'.get hs9)) ?_ ?_
    ·rintro i y ys H' hy ⟨rs',rfl,hrs,hk,s',eD⟩
     obtain ⟨r,hr',rfl⟩:=bi hy
     have hlt:=(List.getElem?_eq_some_iff.mp hr').1
     have hm:=List.mem_of_getElem? hr'
     have er:=s'.get (hn9.sr r hm).1
     have hlen:rs'.length=i:=by have:=congrArg List.length hrs;rw [List.length_map,List.length_map,List.length_take] at this;omega
     rcases (hn9.sr r hm).2 with ew | ew
     ·have ew:=s'.get ew
      walk_at "l2"
      intro tw H11 f11 s11 e11
      walk_at "l2"
      intro tr H12 f12 s12 e12
      have ntr:tr≠D10:=fun z=>(by rw [z,s11.get eD] at f12;cases f12)
      have ntw:tw≠D10:=fun z=>(by rw [z,eD] at f11;cases f11)
      have eD12:=s12.get (s11.get eD)
      refine ⟨eD12,by rw [List.length_map];exact bg (by omega),rs'++[(tr,tw,r.2.2)],by rw [List.map_append];rfl,by rw [List.map_append,hrs,take_succ hr',List.map_append];rfl,fun r2 h2=>?_,fun b ob e=>?_,av⟩
      ·rcases List.mem_append.mp h2 with h2 | h2
       ·exact ((hk.same s11).same s12).updL eD12 (fun b ob n e=>by rw [ar n];exact e) r2 h2
       ·rw [List.mem_singleton] at h2;subst h2
        exact ⟨by rw [ar ntr];exact e12,by rw [ar ntw];exact s12.get e11⟩
      ·rw [ar (ah e hD10)]
       exact s12.get (s11.get (s'.get e))
     ·have ew:=s'.get ew
      walk_at "l2"
      intro tr H12 f12 s12 e12
      have s11:Same H' H':=Same.refl _
      have ntr:tr≠D10:=fun z=>(by rw [z,s11.get eD] at f12;cases f12)
      have ntw:r.2.1≠D10:=fun z=>(by rw [z,eD] at ew;cases ew)
      have eD12:=s12.get (s11.get eD)
      refine ⟨eD12,by rw [List.length_map];exact bg (by omega),rs'++[(tr,r.2.1,r.2.2)],by rw [List.map_append];rfl,by rw [List.map_append,hrs,take_succ hr',List.map_append];rfl,fun r2 h2=>?_,fun b ob e=>?_,av⟩
      ·rcases List.mem_append.mp h2 with h2 | h2
       ·exact ((hk.same s11).same s12).updL eD12 (fun b ob n e=>by rw [ar n];exact e) r2 h2
       ·rw [List.mem_singleton] at h2;subst h2
        exact ⟨by rw [ar ntr];exact e12,by rw [ar ntw];exact s12.get ew⟩
      ·rw [ar (ah e hD10)]
       exact s12.get (s11.get (s'.get e))
    ·rintro ys H10 ⟨rs',rfl,hrs,hk,s10,eD10⟩
     rw [List.length_map,List.take_length,hn.es] at hrs
     walk_at "l2"
     intro ts H11 f11 s11 e11
     have s911:=s10.trans s11
     have hx11:=s911.get hx9
     walk_at "l2"
     refine fO hx11 T.dn T.h7 (by show 1 < 1000;decide) rfl fun H12 u12=>?_
     have hn12:=(Kx.upd u12).hnd2 hx11 (hn9.same s911)
     have e912:=(Kx.upd u12).tup hx11 (s911.get e9)
     have e12:=(Kx.upd u12).tup hx11 e11
     have rk12:=(Kx.upd u12).rw hx11 (hk.same s11)
     have hx12:=u12.at'
     have k12:Kx x H H12:=k9.trans ((Kx.same s911).trans (Kx.upd u12))
     have ht12:=hn12.t
     clear u12 hx11 s911 s10 s11 e11 f11 hk eD10 hD10 hn9 hs9 hx9 e9 k9
     walk_at "l2"
     intro D13 hD13
     refine bL (xs:=qs.map fun r=>V.ref r.1) (fun i ys H'=>∃ qs':List Qs,ys=qs'.map (fun r=>V.ref r.1)∧qs'.map (·.2)=(qs.take i).map (·.2)∧QsK H' qs'∧Same H12 H'∧H' D13=some (.lst ys)) ⟨[],rfl,rfl,fun _ h=>absurd h (by simp),bH hD13,av⟩ (fun i ys H' _ ⟨_,_,_,_,s',_⟩=>SqL.of (s'.get ht12)) ?_ ?_
     ·rintro i y ys H' hy ⟨qs',rfl,hqs,hk,s',eD⟩
      obtain ⟨r,hr',rfl⟩:=bi hy
      have hlt:=(List.getElem?_eq_some_iff.mp hr').1
      have er:=s'.get (hn12.tr r (List.mem_of_getElem? hr'))
      have hlen:qs'.length=i:=by have:=congrArg List.length hqs;rw [List.length_map,List.length_map,List.length_take] at this;omega
      walk_at "l2"
      intro tr H14 f14 s14 e14
      have ntr:tr≠D13:=fun z=>(by rw [z,eD] at f14;cases f14)
      have eD14:=s14.get eD
      refine ⟨eD14,by rw [List.length_map];exact bg (by omega),qs'++[(tr,r.2)],by rw [List.map_append];rfl,by rw [List.map_append,hqs,take_succ hr',List.map_append];rfl,fun r2 h2=>?_,fun b ob e=>?_,av⟩
      ·rcases List.mem_append.mp h2 with h2 | h2
       ·exact (hk.same s14).updL eD14 (fun b ob n e=>by rw [ar n];exact e) r2 h2
       ·rw [List.mem_singleton] at h2;subst h2
        rw [ar ntr];exact e14
      ·rw [ar (ah e hD13)]
       exact s14.get (s'.get e)
     ·rintro ys H13 ⟨qs',rfl,hqs,hqk,s13,eD13⟩
      rw [List.length_map,List.take_length,hn.et] at hqs
      walk_at "l2"
      intro tk H14 f14 s14 e14
      have s1214:=s13.trans s14
      have hx14:=s1214.get hx12
      walk_at "l2"
      refine fO hx14 T.dn T.c6 (by show 2 < 1000;decide) rfl fun H15 u15=>?_
      have hn15:=(Kx.upd u15).hnd2 hx14 (hn12.same s1214)
      have ei15:=(Kx.upd u15).tup hx14 (s1214.get e912)
      have es15:=(Kx.upd u15).tup hx14 (s1214.get e12)
      have rk15:=(Kx.upd u15).rw hx14 (rk12.same s1214)
      have et15:=(Kx.upd u15).tup hx14 e14
      have qk15:=(Kx.upd u15).qs hx14 (hqk.same s14)
      have hx15:=u15.at'
      have k15:Kx x H H15:=k12.trans ((Kx.same s1214).trans (Kx.upd u15))
      have ho15:=hn15.o
      clear u15 hx14 s1214 s13 s14 e14 f14 hqk eD13 hD13 hn12 ht12 hx12 e12 e912 k12 rk12
      walk_at "l2"
      intro to H16 f16 s16 e16
      have hx16:=s16.get hx15
      walk_at "l2"
      refine fO hx16 T.dn T.nj (by show 3 < 1000;decide) rfl fun H17 u17=>?_
      have kp17:Kpt H17 ti ts tk to rs' qs' N:=(Kx.upd u17).kpt hx16 ⟨s16.get ei15,s16.get es15,rk15.same s16,hrs,s16.get et15,qk15.same s16,hqs,e16⟩
      have hx17:=u17.at'
      have k17:Kx x H H17:=k15.trans ((Kx.same s16).trans (Kx.upd u17))
      clear u17 hx16 s16 e16 f16 hx15 k15 ei15 es15 rk15 et15 qk15 ho15 hn15
      walk_at "l2"
      refine cF hx17 T.dn T.qX rfl ?_
      walk_at "l2"
      refine cF hx17 T.dn T.h7 rfl ?_
      walk_at "l2"
      refine cF hx17 T.dn T.c6 rfl ?_
      walk_at "l2"
      refine ⟨ti,ts,tk,to,rs',qs',N,rfl,kp17,g,fun db H18 ws f18 s18 wi=>?_⟩
      have hx18:=s18.get hx17
      walk_at "l2"
      refine fO hx18 T.dn T.dJ (by show 4 < 1000;decide) rfl fun H19 u19=>?_
      have hdb:db≠x:=fj wi.d hx18 fun z=>by cases z
      have hws:∀ q∈ws,q.2≠x:=fun q hq z=>by
       obtain ⟨C,dx',fs,e,_⟩:=(wi.ob q hq).name
       rw [z,hx18] at e
       injection e with e
       injection e with _ _ e
       injection e with e _
       injection e with e _
       exact absurd e (by decide)
      have wi19:=(Kx.upd u19).wia wi hdb hws hx18
      have kp19:=(Kx.upd u19).kpt hx18 (kp17.same s18)
      have hx19:=u19.at'
      have k19:Kx x H H19:=k17.trans ((Kx.same s18).trans (Kx.upd u19))
      clear u19 wi kp17 hx17 hx18 s18 k17 f18
      walk_at "l2"
      refine cF hx19 T.dn T.h7 rfl ?_
      walk_at "l2"
      refine cF hx19 T.dn T.c6 rfl ?_
      walk_at "l2"
      refine cF hx19 T.dn T.nj rfl ?_
      walk_at "l2"
      refine cF hx19 T.dn T.dJ rfl ?_
      walk_at "l2"
      refine ⟨ti,ts,tk,to,db,rs',qs',N,rfl,kp19,g,wi19.knw,fun H20 s20=>?_⟩
      have hx20:=s20.get hx19
      have kp20:=kp19.same s20
      walk_at "l2"
      refine cF hx20 T.dn T.h7 rfl ?_
      walk_at "l2"
      refine ⟨ts,rs',N,rfl,kp20.s,kp20.sr,hrs,g,fun Do H21 od f21 s21 e21 tp=>?_⟩
      walk_at "l2"
      intro tq H22 f22 s22 e22
      have s1922:=s20.trans (s21.trans s22)
      have hx22:=s1922.get hx19
      walk_at "l2"
      refine fO hx22 T.dn T.qW (by show 5 < 1000;decide) rfl fun H23 u23=>?_
      walk_at "l2"
      exact q H23 od (k19.trans ((Kx.same s1922).trans (Kx.upd u23))) ⟨⟨dx,ti,ts,tk,to,db,tq,rs',qs',ws,u23.at',(Kx.upd u23).kpt hx22 (kp19.same s1922),(Kx.upd u23).wia (wi19.same s1922) hdb hws hx22,(Kx.upd u23).tup hx22 e22⟩,g,tp⟩
end
section
variable {P:Program} {w:World} {K:PySem.W.Frag} {mg:Str→Option Value} {base:Heap} {a:Ad}
local macro_rules | `(tactic| walk_at "l2step") =>`(tactic| first | ((with_reducible refine' c_whole ?e ?_);(case e=>walk_at "l2kind")) | ((with_reducible refine' c_mask ?e ?_);(case e=>walk_at "l2kind")) | (with_reducible refine cG ?_) | (with_reducible refine d3 ?_))
noncomputable abbrev NAof (a:Ad):NP:=fun H p N od=>NetA H a.bt a.ay a.au a.am p N od
theorem jb (T:Tx K mg a):FnOk P w K mg base CX0 1 a.bp a.gU ["self"] (Di (NAof a)):=by
 refine T.eO.ok p7 (fun vs H Q E h=>?_) (fun cdv A outer s H vs Q E hr h=>?_)
 ·obtain ⟨p,N,od,rfl,_⟩:=h;rfl
 ·obtain ⟨p,N,od,rfl,na,q⟩:=h
  obtain ⟨dx,i,s,t,o,d,tq,rs,qs,ws,hp,kp,wi,eq⟩:=na.ho
  have hi:=kp.i
  refine ⟨_,((al (a9 (bb (fL (K:=K) rfl) (by rfl) T.j5 PyProof.Rows.boot_list (aa (dj (K:=K) rfl (pv 0) rfl) ad))))),aP (σ':=[some _]) rfl ?_⟩
  walk_at "l2"
  refine cF hp T.dn T.qX rfl ?_
  walk_at "l2"
  exact q
theorem iP (T:Tx K mg a):FnOk P w K mg base CX0 1 a.bc a.gf ["self"] (LG (NAof a)):=by
 refine T.d0.ok oK (fun vs H Q E h=>?_) (fun cdv A outer s H vs Q E hr h=>?_)
 ·obtain ⟨p,N,od,rfl,_⟩:=h;rfl
 ·obtain ⟨p,N,od,rfl,na,q⟩:=h
  obtain ⟨dx,i,s,t,o,d,tq,rs,qs,ws,hp,kp,wi,eq⟩:=na.ho
  have ho:=kp.o
  refine ⟨_,((al (a9 (bb (fL (K:=K) rfl) (by rfl) T.j5 PyProof.Rows.boot_list (aa (dj (K:=K) rfl (pv 0) rfl) ad))))),aP (σ':=[some _]) rfl ?_⟩
  walk_at "l2"
  refine cF hp T.dn T.nj rfl ?_
  walk_at "l2"
  exact q
theorem hZ (T:Tx K mg a):FnOk P w K mg base CX0 1 a.aU a.fo ["self"] (Ga (NAof a)):=by
 refine T.dy.ok mP (fun vs H Q E h=>?_) (fun cdv A outer s H vs Q E hr h=>?_)
 ·obtain ⟨p,N,od,rfl,_⟩:=h;rfl
 ·obtain ⟨p,N,od,rfl,na,q⟩:=h
  obtain ⟨dx,i,s,t,o,d,tq,rs,qs,ws,hp,kp,wi,eq⟩:=na.ho
  have ht:=kp.t
  refine ⟨_,((al (a9 (bb (fL (K:=K) rfl) (by rfl) T.j5 PyProof.Rows.boot_list (aa (dj (K:=K) rfl (pv 0) rfl) ad))))),aP (σ':=[some _]) rfl ?_⟩
  walk_at "l2"
  refine cF hp T.dn T.c6 rfl ?_
  walk_at "l2"
  intro D H2 f2 s2 e2
  exact q D H2 qs f2 s2 e2 (fun q' m=>s2.get (kp.tr q' m)) kp.et
theorem tH (T:Tx K mg a):FnOk P w K mg base (CX1 P w) 7 a.bA a.iC ["self","name"] (z4 (NAof a) a.ay a.au a.am a.ao):=by
 have eV:=@lQ P w K mg base a T
 refine T.fE.okX sZ (fun vs H Q E h=>?_) (fun cdv A outer s H vs Q E hr h=>?_)
 ·obtain ⟨p,N,od,v,k,rfl,_⟩:=h;rfl
 ·obtain ⟨p,N,od,v,k,rfl,na,sv,qQ,qE⟩:=h
  have hu:=Hz hr
  obtain ⟨dx,i,s,t,o,d,tq,rs,qs,ws,hp,kp,wi,eq⟩:=na.ho
  have g:=na.g
  refine ⟨_,((af (bY (jI eV (hr.mono (by decide)) (by rfl) T.gC T.gA T.dE .nil fz (aa (pv 1) (aa (dj (K:=K) rfl (pv 0) rfl) ad))))
   (al (a9 (Mi hu (dj (K:=K) rfl (pv 0) rfl) (pv 1) (fun _ _=>rfl)))))),aP (σ':=[some _,some _]) rfl ?_⟩
  walk_at "l2"
  refine cF hp T.dn T.dJ rfl ?_
  walk_at "l2"
  refine ⟨v,k,d,N.names,rfl,sv,wi.knw,g.nm,fun z hz ev H2 s2=>?_,fun hb H2 dx' tl=>qE hb H2 dx' tl⟩
  subst ev
  have wi2:=wi.same s2
  walk_at "l2"
  refine cF (s2.get hp) T.dn T.dJ rfl ?_
  walk_at "l2"
  obtain ⟨t',m,v'⟩:=Jo (hs:=ws) (z:=z) (by rw [wi.nm];exact hz)
  refine L6 wi2.d v' ?_
  have wb:=wi2.ob _ m
  walk_at "l2"
  exact qQ z hz rfl t' H2 s2 wb
theorem mY (T:Tx K mg a):FnOk P w K mg base CX0 1 a.aS a.fk ["self"] (F9 (NAof a)):=by
 refine T.dw.ok mO (fun vs H Q E h=>?_) (fun cdv A outer s H vs Q E hr h=>?_)
 ·obtain ⟨p,N,od,rfl,_⟩:=h;rfl
 ·obtain ⟨p,N,od,rfl,na,q⟩:=h
  obtain ⟨dx,i,s,t,o,d,tq,rs,qs,ws,hp,kp,wi,eq⟩:=na.ho
  have hd:=wi.d
  refine ⟨_,((al (a9 (bb (Fh rfl) (by rfl) T.j5 PyProof.Rows.boot_list (aa (dj (K:=K) rfl (pv 0) rfl) ad))))),aP (σ':=[some _]) rfl ?_⟩
  walk_at "l2"
  refine cF hp T.dn T.dJ rfl ?_
  walk_at "l2"
  intro D H2 f2 s2 e2
  refine q D H2 f2 s2 ?_
  rw [e2,← wi.nm]
  unfold yT
  rw [List.map_map,List.map_map];rfl
theorem ja (T:Tx K mg a):FnOk P w K mg base CX0 1 a.bo a.gT ["self"] (LF (NAof a)):=by
 refine T.eN.ok p6 (fun vs H Q E h=>?_) (fun cdv A outer s H vs Q E hr h=>?_)
 ·obtain ⟨p,N,od,rfl,_⟩:=h;rfl
 ·obtain ⟨p,N,od,rfl,na,q⟩:=h
  obtain ⟨dx,i,s,t,o,d,tq,rs,qs,ws,hp,kp,wi,eq⟩:=na.ho
  have hs:=kp.s
  refine ⟨_,((al (a9 (bb (fL (K:=K) rfl) (by rfl) T.j5 PyProof.Rows.boot_list (aa (dj (K:=K) rfl (pv 0) rfl) ad))))),aP (σ':=[some _]) rfl ?_⟩
  walk_at "l2"
  refine cF hp T.dn T.h7 rfl ?_
  walk_at "l2"
  intro D H2 f2 s2 e2
  exact q D H2 rs f2 s2 e2 (RwK.same kp.sr s2) kp.es
theorem Ar (T:Tx K mg a):FnOk P w K mg base CX0 2 a.cv a.nM ["self"] (Jt (NAof a)):=by
 have g5:=@jb P w K mg base a T
 have gZ:=@ja P w K mg base a T
 have fu:=@hZ P w K mg base a T
 have gn:=@iP P w K mg base a T
 refine T.jP.ok Ab (fun vs H Q E h=>?_) (fun cdv A outer s H vs Q E hr h=>?_)
 ·obtain ⟨p,N,od,rfl,_⟩:=h;rfl
 ·obtain ⟨p,N,od,rfl,na,q⟩:=h
  obtain ⟨dx,i,s,t,o,d,tq,rs,qs,ws,hp,kp,wi,eq⟩:=na.ho
  refine ⟨_,((al (a9 (dH (aa (dI (pv 0) T.dn T.ka g5 (hr.mono (by decide)) T.eJ .nil aQ) (aa (dI (pv 0) T.dn T.j9 gZ (hr.mono (by decide)) T.eI .nil aQ) (aa (dI (pv 0) T.dn T.iR fu (hr.mono (by decide)) T.du .nil aQ) (aa (dI (pv 0) T.dn T.jj gn (hr.mono (by decide)) T.dU .nil aQ) ad)))))))),aP (σ':=[some _]) rfl ?_⟩
  walk_at "l2"
  refine dG hp rfl ?_
  walk_at "l2"
  refine ⟨p,N,od,rfl,na,fun D1 H1 f1 s1 e1=>?_⟩
  walk_at "l2"
  refine dG (s1.get hp) rfl ?_
  walk_at "l2"
  refine ⟨p,N,od,rfl,na.same s1,fun D2 H2 rs2 f2 s2 e2 rk es=>?_⟩
  have s02:=s1.trans s2
  walk_at "l2"
  refine dG (s02.get hp) rfl ?_
  walk_at "l2"
  refine ⟨p,N,od,rfl,na.same s02,fun D3 H3 qs3 f3 s3 e3 qk et=>?_⟩
  have s03:=s02.trans s3
  walk_at "l2"
  refine dG (s03.get hp) rfl ?_
  walk_at "l2"
  refine ⟨p,N,od,rfl,na.same s03,fun D4 H4 f4 s4 e4=>?_⟩
  walk_at "l2"
  intro t5 H5 f5 s5 e5
  have s45:=s4.trans s5
  have s35:=s3.trans s45
  exact q t5 D1 D2 D3 D4 H5 rs2 qs3 f1 (s1.free f2) (s02.free f3) (s03.free f4) (s03.free (s4.free f5)) (s03.trans s45) ⟨e5,s35.get (s2.get e1),s35.get e2,rk.same s35,es,s45.get e3,fun q' m=>s45.get (qk q' m),et,s5.get e4⟩
end
section
variable {P:Program} {w:World} {K:PySem.W.Frag} {mg:Str→Option Value} {base:Heap} {a:Ad}
local macro_rules | `(tactic| walk_at "l2step") =>`(tactic| first | ((with_reducible refine' c_whole ?e ?_);(case e=>walk_at "l2kind")) | ((with_reducible refine' c_mask ?e ?_);(case e=>walk_at "l2kind")) | (with_reducible refine cG ?_) | (with_reducible refine d3 ?_))
local macro_rules | `(tactic| walk_at "l2step") =>`(tactic| first | (with_reducible refine BX ?_))
theorem DN (T:Tx K mg a):FnOk P w K mg base CX0 1 a.dL a.rZ ["wires","wire","fresh"] Dd:=by
 refine T.mG.ok DA (fun vs H Q E h=>?_) (fun cdv A outer s H vs Q E hr h=>?_)
 ·obtain ⟨l,zs,w',f,rfl,_⟩:=h;rfl
 ·obtain ⟨l,zs,w',f,rfl,hl,ln,q⟩:=h
  have turn:∀ {D:Addr} {i:Nat} {z:Str} {ys:List V} {H':Hp} (hD:H D=none),zs[i]? =some z→Cs (fun i ys=>ys=((zs.take i).map (sbw w' f)).map V.str) H D i ys H'→H' D=some (.lst ys)∧ys.length < sizeLine∧Cs (fun i ys=>ys=((zs.take i).map (sbw w' f)).map V.str) H D (i + 1) (ys++[.str (sbw w' f z)]) (upd H' D (.lst (ys++[.str (sbw w' f z)]))):=fun {D i z ys H'} hD hz c=>by
   have hi:=(List.getElem?_eq_some_iff.mp hz).1
   refine Cs.put hD c.same c.at' c.len (by omega) ?_
   rw [c.pv,take_succ hz,List.map_append,List.map_append];rfl
  refine ⟨_,((al (a9 (b2 (osc:=ae fP) (ON:=["wires","wire","fresh"]) (N:=["other","wire","fresh"]) (n:=1) (fx:=[1,2]) rfl rfl rfl (by decide +kernel) (mT (K:=K) rfl (pv 0)) (a0 (by decide)) (fun _ _ _ _ _=>⟨(az (i:=0) (show List.Nodup (["other","wire","fresh"]:List Str) from by decide +kernel) rfl (by walk_at "o")),bF,(JP (aZ mW (pv 0) (pv 1) (bx _)) (pv 2) (pv 0))⟩))))),aP (σ':=[some _,some _,some _]) rfl ?_⟩
  walk_at "l2"
  rcases hl with hl | hl
  ·refine .inl ⟨⟨_,SqL.of hl⟩,fun D hD=>?_⟩
   refine bL (xs:=zs.map V.str) (fun i ys H'=>Cs (fun i ys=>ys=((zs.take i).map (sbw w' f)).map V.str) H D i ys H') (Cs.zero hD rfl) (fun i ys H' _ c=>SqL.of (c.same.get hl)) (fun i v ys H' hv c=>?_) (fun ys H' c=>?_)
   ·obtain ⟨z,hz,rfl⟩:=bi hv
    have t':=turn hD hz c
    walk_at "l2"
    unfold sbw at t'
    by_cases hzw:z=w'
    ·rw [if_pos hzw] at t'
     refine gK (decide_eq_true (by rw [hzw])) ?_
     walk_at "l2"
     exact t'
    ·rw [if_neg hzw] at t'
     refine eR (decide_eq_false fun e=>hzw (V.str.inj e)) ?_
     walk_at "l2"
     exact t'
   ·have e2:=c.at'
    rw [c.pv,List.length_map,List.take_length] at e2
    exact q D H' hD c.same e2
  ·refine .inr ⟨⟨_,SqT.of hl⟩,fun D hD=>?_⟩
   refine pS (xs:=zs.map V.str) (fun i ys H'=>Cs (fun i ys=>ys=((zs.take i).map (sbw w' f)).map V.str) H D i ys H') (Cs.zero hD rfl) (fun i ys H' _ c=>SqT.of (c.same.get hl)) (fun i v ys H' hv c=>?_) (fun ys H' c=>?_)
   ·obtain ⟨z,hz,rfl⟩:=bi hv
    have t':=turn hD hz c
    walk_at "l2"
    unfold sbw at t'
    by_cases hzw:z=w'
    ·rw [if_pos hzw] at t'
     refine gK (decide_eq_true (by rw [hzw])) ?_
     walk_at "l2"
     exact t'
    ·rw [if_neg hzw] at t'
     refine eR (decide_eq_false fun e=>hzw (V.str.inj e)) ?_
     walk_at "l2"
     exact t'
   ·have e2:=c.at'
    rw [c.pv,List.length_map,List.take_length] at e2
    exact q D H' hD c.same e2
end
section
variable {P:Program} {w:World} {K:PySem.W.Frag} {mg:Str→Option Value} {base:Heap} {a:Ad}
local macro_rules | `(tactic| walk_at "l2step") =>`(tactic| first | ((with_reducible refine' c_whole ?e ?_);(case e=>walk_at "l2kind")) | ((with_reducible refine' c_mask ?e ?_);(case e=>walk_at "l2kind")) | (with_reducible refine cG ?_) | (with_reducible refine d3 ?_))
local macro_rules | `(tactic| walk_at "l2step") =>`(tactic| first | (with_reducible refine vU ?_) | (with_reducible refine Gu ?_) | (with_reducible refine Gz ?_) | (with_reducible refine Gv ?_) | (with_reducible refine Ac ?_) | (with_reducible refine s_try ?_))
local macro_rules | `(tactic| walk_at "l2step") =>`(tactic| first | (with_reducible refine BX ?_))
local macro_rules | `(tactic| walk_at "l2step") =>`(tactic| first | (with_reducible refine Gy ?_) | (with_reducible refine yf ?_))
theorem Oy (T:Tx K mg a):FnOk P w K mg base (CX1 P w) 11 a.xn a.MP ["net","wire","fresh"] (Nv (NAof a) a.ao a.aj a.ai a.aw):=by
 have jG:=@mX P w K mg base a T
 have mF:=@kH P w K mg base a T
 have mE:=@kG P w K mg base a T
 have sP:=@DN P w K mg base a T
 have g6:=@jc P w K mg base a T
 have xU:=@tH P w K mg base a T
 have pK:=@mY P w K mg base a T
 have gZ:=@ja P w K mg base a T
 have fu:=@hZ P w K mg base a T
 have g5:=@jb P w K mg base a T
 have gn:=@iP P w K mg base a T
 refine T.KO.okX Gq (fun vs H Q E h=>?_) (fun cdv A outer s H vs Q E hr h=>?_)
 ·obtain ⟨p,N,od,v,f,k,k',rfl,_⟩:=h;rfl
 ·obtain ⟨p,N,od,v,f,k,k',rfl,na,th,sf,qN,qB,qD,qM⟩:=h
  have hu:=Hz hr
  obtain ⟨dx,i,s,t,o,d,tq,rs,qs,ws,hp,kp,wi,eq⟩:=na.ho
  have g:=na.g
  have li:=g.li
  have ls:=g.ls
  have lt:=g.lt
  have lo:=g.lo
  have fin:∀ (C:Addr) {H2:Hp} (σ:St),Same H H2→(∀ H2 dx,Tld H H2 dx f→E (.ref C) (some dx) H2)→pU C (g7 C) E0 (fun _=>E) σ [f] H2:=fun C {H2} σ s2 qE=>vd fun x H3 f3 s3 e3=>⟨x,f,k',rfl,.sc sf,e3,fun v2 H4 e4 k4 cp=>by
   obtain ⟨dx,a1,a2⟩:=Nd (H:=H2) f3 e4 fun b u hb' e'=>k4 _ _ hb' (s3.get e')
   have hv:v2=f:=by
    cases cp with
    | sc h=>rfl
    | nil c1 c2=>cases sf
    | one c1 c2=>cases sf
   rw [hv] at a2
   exact ⟨rfl,some dx,a1,qE _ dx (a2.pre s2)⟩⟩
  refine ⟨_,((af (bY (JO (pv 0) T.dn T.wQ xU (hr.mono (by decide)) T.iH .nil fz (aa (pv 1) ad)))
   (af (cw (jY (eS (ax jG (hr.mono (by decide)) (by rfl) T.rR T.rK T.jB .nil aQ (aa (pv 2) ad)))) (al (qd T.sN mF (hr.mono (by decide)) (by rfl) T.y9 T.dX aQ fz rfl (aa (pv 2) ad))) aR)
   (af (cw (aZ (Ow (K:=K) rfl) (pv 2) (dI (pv 0) T.dn T.pd pK (hr.mono (by decide)) T.fq .nil aQ) (by rfl)) (al (qd T.sM mE (hr.mono (by decide)) (by rfl) T.y8 T.dW aQ fz rfl (aa (pv 2) ad))) aR)
   (af (ij (osc:=ae s_cut) (ON:=["net","wire","fresh","sums","stores"]) (N:=["row","wire","fresh"]) (n:=1) (fx:=[1,2]) (i:=3) Gq.nd rfl rfl rfl rfl rfl rfl (by decide +kernel) (cj (K:=K) rfl (dI (pv 0) T.dn T.j9 gZ (hr.mono (by decide)) T.eI .nil aQ)) (a0 (by decide)) (fun _ _ _ _ _=>⟨(az (i:=0) (show List.Nodup (["row","wire","fresh"]:List Str) from by decide +kernel) rfl (by walk_at "o")),bF,(dH (aa (cu (cf (K:=K) rfl) (pv 0) ak (fun _ _=>rfl)) (aa (ax sP (hr.mono (by decide)) (by rfl) T.rP T.rH T.jA .nil aQ (aa (cu (cf (K:=K) rfl) (pv 0) ak (fun _ _=>rfl)) (aa (pv 1) (aa (pv 2) ad)))) ad)))⟩))
   (af (bY (i5 (K:=K) rfl PySem.F.plainAttrs_list PySem.F.slot_list_append PySem.F.type_list_append gb (pv 3) (aa (dH (aa (pv 2) (aa (bV ad) ad))) ad)))
   (af (ij (osc:=ae s_cut) (ON:=["net","wire","fresh","sums","stores"]) (N:=["row","wire","fresh"]) (n:=1) (fx:=[1,2]) (i:=4) Gq.nd rfl rfl rfl rfl rfl rfl (by decide +kernel) (cj (K:=K) rfl (dI (pv 0) T.dn T.iR fu (hr.mono (by decide)) T.du .nil aQ)) (a0 (by decide)) (fun _ _ _ _ _=>⟨(az (i:=0) (show List.Nodup (["row","wire","fresh"]:List Str) from by decide +kernel) rfl (by walk_at "o")),bF,(dH (aa (cu (cf (K:=K) rfl) (pv 0) ak (fun _ _=>rfl)) (aa (cu (ck (K:=K) rfl) (ax sP (hr.mono (by decide)) (by rfl) T.rP T.rH T.jA .nil aQ (aa (bV (aa (cu (cf (K:=K) rfl) (pv 0) ak (fun _ _=>rfl)) ad)) (aa (pv 1) (aa (pv 2) ad)))) ak (fun _ _=>rfl)) ad)))⟩))
   (al (a9 (BZ T.Pn g6 (hr.mono (by decide)) (by rfl) T.OU T.eK .nil fz (aa (dI (pv 0) T.dn T.ka g5 (hr.mono (by decide)) T.eJ .nil aQ) (aa (pv 3) (aa (pv 4) (aa (ax sP (hr.mono (by decide)) (by rfl) T.rP T.rH T.jA .nil aQ (aa (dI (pv 0) T.dn T.jj gn (hr.mono (by decide)) T.dU .nil aQ) (aa (pv 1) (aa (pv 2) ad)))) ad)))))))))))))),aP (σ':=[some _,some _,some _,none,none]) rfl ?_⟩
  walk_at "l2"
  refine Gx hp rfl ?_
  walk_at "l2"
  refine ⟨p,N,od,v,k,rfl,na,th,fun w' hw ev w1 H1 s1 wb=>?_,fun hno H2 dx tl=>qN hno H2 dx tl⟩
  subst ev
  clear wb
  walk_at "l2"
  refine ⟨f,k',rfl,sf.kind,fun z e=>by subst e;exact sf.len z rfl,fun H2 s2=>?_⟩
  have s02:=s1.trans s2
  by_cases hn:ui f=false
  ·rw [hn]
   walk_at "l2"
   exact fin a.aj _ s02 fun H2 dx tl=>qB w' hw rfl hn H2 dx tl
  have hn:ui f=true:=by simpa using hn
  rw [hn]
  cases sf with
  | int=>cases hn
  | bl=>cases hn
  | non=>cases hn
  | str z lz=>
  have nz:Nm z:=hn
  walk_at "l2"
  refine dG (s02.get hp) rfl ?_
  walk_at "l2"
  refine ⟨p,N,od,rfl,na.same s02,fun Dn H3 f3 s3 e3=>?_⟩
  have s03:=s02.trans s3
  walk_at "l2"
  refine ⟨Dn,_,rfl,.inl (SqL.of e3),rfl,by rw [List.all_eq_true];intro x hx;obtain ⟨y,_,rfl⟩:=List.mem_map.mp hx;rfl,?_⟩
  refine ⟨_,rfl,?_⟩
  by_cases hz:z∈N.names
  ·have hib:(if false=true then !inV (V.str z) (N.names.map V.str) else inV (V.str z) (N.names.map V.str))=true:=Hy.mpr hz
   rw [if_pos hib]
   walk_at "l2"
   exact fin a.ai _ s03 fun H2 dx tl=>qD w' hw rfl z hz rfl H2 dx tl
  have hib:(if false=true then !inV (V.str z) (N.names.map V.str) else inV (V.str z) (N.names.map V.str))=false:=by
   rw [← Bool.not_eq_true];exact fun h=>hz (Hy.mp h)
  rw [if_neg (by rw [hib];decide)]
  obtain ⟨qM1,qM2⟩:=qM w' hw rfl z rfl nz hz
  clear fin qN qB qD hib
  walk_at "l2"
  refine dG (s03.get hp) rfl ?_
  walk_at "l2"
  refine ⟨p,N,od,rfl,na.same s03,fun D4 H4 rs4 f4 s4 e4 rk4 er4=>?_⟩
  have s04:=s03.trans s4
  have lr4:rs4.length=N.sums.length:=by rw [← er4,List.length_map]
  walk_at "l2"
  intro D5 hD5
  refine bL (xs:=rs4.map fun r=>V.ref r.1) (fun i ys H'=>∃ rs':List Rw,ys=rs'.map (fun r=>V.ref r.1)∧rs'.map (·.2.2)=(rs4.take i).map (fun r=>(r.2.2.1,r.2.2.2.map (sbw w' z)))∧RwLs H' rs'∧(∀ r∈rs',r.2.1≠D5)∧Same H4 H'∧H' D5=some (.lst ys)) ⟨[],rfl,rfl,fun _ h=>absurd h (by simp),fun _ h=>absurd h (by simp),bH hD5,av⟩ (fun i ys H' _ ⟨_,_,_,_,_,s',_⟩=>SqL.of (s'.get e4)) ?_ ?_
  ·rintro j y ys H' hy ⟨rs',rfl,hrs,rl,rd,s',eD⟩
   obtain ⟨r,hr',rfl⟩:=bi hy
   have hlt:=(List.getElem?_eq_some_iff.mp hr').1
   have hm:=List.mem_of_getElem? hr'
   have er:=s'.get (rk4 r hm).1
   have ew:=s'.get (rk4 r hm).2
   have hlw:=g.lw r.2.2 (by rw [← er4];exact List.mem_map.mpr ⟨r,hm,rfl⟩)
   have hlen:rs'.length=j:=by have:=congrArg List.length hrs;rw [List.length_map,List.length_map,List.length_take] at this;omega
   walk_at "l2"
   refine ⟨r.2.1,r.2.2.2,w',z,rfl,.inr ew,by omega,fun B1 H6 f6 s6 e6=>?_⟩
   walk_at "l2"
   intro tr H7 f7 s7 e7
   have nB:B1≠D5:=fun zz=>by rw [zz,eD] at f6;cases f6
   have eD7:=s7.get (s6.get eD)
   refine ⟨eD7,by rw [List.length_map];exact bg (by omega),rs'++[(tr,B1,r.2.2.1,r.2.2.2.map (sbw w' z))],by rw [List.map_append];rfl,by rw [List.map_append,hrs,take_succ hr',List.map_append];rfl,fun r2 h2=>?_,fun r2 h2=>?_,fun b ob e=>?_,av⟩
   ·rcases List.mem_append.mp h2 with h | h
    ·have t1:=s7.get (s6.get (rl r2 h).1)
     have t2:=s7.get (s6.get (rl r2 h).2)
     exact ⟨by rw [ar (fj t1 eD7 fun z=>by cases z)];exact t1,by rw [ar (rd r2 h)];exact t2⟩
    ·rw [List.mem_singleton] at h;subst h
     exact ⟨by rw [ar (fj e7 eD7 fun z=>by cases z)];exact e7,by rw [ar nB];exact s7.get e6⟩
   ·rcases List.mem_append.mp h2 with h | h
    ·exact rd r2 h
    ·rw [List.mem_singleton] at h;subst h;exact nB
   ·rw [ar (ah e hD5)]
    exact s7.get (s6.get (s'.get e))
  rintro ys H5 ⟨rs',rfl,hrs,rl,rd,s45,eD⟩
  rw [List.length_map,List.take_length] at hrs
  have lrs':rs'.length=rs4.length:=by have:=congrArg List.length hrs;rw [List.length_map,List.length_map] at this;exact this
  walk_at "l2"
  intro B6 H6 f6 s6 e6
  walk_at "l2"
  intro t7 H7 f7 s7 e7
  have s57:=s6.trans s7
  have eD7:=s57.get eD
  have nB:B6≠D5:=fun zz=>by rw [zz,eD] at f6;cases f6
  walk_at "l2"
  refine gw eD7 (by rw [List.length_map];exact bg (by omega)) fun H8 u8=>?_
  have s48:Same H4 H8:=fun b ob e=>u8.oth _ _ (ah e hD5) (s57.get (s45.get e))
  have s08:=s04.trans s48
  obtain ⟨rs8,hrs8⟩:∃ rs8:List Rw,rs8=rs'++[(t7,B6,z,[])]:=⟨_,rfl⟩
  have e8:H8 D5=some (.lst (rs8.map fun r=>V.ref r.1)):=by rw [u8.at',hrs8,List.map_append];rfl
  have rl8:RwLs H8 rs8:=fun r hr2=>by
   rw [hrs8] at hr2
   rcases List.mem_append.mp hr2 with h | h
   ·have t1:=s57.get (rl r h).1
    exact ⟨u8.oth _ _ (fj t1 eD7 fun z=>by cases z) t1,u8.oth _ _ (rd r h) (s57.get (rl r h).2)⟩
   ·rw [List.mem_singleton] at h;subst h
    exact ⟨u8.oth _ _ (fj e7 eD7 fun z=>by cases z) e7,u8.oth _ _ nB (s7.get e6)⟩
  have es8:rs8.map (·.2.2)=(cutN N w' z).sums:=by
   unfold cutN
   rw [hrs8,List.map_append,hrs,← er4,List.map_map];rfl
  clear u8 e7 e6 f6 f7 eD7 eD rl rd s57 s6 s7 s45 nB e4 rk4 hrs hrs8
  walk_at "l2"
  refine dG (s08.get hp) rfl ?_
  walk_at "l2"
  refine ⟨p,N,od,rfl,na.same s08,fun D9 H9 qs9 f9 s9 e9 qk9 eq9=>?_⟩
  have s09:=s08.trans s9
  have lq9:qs9.length=N.sts.length:=by rw [← eq9,List.length_map]
  walk_at "l2"
  intro A7 hA7
  refine bL (xs:=qs9.map fun r=>V.ref r.1) (fun i ys H'=>∃ qs':List Qs,ys=qs'.map (fun r=>V.ref r.1)∧qs'.map (·.2)=(qs9.take i).map (fun r=>(r.2.1,sbw w' z r.2.2))∧QsK H' qs'∧Same H9 H'∧H' A7=some (.lst ys)) ⟨[],rfl,rfl,fun _ h=>absurd h (by simp),bH hA7,av⟩ (fun i ys H' _ ⟨_,_,_,_,s',_⟩=>SqL.of (s'.get e9)) ?_ ?_
  ·rintro j y ys H' hy ⟨qs',rfl,hqs,hk',s',eD⟩
   obtain ⟨r,hr',rfl⟩:=bi hy
   have hlt:=(List.getElem?_eq_some_iff.mp hr').1
   have hm:=List.mem_of_getElem? hr'
   have er:=s'.get (qk9 r hm)
   have hlen:qs'.length=j:=by have:=congrArg List.length hqs;rw [List.length_map,List.length_map,List.length_take] at this;omega
   walk_at "l2"
   intro B8 H10 f10 s10 e10
   walk_at "l2"
   refine ⟨B8,[r.2.2],w',z,rfl,.inl e10,by show 1≤1000;omega,fun B9 H11 f11 s11 e11=>?_⟩
   have e11:H11 B9=some (.lst [.str (sbw w' z r.2.2)]):=e11
   walk_at "l2"
   intro tr H12 f12 s12 e12
   have s1012:=s10.trans (s11.trans s12)
   have eD12:=s1012.get eD
   have ntr:tr≠A7:=fun zz=>(by rw [zz,s11.get (s10.get eD)] at f12;cases f12)
   refine ⟨eD12,by rw [List.length_map];exact bg (by omega),qs'++[(tr,r.2.1,sbw w' z r.2.2)],by rw [List.map_append];rfl,by rw [List.map_append,hqs,take_succ hr',List.map_append];rfl,fun r2 h2=>?_,fun b ob e=>?_,av⟩
   ·rcases List.mem_append.mp h2 with h2 | h2
    ·have hq2:=s1012.get (hk' r2 h2)
     rw [ar (fj hq2 eD12 fun z=>by cases z)];exact hq2
    ·rw [List.mem_singleton] at h2;subst h2
     rw [ar ntr];exact e12
   ·rw [ar (ah e hA7)]
    exact s1012.get (s'.get e)
  rintro ys H10 ⟨qs',rfl,hqs,hk10,s10,eA10⟩
  rw [List.length_map,List.take_length] at hqs
  have s010:=s09.trans s10
  have s810:=s9.trans s10
  walk_at "l2"
  refine dG (s010.get hp) rfl ?_
  walk_at "l2"
  refine ⟨p,N,od,rfl,na.same s010,fun D11 H11 f11 s11 e11=>?_⟩
  have s011:=s010.trans s11
  walk_at "l2"
  refine dG (s011.get hp) rfl ?_
  walk_at "l2"
  refine ⟨p,N,od,rfl,na.same s011,fun D12 H12 f12 s12 e12=>?_⟩
  have s012:=s011.trans s12
  walk_at "l2"
  refine ⟨D12,N.outs,w',z,rfl,.inl e12,by omega,fun D13 H13 f13 s13 e13=>?_⟩
  have s013:=s012.trans s13
  have s1013:=s11.trans (s12.trans s13)
  walk_at "l2"
  intro x dx H14 f14 s14 e14
  have s014:=s013.trans s14
  have s1014:=s1013.trans s14
  have hn14:Hnd2 H14 D11 D5 A7 D13 rs8 qs' (cutN N w' z):=⟨s14.get (s13.get (s12.get e11)),s1014.get (s810.get e8),fun r m=>⟨s1014.get (s810.get (rl8 r m).1),.inl (s1014.get (s810.get (rl8 r m).2))⟩,es8,s1014.get eA10,fun q' m=>s1014.get (hk10 q' m),by unfold cutN;rw [hqs,← eq9,List.map_map];rfl,s14.get e13⟩
  have lsn:(cutN N w' z).sums.length=N.sums.length + 1:=by unfold cutN;rw [List.length_append,List.length_map];rfl
  refine ⟨x,dx,D11,D5,A7,D13,rs8,qs',cutN N w' z,rfl,e14,hn14,li,fun g2 H15 od2 k15 na2=>⟨rfl,?_⟩,fun hb=>qM1 (by omega) H14 s014,?_⟩
  ·have:=g2.ls
   exact qM2 (by omega) x H15 od2 (s013.free f14) (fun b ob e=>k15 _ _ (ah (s013.get e) f14) (s14.get (s013.get e))) na2
  ·by_cases hm:N.sums.length≤39
   ·exact .inl (Kz g hm nz hz)
   ·exact .inr (by omega)
end
section
variable {P:Program} {w:World} {K:PySem.W.Frag} {mg:Str→Option Value} {base:Heap} {a:Ad}
local macro_rules | `(tactic| walk_at "l2step") =>`(tactic| first | ((with_reducible refine' c_whole ?e ?_);(case e=>walk_at "l2kind")) | ((with_reducible refine' c_mask ?e ?_);(case e=>walk_at "l2kind")) | (with_reducible refine cG ?_) | (with_reducible refine d3 ?_))
local macro_rules | `(tactic| walk_at "l2step") =>`(tactic| first | (with_reducible refine vU ?_) | (with_reducible refine Gu ?_) | (with_reducible refine Gz ?_) | (with_reducible refine Gv ?_) | (with_reducible refine Ac ?_) | (with_reducible refine s_try ?_))
theorem wm (T:Tx K mg a):FnOk P w K mg base CX0 12 a.b8 a.jr ["_law_net_one","_law_wire","_law_fresh"] (Gg (NAof a)):=by
 have Qp:=@Oy P w K mg base a T
 refine T.gH.ok bG (fun vs H Q E h=>?_) (fun cdv A outer s H vs Q E hr h=>?_)
 ·obtain ⟨p,N,od,v,f,k,k',rfl,_⟩:=h;rfl
 ·obtain ⟨p,N,od,v,f,k,k',rfl,na,th,sf,q⟩:=h
  have g:=na.g
  have mv:∀ {w':Str} {x:V},w'∈N.names→x= .str w'→x∈N.names.map V.str:=fun hw e=>List.mem_map.mpr ⟨_,hw,e.symm⟩
  have q2:∀ (c:Nat) (D:Addr) (r1 r2:V) (H2:Hp),dueA N.names N.sums.length v f=c→Same H H2→H2 D=some (.lst [r1,r2])→DueV H2 r2 c v f→FndV (NAof a) H2 r1 c N v f→Q (.ref D) H2:=fun c D r1 r2 H2 hc s2 e2 dv fv=>q D r1 r2 v H2 s2 e2 (th.cpy.same s2) (by rw [hc];exact dv) (by rw [hc];exact fv)
  have fn:∀ {H2:Hp} {c:Nat},c≠4→FndV (NAof a) H2 .non c N v f:=fun h=>by unfold FndV;rw [if_neg h]
  refine ⟨_,((af (bf (i:=3) bG.nd rfl (by walk_at "o") n9)
   (af (bf (i:=4) bG.nd rfl (by walk_at "o") n9)
   (af (Md ⟨rfl,rfl⟩ thr0 bG.nd (PH.cons (i:=5) T.Kn (by rfl) T.Ci rfl rfl (fun _ _=>(al (bf (i:=4) bG.nd rfl (by walk_at "o") (bV (aa bE (aa (Am (K:=K) rfl (pv 5) rfl) ad)))))) (by decide) (PH.cons (i:=5) T.HE (by rfl) T.y9 rfl rfl (fun _ _=>(al (bf (i:=4) bG.nd rfl (by walk_at "o") (bV (aa bE (aa (Am (K:=K) rfl (pv 5) rfl) ad)))))) (by decide) (PH.cons (i:=5) T.HD (by rfl) T.y8 rfl rfl (fun _ _=>(al (bf (i:=4) bG.nd rfl (by walk_at "o") (bV (aa bE (aa (Am (K:=K) rfl (pv 5) rfl) ad)))))) (by decide) (PH.cons (i:=5) T.HC (by rfl) T.y3 rfl rfl (fun _ _=>(af (bf (i:=4) bG.nd rfl (by walk_at "o") (bV (aa bE ad)))
   (al (cw (jY (eS (aD (Ij (K:=K) rfl) (by rfl) T.b5 PyProof.Rows.boot_isinstance (aa (pv 5) (aa (ff (v:= .ref a.aA) (by rfl) T.ir rfl) ad))))) (al (bf (i:=4) bG.nd rfl (by walk_at "o") (bV ad))) aR)))) (by decide) PH.nil)))) (fun _ _ _ _ _ h=>let ⟨c,e,_⟩:=h;⟨c,e⟩) (fun _ _=>(al (bf (i:=3) bG.nd rfl (by walk_at "o") (jI Qp (hr.mono (by decide)) (by rfl) T.Qi T.Qh T.MS .nil fz (aa (pv 0) (aa (pv 1) (aa (pv 2) ad))))))))
   (al (a9 (bV (aa (pv 3) (aa (pv 4) ad))))))))),aP (σ':=[some _,some _,some _,none,none,none]) rfl ?_⟩
  walk_at "l2"
  refine ⟨p,N,od,v,f,k,k',rfl,na,th,sf,fun hno H2 dx tl=>?_,fun w' hw ev hn H2 dx tl=>?_,fun w' hw ev z hz ef H2 dx tl=>?_,fun w' hw ev z ef nz hz=>⟨fun hm H2 s2=>?_,fun hm n H2 od2 fn' s2 na2=>?_⟩⟩
  ·have hc:dueA N.names N.sums.length v f=0:=by
    unfold dueA;rw [if_neg];intro h;obtain ⟨z,hz,e⟩:=List.mem_map.mp h;exact hno z hz e.symm
   obtain ⟨v2,tl,cp⟩:=tl
   refine pO T.fS fun x H3 f3 u3=>?_
   have ec:=Bd f3 tl.2 u3
   have s23:=lE f3 u3
   have s03:=tl.1.trans s23
   have cp3:=cp.same s23
   walk_at "l2"
   refine vV ec T.KM T.rM T.l7 rfl ?_
   walk_at "l2"
   intro D4 H4 f4 s4 e4
   walk_at "l2"
   refine BW ?_
   walk_at "l2"
   intro D5 H5 f5 s5 e5
   walk_at "l2"
   exact q D5 .non (.ref D4) v2 H5 (s03.trans (s4.trans s5)) e5 (cp3.same (s4.trans s5)) (by rw [hc];exact ⟨D4,rfl,s5.get e4⟩) (by rw [hc];exact fn (by decide))
  ·have hc:dueA N.names N.sums.length v f=1:=by
    unfold dueA;rw [if_pos (mv hw ev),if_neg (by rw [hn];decide)]
   refine ve T.eZ ?_
   refine pO T.eg fun x H3 f3 u3=>?_
   have ec:=Bd f3 tl.2 u3
   have s03:=tl.1.trans (lE f3 u3)
   walk_at "l2"
   refine vV ec T.IO T.nG T.j8 rfl ?_
   walk_at "l2"
   intro D4 H4 f4 s4 e4
   walk_at "l2"
   refine BW ?_
   walk_at "l2"
   intro D5 H5 f5 s5 e5
   walk_at "l2"
   exact q2 1 D5 .non (.ref D4) H5 hc (s03.trans (s4.trans s5)) e5 ⟨D4,rfl,s5.get e4⟩ (fn (by decide))
  ·have hc:dueA N.names N.sums.length v f=2:=by
    unfold dueA;rw [if_pos (mv hw ev),if_pos (by rw [ef];exact g.nm z hz),if_pos (mv hz ef)]
   refine ve T.eX ?_
   refine ve T.ee ?_
   refine pO T.d9 fun x H3 f3 u3=>?_
   have ec:=Bd f3 tl.2 u3
   have s03:=tl.1.trans (lE f3 u3)
   walk_at "l2"
   refine vV ec T.IN T.nF T.j7 rfl ?_
   walk_at "l2"
   intro D4 H4 f4 s4 e4
   walk_at "l2"
   refine BW ?_
   walk_at "l2"
   intro D5 H5 f5 s5 e5
   walk_at "l2"
   exact q2 2 D5 .non (.ref D4) H5 hc (s03.trans (s4.trans s5)) e5 ⟨D4,rfl,s5.get e4⟩ (fn (by decide))
  ·have hf:f∉N.names.map V.str:=fun h=>by
    obtain ⟨y,hy,e⟩:=List.mem_map.mp h
    rw [ef] at e
    exact hz (by rw [← V.str.inj e];exact hy)
   have hc:dueA N.names N.sums.length v f=3:=by
    unfold dueA;rw [if_pos (mv hw ev),if_pos (by rw [ef];exact nz),if_neg hf,if_pos hm]
   refine ve T.eW ?_
   refine ve T.d8 ?_
   refine ve T.d7 ?_
   refine pO T.d6 fun x H3 f3 u3=>?_
   have s03:=s2.trans (lE f3 u3)
   walk_at "l2"
   intro D4 H4 f4 s4 e4
   have eu:=s4.get u3.at'
   walk_at "l2"
   refine NO eu T.IM rfl T.dA ?_
   walk_at "l2"
   refine BW ?_
   walk_at "l2"
   intro D5 H5 f5 s5 e5
   walk_at "l2"
   exact q2 3 D5 .non (.ref D4) H5 hc (s03.trans (s4.trans s5)) e5 ⟨D4,rfl,s5.get e4⟩ (fn (by decide))
  ·have hf:f∉N.names.map V.str:=fun h=>by
    obtain ⟨y,hy,e⟩:=List.mem_map.mp h
    rw [ef] at e
    exact hz (by rw [← V.str.inj e];exact hy)
   have hc:dueA N.names N.sums.length v f=4:=by
    unfold dueA;rw [if_pos (mv hw ev),if_pos (by rw [ef];exact nz),if_neg hf,if_neg (by omega)]
   walk_at "l2"
   intro D5 H5 f5 s5 e5
   walk_at "l2"
   refine q2 4 D5 (.ref n) .non H5 hc (s2.trans s5) e5 rfl ?_
   unfold FndV
   rw [if_pos rfl]
   exact ⟨n,w',z,od2,rfl,ev,ef,na2.same s5⟩
end
section
variable {P:Program} {w:World} {K:PySem.W.Frag} {mg:Str→Option Value} {base:Heap} {a:Ad}
theorem oj (T:Tx K mg a):FnOk P w K mg base CX0 1 a.cB a.la ["_law_script","_law_k"] (BV K):=by
 refine T.iJ.ok ye (fun vs H Q E h=>?_) (fun cdv A outer s H vs Q E hr h=>?_)
 ·obtain ⟨a,ns,k,rfl,_⟩:=h;rfl
 ·obtain ⟨p,ns,k,rfl,hS,h0,q⟩:=h
  refine ⟨_,((af (cw (aZ JR (pv 1) (aD (be (K:=K) rfl) (by rfl) T.fZ PySem.boot_len (aa (pv 0) ad)) (bx _)) (al (a9 (cu (ck (K:=K) rfl) (pv 0) (pv 1) (fun _ _=>rfl)))) aR)
   (al (a9 (aC cy (aC oi ak (pv 1)) ak))))),aP (σ':=[some _,some _]) rfl ?_⟩
  walk_at "l2"
  rw [List.length_map]
  unfold cell at q
  refine ite2 (fun hc=>?_) (fun hc=>?_)
  ·have hc:=of_decide_eq_true hc
   have ha:atI (ns.map V.int) k=some (.int (ns.getD k.toNat 0)):=by
    obtain ⟨j,rfl⟩:=Int.eq_ofNat_of_zero_le h0
    have hj:j < ns.length:=by omega
    exact bv (by rw [List.getElem?_map,List.getElem?_eq_getElem hj,List.getD_eq_getElem?_getD,Int.toNat_natCast,List.getElem?_eq_getElem hj];rfl)
   rw [if_pos hc] at q
   walk_at "l2"
   exact q
  ·have hc:¬ k < ns.length:=fun z=>hc (decide_eq_true z)
   rw [if_neg hc] at q
   walk_at "l2"
   exact q
theorem Cw {H:Hp} {Q:VK} {E:XK} {c k:Int} (h0:0≤k) (h1:k < 100000) (q:Q (.int (mixV c k)) H):Gc [.int c,.int k] H Q E:=⟨c,k,rfl,h0,h1,q⟩
local macro_rules | `(tactic| walk_at "l2step") =>`(tactic| first | ((with_reducible refine' Cw ?a ?b ?_);(case a=>walk_at "l2side");(case b=>walk_at "l2side")) | ((with_reducible refine' xD ?e ?a ?_);(case e=>walk_at "l2hp");(case a=>walk_at "l2side")))
theorem fX (T:Tx K mg a):FnOk P w K mg base CX0 1 a.c8 a.nK ["_law_cell_here","_law_k"] Gc:=by
 refine T.jN.ok kr (fun vs H Q E h=>?_) (fun cdv A outer s H vs Q E hr h=>?_)
 ·obtain ⟨c,k,rfl,_⟩:=h;rfl
 ·obtain ⟨c,k,rfl,h0,h1,q⟩:=h
  refine ⟨_,((af (bf (i:=2) kr.nd rfl (by walk_at "o") (aC bK (aC cy (aC cy (aC oi (aC bK (pv 0) ak) ak) (aC oi ak (pv 1))) ak) ak))
   (af (bf (i:=2) kr.nd rfl (by walk_at "o") (aC bK (aC oi (pv 2) (pv 2)) ak))
   (al (a9 (aC bK (aC oi (pv 2) (aC cy (aC cy (pv 2) (aC oi ak (pv 1))) ak)) ak)))))),aP (σ':=[some _,some _,none]) rfl ?_⟩
  walk_at "l2"
  exact q
theorem yy (T:Tx K mg a):FnOk P w K mg base CX0 2 a.ci a.iA ["_law_cell_here","_law_k"] vc:=by
 have aF:=@fX P w K mg base a T
 refine T.gq.ok cx (fun vs H Q E h=>?_) (fun cdv A outer s H vs Q E hr h=>?_)
 ·obtain ⟨c,k,rfl,_⟩:=h;rfl
 ·obtain ⟨c,k,rfl,h0,h1,q⟩:=h
  have hk:decide (k < 40)=true:=decide_eq_true h1
  refine ⟨_,((af (bf (i:=2) cx.nd rfl (by walk_at "o") bE)
   (af (bf (i:=3) cx.nd rfl (by walk_at "o") bE)
   (af (bf (i:=3) cx.nd rfl (by walk_at "o") (aC fK (pv 3) bE))
   (af (cw (PW.pt (BY (aZ JR (pv 1) ak (bx _)) (vZ (aZ mW (aC bK (ax aF (hr.mono (by decide)) (by rfl) T.aW T.aV T.aK .nil aQ (aa (pv 0) (aa ak ad))) ak) ak (bx _))))) (al (a9 (cu (ck (K:=K) rfl) (i5 (K:=K) rfl PySem.F.plainAttrs_str PySem.F.slot_str_split PySem.F.type_str_split B7 (pv 3) (aa bE ad)) (aC bK (aC cy (pv 1) (ax aF (hr.mono (by decide)) (by rfl) T.aW T.aV T.aK .nil aQ (aa (pv 0) (aa ak ad)))) ak) (fun _ _=>rfl)))) aR)
   (al (a9 (aC fK (cu Ch (pv 2) (aC bK (ax aF (hr.mono (by decide)) (by rfl) T.aW T.aV T.aK .nil aQ (aa (pv 0) (aa ak ad))) ak) (fun _ _=>rfl)) (bb jz (by rfl) T.G3 PyProof.Rows.boot_str (aa (aC cy (aC bK (ax aF (hr.mono (by decide)) (by rfl) T.aW T.aV T.aK .nil aQ (aa (pv 0) (aa ak ad))) ak) (aC oi ak (pv 1))) ad)))))))))),aP (σ':=[some _,some _,none,none]) rfl ?_⟩
  walk_at "l2"
  refine ⟨by decide +kernel,?_⟩
  walk_at "l2"
  generalize hw:((_:Str)++_)=words
  have hw:words=FZ:=hw.symm
  by_cases h2:mixV c 402 % 2=0
  ·refine gK (decide_eq_true (by rw [h2])) ?_
   walk_at "l2"
   refine LQ (by decide +kernel) (by rw [hw];decide +kernel) fun D H2 f2 s2 e2=>?_
   have hm:=Int.emod_lt_of_pos (k + mixV c 403) (show (0:Int) < 40 by decide)
   have hm':=Int.emod_nonneg (k + mixV c 403) (show (40:Int)≠0 by decide)
   rw [hw] at e2
   have hat:atI (W40.map V.str) ((k + mixV c 403) % 40)=some (.str (nmf c k)):=by
    obtain ⟨j,hj⟩:=Int.eq_ofNat_of_zero_le hm'
    have lj:j < W40.length:=by rw [sL];omega
    unfold nmf
    rw [if_pos h2,hj]
    refine bv ?_
    rw [List.getElem?_map,List.getD_eq_getElem?_getD,Int.toNat_natCast,List.getElem?_eq_getElem lj];rfl
   have e2:H2 D=some (.lst (W40.map V.str)):=e2
   walk_at "l2"
   exact q H2 s2
  ·refine eR (decide_eq_false fun z=>h2 (V.int.inj z)) ?_
   have hm:=Int.emod_lt_of_pos (mixV c 400) (show (0:Int) < 26 by decide)
   have hm':=Int.emod_nonneg (mixV c 400) (show (26:Int)≠0 by decide)
   have hr1:=Int.emod_lt_of_pos (mixV c 401) (show (0:Int) < 1000 by decide)
   have hr0:=Int.emod_nonneg (mixV c 401) (show (1000:Int)≠0 by decide)
   walk_at "l2"
   refine JD (by decide +kernel) (vq _ hm' hm) ?_
   walk_at "l2"
   have hn:(mixV c 401 % 1000 + 37 * k).natAbs < 10 ^ 4:=by omega
   have hlog:(mixV c 401 % 1000 + 37 * k).natAbs.log2 < 1920:=by
    rcases Nat.eq_zero_or_pos (mixV c 401 % 1000 + 37 * k).natAbs with z | z
    ·rw [z];decide
    ·exact (Nat.log2_lt (by omega)).mpr (Nat.lt_of_lt_of_le hn (Nat.le_trans (by decide:10 ^ 4≤2 ^ 14) (Nat.pow_le_pow_right (by decide) (by decide))))
   have hlen:=PyProof.Rows.int_text_len_1921 hlog
   refine ⟨hlog,?_⟩
   walk_at "l2"
   refine ⟨by rw [sizeLine_eq];have:(⟨#[97 + (mixV c 400 % 26).toNat]⟩:Str).length=1:=rfl
              omega,?_⟩
   have e:(mixV c 401 % 1000 + 37 * k)=(((mixV c 401 % 1000).toNat + 37 * k.toNat:Nat):Int):=by omega
   have q':=q H (Same.refl _)
   unfold nmf at q'
   rw [if_neg h2] at q'
   rw [e]
   exact q'
end
section
variable {P:Program} {w:World} {K:PySem.W.Frag} {mg:Str→Option Value} {base:Heap} {a:Ad}
local macro_rules | `(tactic| walk_at "l2step") =>`(tactic| first | ((with_reducible refine' c_whole ?e ?_);(case e=>walk_at "l2kind")) | ((with_reducible refine' c_mask ?e ?_);(case e=>walk_at "l2kind")) | (with_reducible refine cG ?_) | (with_reducible refine d3 ?_))
local macro_rules | `(tactic| walk_at "l2step") =>`(tactic| first | (with_reducible refine BX ?_))
theorem qx (T:Tx K mg a):FnOk P w K mg base CX0 1 a.bJ a.gS ["_law_names","_law_wire","_law_fresh"] Gf:=by
 refine T.eM.ok fN (fun vs H Q E h=>?_) (fun cdv A outer s H vs Q E hr h=>?_)
 ·obtain ⟨l,zs,w',f,rfl,_⟩:=h;rfl
 ·obtain ⟨l,zs,w',f,rfl,hl,lz,q⟩:=h
  refine ⟨_,((af (bf (i:=3) fN.nd rfl (by walk_at "o") (bV ad))
   (af (jZ PassesOwn.never rfl (mT (K:=K) rfl (pv 0)) (az (i:=4) fN.nd rfl (by walk_at "o")) (al (cw (aZ mW (pv 4) (pv 1) (bx _)) (al (bY (i5 (K:=K) rfl PySem.F.plainAttrs_list PySem.F.slot_list_append PySem.F.type_list_append gb (pv 3) (aa (pv 2) ad)))) (al (bY (i5 (K:=K) rfl PySem.F.plainAttrs_list PySem.F.slot_list_append PySem.F.type_list_append gb (pv 3) (aa (pv 4) ad)))))))
   (al (a9 (pv 3)))))),aP (σ':=[some _,some _,some _,none,none]) rfl ?_⟩
  walk_at "l2"
  intro D H1 f1 s1 e1
  walk_at "l2"
  rcases hl with hl | hl<;>have hl1:=s1.get hl
  ·refine .inl ⟨⟨_,SqL.of hl1⟩,?_⟩
   refine Cj (xs:=zs.map V.str) (fun i σ H'=>∃ v,σ=[some (.ref l),some (.str w'),some (.str f),some (.ref D),v]∧Same H H'∧H' D=some (.lst (((zs.take i).map (sbw w' f)).map V.str))) ⟨none,rfl,s1,e1⟩ (fun i σ H' _ ⟨_,_,s',_⟩=>SqL.of (s'.get hl)) ?_ ?_
   ·rintro i y σ H' hy ⟨v,rfl,s',eD⟩
    obtain ⟨z,hz,rfl⟩:=bi hy
    have hi:=(List.getElem?_eq_some_iff.mp hz).1
    have hb:((List.map (sbw w' f) (List.take i zs)).map V.str).length < sizeLine:=by rw [List.length_map,List.length_map,List.length_take];exact bg (by omega)
    walk_at "l2"
    by_cases hzw:z=w'
    ·refine gK (decide_eq_true (by rw [hzw])) ?_
     walk_at "l2"
     refine gw eD hb fun H3 u3=>?_
     walk_at "l2"
     exact ⟨fun b o e=>u3.oth _ _ (ah e f1) (s'.get e),by rw [u3.at',take_succ hz,List.map_append,List.map_append];unfold sbw;simp only [List.map_cons,List.map_nil,if_pos hzw]⟩
    ·refine eR (decide_eq_false fun e=>hzw (V.str.inj e)) ?_
     walk_at "l2"
     refine gw eD hb fun H3 u3=>?_
     walk_at "l2"
     exact ⟨fun b o e=>u3.oth _ _ (ah e f1) (s'.get e),by rw [u3.at',take_succ hz,List.map_append,List.map_append];unfold sbw;simp only [List.map_cons,List.map_nil,if_neg hzw]⟩
   ·rintro σ H' ⟨v,rfl,s',eD⟩
    rw [List.length_map,List.take_length] at eD
    walk_at "l2"
    exact q D H' f1 s' eD
  ·refine .inr ⟨⟨_,SqT.of hl1⟩,?_⟩
   refine rS (xs:=zs.map V.str) (fun i σ H'=>∃ v,σ=[some (.ref l),some (.str w'),some (.str f),some (.ref D),v]∧Same H H'∧H' D=some (.lst (((zs.take i).map (sbw w' f)).map V.str))) ⟨none,rfl,s1,e1⟩ (fun i σ H' _ ⟨_,_,s',_⟩=>SqT.of (s'.get hl)) ?_ ?_
   ·rintro i y σ H' hy ⟨v,rfl,s',eD⟩
    obtain ⟨z,hz,rfl⟩:=bi hy
    have hi:=(List.getElem?_eq_some_iff.mp hz).1
    have hb:((List.map (sbw w' f) (List.take i zs)).map V.str).length < sizeLine:=by rw [List.length_map,List.length_map,List.length_take];exact bg (by omega)
    walk_at "l2"
    by_cases hzw:z=w'
    ·refine gK (decide_eq_true (by rw [hzw])) ?_
     walk_at "l2"
     refine gw eD hb fun H3 u3=>?_
     walk_at "l2"
     exact ⟨fun b o e=>u3.oth _ _ (ah e f1) (s'.get e),by rw [u3.at',take_succ hz,List.map_append,List.map_append];unfold sbw;simp only [List.map_cons,List.map_nil,if_pos hzw]⟩
    ·refine eR (decide_eq_false fun e=>hzw (V.str.inj e)) ?_
     walk_at "l2"
     refine gw eD hb fun H3 u3=>?_
     walk_at "l2"
     exact ⟨fun b o e=>u3.oth _ _ (ah e f1) (s'.get e),by rw [u3.at',take_succ hz,List.map_append,List.map_append];unfold sbw;simp only [List.map_cons,List.map_nil,if_neg hzw]⟩
   ·rintro σ H' ⟨v,rfl,s',eD⟩
    rw [List.length_map,List.take_length] at eD
    walk_at "l2"
    exact q D H' f1 s' eD
end
section
variable {P:Program} {w:World} {K:PySem.W.Frag} {mg:Str→Option Value} {base:Heap} {a:Ad}
local macro_rules | `(tactic| walk_at "l2step") =>`(tactic| first | ((with_reducible refine' c_whole ?e ?_);(case e=>walk_at "l2kind")) | ((with_reducible refine' c_mask ?e ?_);(case e=>walk_at "l2kind")) | (with_reducible refine cG ?_) | (with_reducible refine d3 ?_))
theorem yx (T:Tx K mg a):FnOk P w K mg base CX0 2 a.cA a.k8 ["_law_lists","_law_wire","_law_fresh"] Dg:=by
 have gY:=@qx P w K mg base a T
 refine T.iI.ok cK (fun vs H Q E h=>?_) (fun cdv A outer s H vs Q E hr h=>?_)
 ·obtain ⟨t,D1,D2,D3,D4,rs,qs,N,w',f,rfl,_⟩:=h;rfl
 ·obtain ⟨t,D1,D2,D3,D4,rs,qs,N,w',f,rfl,td,g,q⟩:=h
  have et:=td.t
  have hs:=td.s
  have ls:=g.ls
  have lt:=g.lt
  have lo:=g.lo
  have lrs:rs.length=N.sums.length:=by rw [← td.es,List.length_map]
  have lqs:qs.length=N.sts.length:=by rw [← td.et,List.length_map]
  refine ⟨_,((af (GP (pv 0) (yr rfl (bu (az (i:=3) cK.nd rfl (by walk_at "o")) (bu (az (i:=4) cK.nd rfl (by walk_at "o")) (bu (az (i:=5) cK.nd rfl (by walk_at "o")) (bu (az (i:=6) cK.nd rfl (by walk_at "o")) gL))))))
   (af (bf (i:=7) cK.nd rfl (by walk_at "o") (aC i8 (b2 (osc:=ae cM) (ON:=["_law_lists","_law_wire","_law_fresh","_law_ins","_law_sums","_law_stores","_law_outs","_law_rows","_law_ends"]) (N:=["_law_name_here","_law_wires_here","_law_wire","_law_fresh"]) (n:=2) (fx:=[1,2]) rfl rfl rfl (by decide +kernel) (cj (K:=K) rfl (pv 4)) (y0 (eG (a0 (by decide)) (eG (a0 (by decide)) rN))) (fun _ _ _ _ _=>⟨(qj (K:=K) (n:=2) rfl rfl (bu (az (i:=0) (show List.Nodup (["_law_name_here","_law_wires_here","_law_wire","_law_fresh"]:List Str) from by decide +kernel) rfl (by walk_at "o")) (bu (az (i:=1) (show List.Nodup (["_law_name_here","_law_wires_here","_law_wire","_law_fresh"]:List Str) from by decide +kernel) rfl (by walk_at "o")) gL))),bF,(dH (aa (pv 0) (aa (bb (b0 (K:=K) rfl) (by rfl) T.eh PyProof.Rows.boot_tuple (aa (ax gY (hr.mono (by decide)) (by rfl) T.gQ T.gP T.dr .nil aQ (aa (pv 1) (aa (pv 2) (aa (pv 3) ad)))) ad)) ad)))⟩)) (bV (aa (dH (aa (pv 2) (aa (dH ad) ad))) ad))))
   (af (ij (osc:=ae cM) (ON:=["_law_lists","_law_wire","_law_fresh","_law_ins","_law_sums","_law_stores","_law_outs","_law_rows","_law_ends"]) (N:=["_law_name_here","_law_one","_law_wire","_law_fresh"]) (n:=2) (fx:=[1,2]) (i:=8) cK.nd rfl rfl rfl rfl rfl rfl (by decide +kernel) (cj (K:=K) rfl (pv 5)) (y0 (eG (a0 (by decide)) (eG (a0 (by decide)) rN))) (fun _ _ _ _ _=>⟨(qj (K:=K) (n:=2) rfl rfl (bu (az (i:=0) (show List.Nodup (["_law_name_here","_law_one","_law_wire","_law_fresh"]:List Str) from by decide +kernel) rfl (by walk_at "o")) (bu (az (i:=1) (show List.Nodup (["_law_name_here","_law_one","_law_wire","_law_fresh"]:List Str) from by decide +kernel) rfl (by walk_at "o")) gL))),bF,(dH (aa (pv 0) (aa (cu (ck (K:=K) rfl) (ax gY (hr.mono (by decide)) (by rfl) T.gQ T.gP T.dr .nil aQ (aa (bV (aa (pv 1) ad)) (aa (pv 2) (aa (pv 3) ad)))) ak (fun _ _=>rfl)) ad)))⟩))
   (al (a9 (dH (aa (pv 3) (aa (pv 7) (aa (pv 8) (aa (ax gY (hr.mono (by decide)) (by rfl) T.gQ T.gP T.dr .nil aQ (aa (pv 6) (aa (pv 1) (aa (pv 2) ad)))) ad))))))))))),aP (σ':=[some _,some _,some _,none,none,none,none,none,none]) rfl ?_⟩
  walk_at "l2"
  intro A1 hA1
  refine bL (xs:=rs.map fun r=>V.ref r.1) (fun i ys H'=>∃ rs':List Rw,ys=rs'.map (fun r=>V.ref r.1)∧rs'.map (·.2.2)=(rs.take i).map (fun r=>(r.2.2.1,r.2.2.2.map (sbw w' f)))∧RwK H' rs'∧Same H H'∧H' A1=some (.lst ys)) ⟨[],rfl,rfl,fun _ h=>absurd h (by simp),bH hA1,av⟩ (fun i ys H' _ ⟨_,_,_,_,s',_⟩=>SqL.of (s'.get hs)) ?_ ?_
  ·rintro j y ys H' hy ⟨rs',rfl,hrs,hk,s',eD⟩
   obtain ⟨r,hr',rfl⟩:=bi hy
   have hlt:=(List.getElem?_eq_some_iff.mp hr').1
   have hm:=List.mem_of_getElem? hr'
   have er:=s'.get (td.sr r hm).1
   have ew:=s'.get (td.sr r hm).2
   have hw:=g.lw r.2.2 (by rw [← td.es];exact List.mem_map.mpr ⟨r,hm,rfl⟩)
   have hlen:rs'.length=j:=by have:=congrArg List.length hrs;rw [List.length_map,List.length_map,List.length_take] at this;omega
   walk_at "l2"
   refine ⟨r.2.1,r.2.2.2,w',f,rfl,.inr ew,by omega,fun B1 H11 f11 s11 e11=>?_⟩
   walk_at "l2"
   intro tw H12 f12 s12 e12
   walk_at "l2"
   intro tr H13 f13 s13 e13
   have s1113:=s11.trans (s12.trans s13)
   have eD13:=s1113.get eD
   have ntw:tw≠A1:=fun z=>(by rw [z,s11.get eD] at f12;cases f12)
   have ntr:tr≠A1:=fun z=>(by rw [z,s12.get (s11.get eD)] at f13;cases f13)
   refine ⟨eD13,by rw [List.length_map];exact bg (by omega),rs'++[(tr,tw,r.2.2.1,r.2.2.2.map (sbw w' f))],by rw [List.map_append];rfl,by rw [List.map_append,hrs,take_succ hr',List.map_append];rfl,fun r2 h2=>?_,fun b ob e=>?_,av⟩
   ·rcases List.mem_append.mp h2 with h2 | h2
    ·exact (hk.same s1113).updL eD13 (fun b ob n e=>by rw [ar n];exact e) r2 h2
    ·rw [List.mem_singleton] at h2;subst h2
     exact ⟨by rw [ar ntr];exact e13,by rw [ar ntw];exact s13.get e12⟩
   ·rw [ar (ah e hA1)]
    exact s1113.get (s'.get e)
  ·rintro ys H2 ⟨rs',rfl,hrs,hk,s2,eA2⟩
   rw [List.length_map,List.take_length] at hrs
   have lrs':rs'.length=rs.length:=by have:=congrArg List.length hrs;rw [List.length_map,List.length_map] at this;exact this
   walk_at "l2"
   intro t3 H3 f3 s3 e3
   walk_at "l2"
   intro t4 H4 f4 s4 e4
   walk_at "l2"
   intro B4 H5 f5 s5 e5
   have s25:=s3.trans (s4.trans s5)
   refine qa (s25.get eA2) e5 (by rw [List.length_map,sizeLine_eq];simp only [List.length_cons,List.length_nil];omega) fun D6 H6 f6 s6 e6=>?_
   have s06:=s2.trans (s25.trans s6)
   obtain ⟨rs6,hrs6⟩:∃ rs6:List Rw,rs6=rs'++[(t4,t3,f,[])]:=⟨_,rfl⟩
   have e6:H6 D6=some (.lst (rs6.map fun r=>V.ref r.1)):=by rw [e6,hrs6,List.map_append];rfl
   have rk6:RwK H6 rs6:=fun r hr=>by
    rw [hrs6] at hr
    rcases List.mem_append.mp hr with h | h
    ·exact (hk.same (s25.trans s6)) r h
    ·rw [List.mem_singleton] at h;subst h
     exact ⟨s6.get (s5.get e4),s6.get (s5.get (s4.get e3))⟩
   have es6:rs6.map (·.2.2)=(cutN N w' f).sums:=by
    unfold cutN
    rw [hrs6,List.map_append,hrs,← td.es,List.map_map];rfl
   have hst:=s06.get td.st
   walk_at "l2"
   intro A7 hA7
   refine bL (xs:=qs.map fun r=>V.ref r.1) (fun i ys H'=>∃ qs':List Qs,ys=qs'.map (fun r=>V.ref r.1)∧qs'.map (·.2)=(qs.take i).map (fun r=>(r.2.1,sbw w' f r.2.2))∧QsK H' qs'∧Same H6 H'∧H' A7=some (.lst ys)) ⟨[],rfl,rfl,fun _ h=>absurd h (by simp),bH hA7,av⟩ (fun i ys H' _ ⟨_,_,_,_,s',_⟩=>SqL.of (s'.get hst)) ?_ ?_
   ·rintro j y ys H' hy ⟨qs',rfl,hqs,hk',s',eD⟩
    obtain ⟨r,hr',rfl⟩:=bi hy
    have hlt:=(List.getElem?_eq_some_iff.mp hr').1
    have hm:=List.mem_of_getElem? hr'
    have er:=s'.get (s06.get (td.tr r hm))
    have hlen:qs'.length=j:=by have:=congrArg List.length hqs;rw [List.length_map,List.length_map,List.length_take] at this;omega
    walk_at "l2"
    intro B8 H8 f8 s8 e8
    walk_at "l2"
    refine ⟨B8,[r.2.2],w',f,rfl,.inl e8,by show 1≤1000;omega,fun B9 H9 f9 s9 e9=>?_⟩
    have e9:H9 B9=some (.lst [.str (sbw w' f r.2.2)]):=e9
    walk_at "l2"
    intro tr H10 f10 s10 e10
    have s810:=s8.trans (s9.trans s10)
    have eD10:=s810.get eD
    have ntr:tr≠A7:=fun z=>(by rw [z,s9.get (s8.get eD)] at f10;cases f10)
    refine ⟨eD10,by rw [List.length_map];exact bg (by omega),qs'++[(tr,r.2.1,sbw w' f r.2.2)],by rw [List.map_append];rfl,by rw [List.map_append,hqs,take_succ hr',List.map_append];rfl,fun r2 h2=>?_,fun b ob e=>?_,av⟩
    ·rcases List.mem_append.mp h2 with h2 | h2
     ·have hq2:=s810.get (hk' r2 h2)
      rw [ar (fj hq2 eD10 fun z=>by cases z)];exact hq2
     ·rw [List.mem_singleton] at h2;subst h2
      rw [ar ntr];exact e10
    ·rw [ar (ah e hA7)]
     exact s810.get (s'.get e)
   ·rintro ys H7 ⟨qs',rfl,hqs,hk7,s7,eA7⟩
    rw [List.length_map,List.take_length] at hqs
    have ho7:=s7.get (s06.get td.o)
    walk_at "l2"
    refine ⟨D4,N.outs,w',f,rfl,.inl ho7,by omega,fun B8 H8 f8 s8 e8=>?_⟩
    walk_at "l2"
    intro t9 H9 f9 s9 e9
    have s79:=s8.trans s9
    have s69:=s7.trans s79
    refine q t9 D1 D6 A7 B8 H9 rs6 qs' (s06.trans s69) ⟨e9,s69.get (s06.get td.i),s69.get e6,rk6.same s69,es6,s79.get eA7,fun q' m=>s79.get (hk7 q' m),?_,s9.get e8⟩
    unfold cutN
    rw [hqs,← td.et,List.map_map];rfl
end
section
variable {P:Program} {w:World} {K:PySem.W.Frag} {mg:Str→Option Value} {base:Heap} {a:Ad}
local macro_rules | `(tactic| walk_at "l2step") =>`(tactic| first | ((with_reducible refine' c_whole ?e ?_);(case e=>walk_at "l2kind")) | ((with_reducible refine' c_mask ?e ?_);(case e=>walk_at "l2kind")) | (with_reducible refine cG ?_) | (with_reducible refine d3 ?_))
theorem Lh (x y:Nat):decide (([x]:List Nat) < [y])=decide (x < y):=by
 rw [decide_eq_decide]
 constructor
 ·intro h
  cases h with
  | rel h=>exact h
  | cons h=>cases h
 ·intro h;exact .rel h
theorem wS {x:Str} {v:Nat} (hx:x.cps.toList=[v]) (c:Nat):(!decide ((⟨#[c]⟩:Str).cps.toList < x.cps.toList))=decide (v≤c):=by
 rw [hx]
 show (!decide (([c]:List Nat) < [v]))=_
 rw [Lh]
 by_cases h:c < v
 ·rw [decide_eq_true h,decide_eq_false (by omega)];rfl
 ·rw [decide_eq_false h,decide_eq_true (by omega)];rfl
theorem vR {x:Str} {v:Nat} (hx:x.cps.toList=[v]) (c:Nat):(!decide (x.cps.toList < (⟨#[c]⟩:Str).cps.toList))=decide (c≤v):=by
 rw [hx]
 show (!decide (([v]:List Nat) < [c]))=_
 rw [Lh]
 by_cases h:v < c
 ·rw [decide_eq_true h,decide_eq_false (by omega)];rfl
 ·rw [decide_eq_false h,decide_eq_true (by omega)];rfl
theorem sa:(Str.ofString "a").cps.toList=[97]:=by decide +kernel
theorem sz:(Str.ofString "z").cps.toList=[122]:=by decide +kernel
theorem sg0:(Str.ofString "0").cps.toList=[48]:=by decide +kernel
theorem sg9:(Str.ofString "9").cps.toList=[57]:=by decide +kernel
theorem lR (T:Tx K mg a):FnOk P w K mg base CX0 2 a.ci a.iA ["_law_cell_here","_law_k"] Ge:=by
 have aF:=@fX P w K mg base a T
 refine T.gq.ok cx (fun vs H Q E h=>?_) (fun cdv A outer s H vs Q E hr h=>?_)
 ·obtain ⟨c,k,rfl,_⟩:=h;rfl
 ·obtain ⟨c,k,rfl,hk,q⟩:=h
  have hk40:decide ((k:Int) < 40)=false:=decide_eq_false (by omega)
  refine ⟨_,((af (bf (i:=2) cx.nd rfl (by walk_at "o") bE)
   (af (bf (i:=3) cx.nd rfl (by walk_at "o") bE)
   (af (bf (i:=3) cx.nd rfl (by walk_at "o") (aC fK (pv 3) bE))
   (af (cw (PW.pt (BY (aZ JR (pv 1) ak (bx _)) (vZ (aZ mW (aC bK (ax aF (hr.mono (by decide)) (by rfl) T.aW T.aV T.aK .nil aQ (aa (pv 0) (aa ak ad))) ak) ak (bx _))))) (al (a9 (cu (ck (K:=K) rfl) (i5 (K:=K) rfl PySem.F.plainAttrs_str PySem.F.slot_str_split PySem.F.type_str_split B7 (pv 3) (aa bE ad)) (aC bK (aC cy (pv 1) (ax aF (hr.mono (by decide)) (by rfl) T.aW T.aV T.aK .nil aQ (aa (pv 0) (aa ak ad)))) ak) (fun _ _=>rfl)))) aR)
   (al (a9 (aC fK (cu Ch (pv 2) (aC bK (ax aF (hr.mono (by decide)) (by rfl) T.aW T.aV T.aK .nil aQ (aa (pv 0) (aa ak ad))) ak) (fun _ _=>rfl)) (bb jz (by rfl) T.G3 PyProof.Rows.boot_str (aa (aC cy (aC bK (ax aF (hr.mono (by decide)) (by rfl) T.aW T.aV T.aK .nil aQ (aa (pv 0) (aa ak ad))) ak) (aC oi ak (pv 1))) ad)))))))))),aP (σ':=[some _,some _,none,none]) rfl ?_⟩
  walk_at "l2"
  refine ⟨by decide +kernel,?_⟩
  walk_at "l2"
  generalize hw:((_:Str)++_)=words
  have hm:=Int.emod_lt_of_pos (mixV c 400) (show (0:Int) < 26 by decide)
  have hm':=Int.emod_nonneg (mixV c 400) (show (26:Int)≠0 by decide)
  have hr1:=Int.emod_lt_of_pos (mixV c 401) (show (0:Int) < 1000 by decide)
  have hr0:=Int.emod_nonneg (mixV c 401) (show (1000:Int)≠0 by decide)
  walk_at "l2"
  refine ⟨c,400,rfl,by decide,by decide,?_⟩
  walk_at "l2"
  refine JD (by decide +kernel) (vq _ hm' hm) ?_
  walk_at "l2"
  refine ⟨c,401,rfl,by decide,by decide,?_⟩
  walk_at "l2"
  have hn:(mixV c 401 % 1000 + 37 * (k:Int)).natAbs < 10 ^ 4:=by omega
  have hlog:(mixV c 401 % 1000 + 37 * (k:Int)).natAbs.log2 < 1920:=by
   exact (Nat.log2_lt (by omega)).mpr (Nat.lt_of_lt_of_le hn (Nat.le_trans (by decide:10 ^ 4≤2 ^ 14) (Nat.pow_le_pow_right (by decide) (by decide))))
  have hlen:=PyProof.Rows.int_text_len_1921 hlog
  refine ⟨hlog,?_⟩
  refine ⟨_,_,rfl,rfl,by rw [sizeLine_eq];have:(⟨#[97 + (mixV c 400 % 26).toNat]⟩:Str).length=1:=rfl
                         omega,?_⟩
  have e:(mixV c 401 % 1000 + 37 * (k:Int))=(((mixV c 401 % 1000).toNat + 37 * k:Nat):Int):=by omega
  have q':=q H (Same.refl _)
  unfold nm7 at q'
  rw [e]
  exact q'
theorem tG (T:Tx K mg a):FnOk P w K mg base CX0 3 a.bU a.iB ["_law_cell_here","_law_names"] Dh:=by
 have cR:=@lR P w K mg base a T
 refine T.fD.ok sY (fun vs H Q E h=>?_) (fun cdv A outer s H vs Q E hr h=>?_)
 ·obtain ⟨c,l,zs,rfl,_⟩:=h;rfl
 ·obtain ⟨c,l,zs,rfl,hl,hne,lz,hz,q⟩:=h
  have lp:0 < zs.length:=List.length_pos_iff.mpr hne
  have lp':(0:Int) < (((zs.map V.str).length:Nat):Int):=by rw [List.length_map];omega
  refine ⟨_,((af (cw (aZ mW (aC bK (pv 0) ak) ak (bx _)) (al (a9 (cu (ck (K:=K) rfl) (pv 1) (aC bK (aC qt (pv 0) ak) (aD (be (K:=K) rfl) (by rfl) T.fZ PySem.boot_len (aa (pv 1) ad))) (fun _ _=>rfl)))) aR)
   (af (cw (aZ mW (aC bK (pv 0) ak) ak (bx _)) (al (a9 (cu (ck (K:=K) rfl) (bV (aa bE (aa bE (aa bE (aa bE (aa bE (aa n9 (aa ak ad)))))))) (aC bK (aC qt (pv 0) ak) ak) (fun _ _=>rfl)))) aR)
   (al (a9 (ax cR (hr.mono (by decide)) (by rfl) T.eo T.em T.cP .nil aQ (aa (pv 0) (aa ak ad)))))))),aP (σ':=[some _,some _]) rfl ?_⟩
  walk_at "l2"
  by_cases h0:c % 4=0
  ·refine gK (decide_eq_true (by rw [h0])) ?_
   obtain ⟨j,hj,hjl⟩:=dc (c:=c / 4) (m:=(((zs.map V.str).length:Nat):Int)) (by rw [List.length_map];omega)
   rw [List.length_map] at hjl
   have hjl:j < zs.length:=by omega
   have hat:atI (zs.map V.str) (c / 4 % (((zs.map V.str).length:Nat):Int))=some (.str zs[j]):=by
    rw [hj];exact bv (by rw [List.getElem?_map,List.getElem?_eq_getElem hjl];rfl)
   walk_at "l2"
   exact q _ _ H (Same.refl _) (.str _ (hz _ (List.getElem_mem hjl)))
  ·refine eR (decide_eq_false fun z=>h0 (V.int.inj z)) ?_
   walk_at "l2"
   by_cases h1:c % 4=1
   ·refine gK (decide_eq_true (by rw [h1])) ?_
    walk_at "l2"
    intro L2 H2 f2 s2 e2
    obtain ⟨j,hj,hjl⟩:=dc (c:=c / 4) (m:=7) (by decide)
    have key:∃ v k,atI [V.str "",V.str "abcdefg",V.str "7a",V.str "a_b",V.str "aB",V.non,V.int 5] (c / 4 % 7)=some v∧Scl v k:=by
     rw [hj]
     have:j=0∨j=1∨j=2∨j=3∨j=4∨j=5∨j=6:=by omega
     rcases this with rfl | rfl | rfl | rfl | rfl | rfl | rfl
     ·exact ⟨_,_,bv rfl,.str _ (by decide +kernel)⟩
     ·exact ⟨_,_,bv rfl,.str _ (by decide +kernel)⟩
     ·exact ⟨_,_,bv rfl,.str _ (by decide +kernel)⟩
     ·exact ⟨_,_,bv rfl,.str _ (by decide +kernel)⟩
     ·exact ⟨_,_,bv rfl,.str _ (by decide +kernel)⟩
     ·exact ⟨_,_,bv rfl,.non⟩
     ·exact ⟨_,_,bv rfl,.int _⟩
    obtain ⟨v,k,hav,sv⟩:=key
    generalize [V.str "",V.str "abcdefg",V.str "7a",V.str "a_b",V.str "aB",V.non,V.int 5]=more at hav e2
    walk_at "l2"
    exact q v k H2 s2 sv
   ·refine eR (decide_eq_false fun z=>h1 (V.int.inj z)) ?_
    walk_at "l2"
    refine ⟨c,70,rfl,.inl rfl,fun H2 s2=>?_⟩
    walk_at "l2"
    exact q _ _ H2 s2 (.str _ (AH c (.inl rfl)))
end
section
variable {P:Program} {w:World} {K:PySem.W.Frag} {mg:Str→Option Value} {base:Heap} {a:Ad}
local macro_rules | `(tactic| walk_at "l2step") =>`(tactic| first | ((with_reducible refine' c_whole ?e ?_);(case e=>walk_at "l2kind")) | ((with_reducible refine' c_mask ?e ?_);(case e=>walk_at "l2kind")) | (with_reducible refine cG ?_) | (with_reducible refine d3 ?_))
theorem Cn (ws:List Str):eqD (.lst (ws.map strD)) (.lst [])=decide (ws=[]):=by
 cases ws with
 | nil=>rfl
 | cons w l=>rw [decide_eq_false (by simp)];rfl
theorem qv (T:Tx K mg a):FnOk P w K mg base CX0 1 a.bI a.gR ["_law_word"] LJ:=by
 refine T.eL.ok p5 (fun vs H Q E h=>?_) (fun cdv A outer s H vs Q E hr h=>?_)
 ·obtain ⟨f,k,rfl,_⟩:=h;rfl
 ·obtain ⟨f,k,rfl,sf,q⟩:=h
  have hu1:=qb hr
  refine ⟨_,((af (cw (PW.pt (vY (jY (eS (aD (eU (K:=K) rfl) (by rfl) T.b5 PyProof.Rows.boot_isinstance (aa (pv 0) (aa (i6 (v:= .ty "str") (by rfl) T.G3 PyProof.Rows.boot_str rfl) ad))))) (vY (aZ JR (aD (be (K:=K) rfl) (by rfl) T.fZ PySem.boot_len (aa (pv 0) ad)) ak (bx _)) (vY (aZ qr (aD (be (K:=K) rfl) (by rfl) T.fZ PySem.boot_len (aa (pv 0) ad)) ak (bx _)) (ym (jY (v6 hX hX bE (cu Ch (pv 0) ak (fun _ _=>rfl)) bE))))))) (al (a9 An)) aR)
   (al (a9 (kE (Mm (K:=K) rfl hu1) (b2 (osc:=ae b9) (ON:=["_law_word"]) (N:=["_law_sign"]) (n:=1) (fx:=[]) rfl rfl rfl (by decide +kernel) (K9 (pv 0)) (a0 (by decide)) (fun _ _ _ _ _=>⟨(az (i:=0) (show List.Nodup (["_law_sign"]:List Str) from by decide +kernel) rfl (by walk_at "o")),(v0 (jY (PW.pt (vY (v6 hX hX bE (pv 0) bE) (ym (v6 hX hX bE (pv 0) bE)))))),(pv 0)⟩)) (bV ad) (bx _)))))),aP (σ':=[some _]) rfl ?_⟩
  cases sf with
  | int i=>walk_at "l2";exact q H (Same.refl _)
  | bl b=>walk_at "l2";exact q H (Same.refl _)
  | non=>walk_at "l2";exact q H (Same.refl _)
  | str z hz=>
    have q:∀ H',Same H H'→Q (.bl (nm z.cps.toList)) H':=q
    have hs:z.length≤sizeLine:=Nat.le_of_lt (bg hz)
    have hlen:=wR z
    walk_at "l2"
    by_cases h1:(z.length:Int) < 1
    ·refine gK (decide_eq_true h1) ?_
     walk_at "l2"
     have e:z.cps.toList=[]:=List.length_eq_zero_iff.mp (by omega)
     have q0:=q H (Same.refl _)
     rw [e] at q0
     exact q0
    ·refine eR (decide_eq_false h1) ?_
     walk_at "l2"
     obtain ⟨c,r,hcr⟩:∃ c r,z.cps.toList=c::r:=by
      cases hl:z.cps.toList with
      | nil=>rw [hl] at hlen;exact absurd hlen.symm (by simp;omega)
      | cons c r=>exact ⟨c,r,rfl⟩
     rw [hcr] at hlen
     have q:∀ H',Same H H'→Q (.bl (decide ((c::r).length≤6)&&low c&&(c::r).all fun c=>low c||fig c)) H':=fun H' s=>by have:=q H' s;rw [hcr] at this;exact this
     by_cases h2:(6:Int) < z.length
     ·refine gK (decide_eq_true h2) ?_
      walk_at "l2"
      have:=q H (Same.refl H)
      rw [decide_eq_false (show ¬ (c::r).length≤6 by omega)] at this
      exact this
     ·refine eR (decide_eq_false h2) ?_
      rw [decide_eq_true (show (c::r).length≤6 by omega)] at q
      walk_at "l2"
      refine JD hs (c:=c) (by rw [hcr];exact bv (j:=0) rfl) ?_
      walk_at "l2"
      rw [wS sa]
      have go:low c=false→Q (.bl false) H:=fun e=>by have q0:=q H (Same.refl _);rw [e] at q0;exact q0
      cases ha:decide (97≤c)
      ·walk_at "l2"
       exact go (by unfold low;rw [ha];rfl)
      ·walk_at "l2"
       rw [vR sz]
       cases hb:decide (c≤122)
       ·walk_at "l2"
        exact go (by unfold low;rw [ha,hb];rfl)
       ·walk_at "l2"
        have hlo:low c=true:=by unfold low;rw [ha,hb];rfl
        rw [hlo] at q
        have q:∀ H',Same H H'→Q (.bl ((c::r).all fun c=>low c||fig c)) H':=q
        intro D f
        refine Cr (Cs (fun i ys=>ys=(((c::r).take i).filter fun c=> !(low c||fig c)).map fun c=>V.str ⟨#[c]⟩) H D) (Cs.zero f rfl) (fun i d ys H' hd cc=>?_) (fun ys H' cc=>?_)
        ·have hi:i < z.cps.size:=(Array.getElem?_eq_some_iff.mp hd).1
         have hd':(c::r)[i]? =some d:=by rw [← hcr];simpa using hd
         have skip:(low d||fig d)=true→Cs (fun i ys=>ys=(((c::r).take i).filter fun c=> !(low c||fig c)).map fun c=>V.str ⟨#[c]⟩) H D (i + 1) ys H':=fun hb=>Cs.skip cc.same cc.at' cc.len (by
          have e:[d].filter (fun c=> !(low c||fig c))=[]:=by rw [List.filter_cons,hb];rfl
          rw [cc.pv,List.take_succ,hd',List.filter_append]
          show _=List.map _ (_++[d].filter _)
          rw [e,List.append_nil])
         have put:(low d||fig d)=false→H' D=some (HO.lst ys)∧ys.length < sizeLine∧Cs (fun i ys=>ys=(((c::r).take i).filter fun c=> !(low c||fig c)).map fun c=>V.str ⟨#[c]⟩) H D (i + 1) (ys++[V.str ⟨#[d]⟩]) (upd H' D (.lst (ys++[V.str ⟨#[d]⟩]))):=fun hb=>Cs.put f cc.same cc.at' cc.len (by have:z.cps.size=z.length:=rfl;omega) (by
          have e:[d].filter (fun c=> !(low c||fig c))=[d]:=by rw [List.filter_cons,hb];rfl
          rw [cc.pv,List.take_succ,hd',List.filter_append,List.map_append]
          show _=_++List.map _ ([d].filter _)
          rw [e];rfl)
         walk_at "l2"
         rw [wS sa]
         cases ha:decide (97≤d)
         ·walk_at "l2"
          rw [wS sg0]
          cases h0:decide (48≤d)
          ·walk_at "l2"
           exact put (by unfold low fig;rw [ha,h0];rfl)
          ·walk_at "l2"
           rw [vR sg9]
           cases h9:decide (d≤57)
           ·walk_at "l2"
            exact put (by unfold low fig;rw [ha,h0,h9];rfl)
           ·walk_at "l2"
            exact skip (by unfold low fig;rw [h0,h9];simp)
         ·walk_at "l2"
          rw [vR sz]
          cases hb:decide (d≤122)
          ·walk_at "l2"
           rw [wS sg0]
           cases h0:decide (48≤d)
           ·walk_at "l2"
            exact put (by unfold low fig;rw [hb,h0];simp)
           ·walk_at "l2"
            rw [vR sg9]
            cases h9:decide (d≤57)
            ·walk_at "l2"
             exact put (by unfold low fig;rw [hb,h9];simp)
            ·walk_at "l2"
             exact skip (by unfold low fig;rw [h0,h9];simp)
          ·walk_at "l2"
           exact skip (by unfold low fig;rw [ha,hb];simp)
        ·have hsz:z.cps.size=(c::r).length:=hlen.symm
         have ec:=cc.at'
         rw [cc.pv,hsz,List.take_length] at ec
         have ec:H' D=some (.lst ((((c::r).filter fun c=> !(low c||fig c)).map fun c=>(⟨#[c]⟩:Str)).map V.str)):=by rw [ec,List.map_map];rfl
         have s1:=cc.same
         clear cc
         walk_at "l2"
         intro D2 H2 f2 s2 e2
         refine Ae (pP (s2.get ec)) (Rep.lst (ds:=[]) (SqL.of e2) rfl fun i x d h=>by simp at h) (by unfold depD;rw [jK];decide) ?_
         rw [Cn]
         have q0:=q H2 (s1.trans s2)
         have e:((c::r).all fun c=>low c||fig c)=decide (((c::r).filter fun c=> !(low c||fig c)).map (fun c=>(⟨#[c]⟩:Str))=[]):=by
          rw [Bool.eq_iff_iff,decide_eq_true_eq,List.map_eq_nil_iff,List.filter_eq_nil_iff,List.all_eq_true]
          constructor
          ·intro h x hx;rw [h x hx];decide
          ·intro h x hx;have:=h x hx;cases e:(low x||fig x) with
           | true=>rfl
           | false=>rw [e] at this;exact absurd rfl this
         rw [e] at q0
         exact q0
theorem Aq (T:Tx K mg a):FnOk P w K mg base CX0 2 a.c9 a.nL ["_law_names","_law_many","_law_wire","_law_fresh"] LK:=by
 have uZ:=@qv P w K mg base a T
 refine T.jO.ok Aa (fun vs H Q E h=>?_) (fun cdv A outer s H vs Q E hr h=>?_)
 ·obtain ⟨l,zs,n,v,f,k,k',rfl,_⟩:=h;rfl
 ·obtain ⟨l,zs,n,v,f,k,k',rfl,hl,lz,tv,sf,q⟩:=h
  have hu1:=qb hr
  obtain ⟨dv,rv,ev⟩:=Iv (K:=K) tv zs
  refine ⟨_,((af (cw (aZ (DM (K:=K) rfl hu1) (pv 2) (pv 0) (by rfl)) (al (a9 (bV (aa bE (aa (pv 2) ad))))) aR)
   (af (cw (jY (eS (ax uZ (hr.mono (by decide)) (by rfl) T.uA T.uz T.gX .nil aQ (aa (pv 3) ad)))) (al (a9 (bV (aa bE (aa (pv 3) ad))))) aR)
   (af (cw (aZ (Ml (K:=K) rfl hu1) (pv 3) (pv 0) (by rfl)) (al (a9 (bV (aa bE (aa (pv 3) ad))))) aR)
   (af (cw (aZ qr (pv 1) ak (bx _)) (al (a9 (bV (aa bE ad)))) aR)
   (al (a9 n9))))))),aP (σ':=[some _,some _,some _,some _]) rfl ?_⟩
  walk_at "l2"
  refine Gw hl rv ?_
  rw [ev]
  by_cases hv:v∉zs.map V.str
  ·rw [decide_eq_false hv]
   walk_at "l2"
   intro D H2 f2 s2 e2
   walk_at "l2"
   exact q _ H2 s2 (by unfold dueA;rw [if_neg hv];exact ⟨D,rfl,e2⟩)
  have hv:=Classical.not_not.mp hv
  rw [decide_eq_true hv]
  walk_at "l2"
  refine ⟨f,k',rfl,sf,fun H2 s2=>?_⟩
  by_cases hn:¬ ui f=true
  ·rw [show ui f=false by simpa using hn]
   walk_at "l2"
   intro D H3 f3 s3 e3
   walk_at "l2"
   exact q _ H3 (s2.trans s3) (by unfold dueA;rw [if_pos hv,if_neg hn];exact ⟨D,rfl,e3⟩)
  have hn:=Classical.not_not.mp hn
  rw [hn]
  walk_at "l2"
  obtain ⟨df,rf,ef⟩:=Iv (K:=K) (Thg2.sc sf:Thg2 H2 f k') zs
  refine NQ (s2.get hl) rf ?_
  rw [ef]
  by_cases hf:f∈zs.map V.str
  ·rw [decide_eq_true hf]
   walk_at "l2"
   intro D H3 f3 s3 e3
   walk_at "l2"
   exact q _ H3 (s2.trans s3) (by unfold dueA;rw [if_pos hv,if_pos hn,if_pos hf];exact ⟨D,rfl,e3⟩)
  rw [decide_eq_false hf]
  walk_at "l2"
  by_cases hm:39 < n
  ·refine gK (decide_eq_true (by omega)) ?_
   walk_at "l2"
   intro D H3 f3 s3 e3
   walk_at "l2"
   exact q _ H3 (s2.trans s3) (by unfold dueA;rw [if_pos hv,if_pos hn,if_neg hf,if_pos hm];exact ⟨D,rfl,e3⟩)
  ·refine eR (decide_eq_false (by omega)) ?_
   walk_at "l2"
   exact q _ H2 s2 (by unfold dueA;rw [if_pos hv,if_pos hn,if_neg hf,if_neg hm];rfl)
end
section
variable {P:Program} {w:World} {K:PySem.W.Frag} {mg:Str→Option Value} {base:Heap} {a:Ad}
local macro_rules | `(tactic| walk_at "l2step") =>`(tactic| first | ((with_reducible refine' Cw ?a ?b ?_);(case a=>walk_at "l2side");(case b=>walk_at "l2side")) | ((with_reducible refine' xD ?e ?a ?_);(case e=>walk_at "l2hp");(case a=>walk_at "l2side")))
theorem vX {K:PySem.W.Frag} {H:Hp} {D:Addr} {ws:List Str} (h:H D=some (.lst (ws.map V.str))):Rep K H (.ref D) (.lst (ws.map Dt.str)):= .lst (SqL.of h) (by rw [List.length_map,List.length_map]) (qc V.str Dt.str (fun z=> .str z) ws)
theorem Bf:∀ ws:List Str,dO (ws.map Dt.str)=0
 | []=>rfl
 | w::ws=>by rw [List.map_cons,dO,Bf ws];rfl
theorem Cm (ws:List Str):eqD (.lst (ws.map Dt.str)) (.lst [])=decide (ws=[]):=by
 cases ws with
 | nil=>rfl
 | cons w l=>rw [decide_eq_false (by simp)];rfl
theorem wk (T:Tx K mg a):FnOk P w K mg base CX0 2 a.b7 a.jq ["_law_cell_here","_law_start","_law_names","_law_digits"] Gd:=by
 have aF:=@fX P w K mg base a T
 refine T.gG.ok cT (fun vs H Q E h=>?_) (fun cdv A outer s H vs Q E hr h=>?_)
 ·obtain ⟨c,st,l,zs,dg,rfl,_⟩:=h;rfl
 ·obtain ⟨c,st,l,zs,dg,rfl,st0,st1,hl,ll,q⟩:=h
  have hu1:=qb hr
  have elen:(((zs.map V.str).length:Nat):Int)=(zs.length:Int):=by rw [List.length_map]
  refine ⟨_,((af (cw (eS (pv 3)) (af (bf (i:=4) cT.nd rfl (by walk_at "o") (aC bK (pv 0) (aC Ov (aC cy (aD (be (K:=K) rfl) (by rfl) T.fZ PySem.boot_len (aa (pv 2) ad)) ak) ak)))
   (af (bf (i:=5) cT.nd rfl (by walk_at "o") (bV ad))
   (af (jZ PassesOwn.never rfl (fU (by rfl) T.kS (aa ak ad)) (az (i:=6) cT.nd rfl (by walk_at "o")) (v7 (cw (aZ qr (aC bK (pv 4) (aC cy (aD (be (K:=K) rfl) (by rfl) T.fZ PySem.boot_len (aa (pv 2) ad)) ak)) ak (bx _)) (al (bY (i5 (K:=K) rfl PySem.F.plainAttrs_list PySem.F.slot_list_append PySem.F.type_list_append gb (pv 5) (aa (cu (ck (K:=K) rfl) (pv 2) (aC vn (aC bK (pv 4) (aC cy (aD (be (K:=K) rfl) (by rfl) T.fZ PySem.boot_len (aa (pv 2) ad)) ak)) ak) (fun _ _=>rfl)) ad)))) aR)
   (al (bf (i:=4) cT.nd rfl (by walk_at "o") (aC qt (pv 4) (aC cy (aD (be (K:=K) rfl) (by rfl) T.fZ PySem.boot_len (aa (pv 2) ad)) ak))))))
   (al (a9 (pv 5)))))) aR)
   (af (bf (i:=7) cT.nd rfl (by walk_at "o") (aC bK (ax aF (hr.mono (by decide)) (by rfl) T.aW T.aV T.aK .nil aQ (aa (pv 0) (aa (pv 1) ad))) ak))
   (al (a9 (b2 (osc:=ae cL) (ON:=["_law_cell_here","_law_start","_law_names","_law_digits","_law_left","_law_found","_law_k","_law_many"]) (N:=["_law_k","_law_names","_law_cell_here","_law_start"]) (n:=1) (fx:=[2,0,1]) rfl rfl rfl (by decide +kernel) (fU (by rfl) T.kS (aa (pv 7) ad)) (a0 (by decide)) (fun _ _ _ _ _=>⟨(az (i:=0) (show List.Nodup (["_law_k","_law_names","_law_cell_here","_law_start"]:List Str) from by decide +kernel) rfl (by walk_at "o")),(v0 (aZ (mV (K:=K) rfl hu1) (pv 1) (bV ad) (bx _))),(cu (ck (K:=K) rfl) (pv 1) (aC bK (ax aF (hr.mono (by decide)) (by rfl) T.aW T.aV T.aK .nil aQ (aa (pv 2) (aa (aC cy (aC cy (pv 3) ak) (pv 0)) ad))) (aD (be (K:=K) rfl) (by rfl) T.fZ PySem.boot_len (aa (pv 1) ad))) (fun _ _=>rfl))⟩))))))),aP (σ':=[some _,some _,some _,some _,none,none,none,none]) rfl ?_⟩
  have hpow:(0:Int) < ((((zs.map V.str).length:Nat):Int) + 1) ^ (4:Int).toNat:=Int.pow_pos (by omega)
  have hn1:(0:Int) < (((zs.map V.str).length:Nat):Int) + 1:=by omega
  walk_at "l2"
  cases dg with
  | true=>
    walk_at "l2"
    generalize c % ((((zs.map V.str).length:Nat):Int) + 1) ^ (4:Int).toNat=left
    clear hpow
    intro D H1 f1 s1 e1
    have hl1:=s1.get hl
    walk_at "l2"
    refine zb (fun i σ H'=>∃ (v:Option V) (left:Int) (ws:List Str),σ=[some (V.int c),some (V.int st),some (V.ref l),some (V.bl true),some (V.int left),some (V.ref D),v,none]∧Same H H'∧H' D=some (.lst (ws.map V.str))∧ws.length≤i∧∀ w∈ws,w∈zs) ⟨none,left,[],rfl,s1,e1,Nat.le_refl _,fun _ h=>absurd h (by simp)⟩ ?_ ?_
    ·rintro i σ H' hi ⟨v,left,ws,rfl,s',eD,lw,hw⟩
     have hl':=s'.get hl
     have hi4:i < 4:=hi
     walk_at "l2"
     refine L2.s_cut (fun σ H2=>∃ ws':List Str,σ=[some (V.int c),some (V.int st),some (V.ref l),some (V.bl true),some (V.int left),some (V.ref D),some (V.int (0 + (i:Int))),none]∧Same H H2∧H2 D=some (.lst (ws'.map V.str))∧ws'.length≤i + 1∧∀ w∈ws',w∈zs) ?_ ?_
     ·have r0:=Int.emod_nonneg left (Int.ne_of_gt hn1)
      have r1:=Int.emod_lt_of_pos left hn1
      walk_at "l2"
      by_cases hr0:0 < left % ((((zs.map V.str).length:Nat):Int) + 1)
      ·refine gK (decide_eq_true hr0) ?_
       obtain ⟨j,hj⟩:=Int.eq_ofNat_of_zero_le (show 0≤left % ((((zs.map V.str).length:Nat):Int) + 1) - 1 by omega)
       have hjl:j < zs.length:=by omega
       have hat:atI (zs.map V.str) (left % ((((zs.map V.str).length:Nat):Int) + 1) - 1)=some (.str zs[j]):=by
        rw [hj]
        exact bv (by rw [List.getElem?_map,List.getElem?_eq_getElem hjl];rfl)
       walk_at "l2"
       refine gw eD (by rw [List.length_map,sizeLine_eq];omega) fun H3 u3=>?_
       walk_at "l2"
       refine ⟨ws++[zs[j]],rfl,fun b o e=>u3.oth _ _ (ah e f1) (s'.get e),by rw [u3.at',List.map_append];rfl,by rw [List.length_append];show _ + 1≤_;omega,fun w hw'=>?_⟩
       rcases List.mem_append.mp hw' with h | h
       ·exact hw w h
       ·rw [List.mem_singleton.mp h];exact List.getElem_mem hjl
      ·refine eR (decide_eq_false hr0) ?_
       walk_at "l2"
       exact ⟨ws,rfl,s',eD,by omega,hw⟩
     ·rintro σ H2 ⟨ws',rfl,s2,eD2,lw',hw'⟩
      have hl2:=s2.get hl
      walk_at "l2"
      exact ⟨_,_,ws',rfl,s2,eD2,lw',hw'⟩
    ·rintro σ H' ⟨v,left,ws,rfl,s',eD,lw,hw⟩
     walk_at "l2"
     exact q D H' ws f1 s' eD lw hw
  | false=>
    have m0:=Int.emod_nonneg (mixV c st) (show (5:Int)≠0 by decide)
    have m1:=Int.emod_lt_of_pos (mixV c st) (show (0:Int) < 5 by decide)
    walk_at "l2"
    intro D hD
    refine h8 (fun i ys H'=>∃ ws:List Str,ys=ws.map V.str∧Same H H'∧H' D=some (.lst ys)∧ws.length≤i∧∀ w∈ws,w∈zs) ⟨[],rfl,bH hD,av,Nat.le_refl _,fun _ h=>absurd h (by simp)⟩ ?_ ?_
    ·rintro i ys H' hi ⟨ws,rfl,s',eD,lw,hw⟩
     have hl':=s'.get hl
     walk_at "l2"
     intro L2 H2 f2 s2 e2
     have hl2:=s2.get hl'
     have eD2:=s2.get eD
     refine Ae (vX hl2) (vX (ws:=[]) e2) (by rw [depD,Bf];decide) ?_
     rw [show (List.map Dt.str [])=[] from rfl,Cm]
     by_cases hz:zs=[]
     ·rw [decide_eq_true hz]
      walk_at "l2"
      exact ⟨s'.trans s2,eD2,by omega,hw⟩
     ·rw [decide_eq_false hz]
      have hzl:0 < zs.length:=List.length_pos_iff.mpr hz
      have hzp:(0:Int) < (((zs.map V.str).length:Nat):Int):=by omega
      walk_at "l2"
      obtain ⟨j,hj,hjl⟩:=dc (c:=mixV c (st + 1 + (0 + (i:Int)))) hzp
      have hjl:j < zs.length:=by omega
      have hat:atI (zs.map V.str) (mixV c (st + 1 + (0 + (i:Int))) % (((zs.map V.str).length:Nat):Int))=some (.str zs[j]):=by
       rw [hj]
       exact bv (by rw [List.getElem?_map,List.getElem?_eq_getElem hjl];rfl)
      walk_at "l2"
      refine ⟨eD2,by rw [List.length_map];exact bg (by omega),ws++[zs[j]],by rw [List.map_append];rfl,fun b o e=>?_,av,by rw [List.length_append];show _ + 1≤_;omega,fun w hw'=>?_⟩
      ·rw [ar (ah e hD)];exact s2.get (s'.get e)
      ·rcases List.mem_append.mp hw' with h | h
       ·exact hw w h
       ·rw [List.mem_singleton.mp h];exact List.getElem_mem hjl
    ·rintro ys H' ⟨ws,rfl,s',eD,lw,hw⟩
     exact q D H' ws hD s' eD (by omega) hw
end
section
variable {P:Program} {w:World} {K:PySem.W.Frag} {mg:Str→Option Value} {base:Heap} {a:Ad}
theorem xz {H:Hp} {Q:VK} {E:XK} {c k:Int} (h0:0≤k) (h1:k < 40) (q:∀ H2,Same H H2→Q (.str (nmf c k)) H2):vc [.int c,.int k] H Q E:=⟨c,k,rfl,h0,h1,q⟩
local macro_rules | `(tactic| walk_at "l2step") =>`(tactic| first | (with_reducible refine cG ?_) | ((with_reducible refine' Cw ?a ?b ?_);(case a=>omega);(case b=>omega)) | ((with_reducible refine' xD ?e ?a ?_);(case e=>walk_at "l2hp");(case a=>walk_at "l2side")))
theorem Ap (T:Tx K mg a):FnOk P w K mg base CX0 3 a.c7 a.nJ ["_law_script","_law_start","_law_most"] (Ju K):=by
 have gm:=@oj P w K mg base a T
 have aF:=@fX P w K mg base a T
 have cR:=@yy P w K mg base a T
 have zQ:=@wk P w K mg base a T
 refine T.jM.ok ba (fun vs H Q E h=>?_) (fun cdv A outer s H vs Q E hr h=>?_)
 ·obtain ⟨p,ns,st,mo,rfl,_⟩:=h;rfl
 ·obtain ⟨p,ns,st,mo,rfl,hS,hst,hmo,q⟩:=h
  have hu1:=qb hr
  refine ⟨_,((af (bf (i:=3) ba.nd rfl (by walk_at "o") (ax gm (hr.mono (by decide)) (by rfl) T.iq T.ip T.eC .nil aQ (aa (pv 0) (aa (pv 1) ad))))
   (af (bf (i:=4) ba.nd rfl (by walk_at "o") (bV (aa (aC bK (ax aF (hr.mono (by decide)) (by rfl) T.aW T.aV T.aK .nil aQ (aa (pv 3) (aa ak ad))) ak) (aa (aC bK (ax aF (hr.mono (by decide)) (by rfl) T.aW T.aV T.aK .nil aQ (aa (pv 3) (aa ak ad))) (aC cy (pv 2) ak)) (aa (aC bK (ax aF (hr.mono (by decide)) (by rfl) T.aW T.aV T.aK .nil aQ (aa (pv 3) (aa ak ad))) (aC cy (pv 2) ak)) ad)))))
   (af (ij (osc:=ae cW) (ON:=["_law_script","_law_start","_law_most","_law_cell_here","_law_sizes","_law_ins","_law_stores","_law_known","_law_sums","_law_k","_law_wires_here","_law_at","_law_ends","_law_name_here","_law_outs"]) (N:=["_law_k","_law_cell_here"]) (n:=1) (fx:=[3]) (i:=5) ba.nd rfl rfl rfl rfl rfl rfl (by decide +kernel) (fU (by rfl) T.kS (aa (cu (ck (K:=K) rfl) (pv 4) ak (fun _ _=>rfl)) ad)) (a0 (by decide)) (fun _ _ _ _ _=>⟨(az (i:=0) (show List.Nodup (["_law_k","_law_cell_here"]:List Str) from by decide +kernel) rfl (by walk_at "o")),bF,(ax cR (hr.mono (by decide)) (by rfl) T.eo T.em T.cP .nil aQ (aa (pv 1) (aa (pv 0) ad)))⟩))
   (af (ij (osc:=ae cW) (ON:=["_law_script","_law_start","_law_most","_law_cell_here","_law_sizes","_law_ins","_law_stores","_law_known","_law_sums","_law_k","_law_wires_here","_law_at","_law_ends","_law_name_here","_law_outs"]) (N:=["_law_k","_law_cell_here"]) (n:=1) (fx:=[3]) (i:=6) ba.nd rfl rfl rfl rfl rfl rfl (by decide +kernel) (fU (by rfl) T.kS (aa (cu (ck (K:=K) rfl) (pv 4) ak (fun _ _=>rfl)) ad)) (a0 (by decide)) (fun _ _ _ _ _=>⟨(az (i:=0) (show List.Nodup (["_law_k","_law_cell_here"]:List Str) from by decide +kernel) rfl (by walk_at "o")),bF,(ax cR (hr.mono (by decide)) (by rfl) T.eo T.em T.cP .nil aQ (aa (pv 1) (aa (aC cy ak (pv 0)) ad)))⟩))
   (af (bf (i:=7) ba.nd rfl (by walk_at "o") (aC i8 (pv 5) (pv 6)))
   (af (bf (i:=8) ba.nd rfl (by walk_at "o") (bV ad))
   (af (jZ PassesOwn.never rfl (fU (by rfl) T.kS (aa (cu (ck (K:=K) rfl) (pv 4) ak (fun _ _=>rfl)) ad)) (az (i:=9) ba.nd rfl (by walk_at "o")) (af (bf (i:=10) ba.nd rfl (by walk_at "o") (ax zQ (hr.mono (by decide)) (by rfl) T.y1 T.yV T.jC .nil aQ (aa (ax gm (hr.mono (by decide)) (by rfl) T.iq T.ip T.eC .nil aQ (aa (pv 0) (aa (aC cy (aC cy (pv 1) ak) (pv 9)) ad))) (aa ak (aa (pv 7) (aa (kE mW (aC bK (pv 3) ak) ak (bx _)) ad))))))
   (af (bY (i5 (K:=K) rfl PySem.F.plainAttrs_list PySem.F.slot_list_append PySem.F.type_list_append gb (pv 8) (aa (dH (aa (ax cR (hr.mono (by decide)) (by rfl) T.eo T.em T.cP .nil aQ (aa (pv 3) (aa (aC cy ak (pv 9)) ad))) (aa (pv 10) ad))) ad)))
   (al (bf (i:=7) ba.nd rfl (by walk_at "o") (aC i8 (pv 7) (bV (aa (ax cR (hr.mono (by decide)) (by rfl) T.eo T.em T.cP .nil aQ (aa (pv 3) (aa (aC cy ak (pv 9)) ad))) ad))))))))
   (af (bf (i:=11) ba.nd rfl (by walk_at "o") (aC bK (ax aF (hr.mono (by decide)) (by rfl) T.aW T.aV T.aK .nil aQ (aa (pv 3) (aa ak ad))) (aC cy (aD (be (K:=K) rfl) (by rfl) T.fZ PySem.boot_len (aa (pv 8) ad)) ak)))
   (af (bf (i:=8) ba.nd rfl (by walk_at "o") (aC i8 (wj (vN (K:=K) rfl) (pv 8) (v8 (pv 11)) GR) (DL (by rfl) (by rfl) T.j5 T.Ee rfl (wj (vN (K:=K) rfl) (pv 8) GR (v8 (pv 11))))))
   (af (bf (i:=12) ba.nd rfl (by walk_at "o") (bV ad))
   (af (jZ PassesOwn.never rfl (wf (K:=K) rfl (by rfl) T.io (pv 6)) (yr rfl (bu (az (i:=9) ba.nd rfl (by walk_at "o")) (bu (az (i:=13) ba.nd rfl (by walk_at "o")) gL))) (al (bY (i5 (K:=K) rfl PySem.F.plainAttrs_list PySem.F.slot_list_append PySem.F.type_list_append gb (pv 12) (aa (dH (aa (pv 13) (aa (cu (ck (K:=K) rfl) (pv 7) (aC bK (ax aF (hr.mono (by decide)) (by rfl) T.aW T.aV T.aK .nil aQ (aa (pv 3) (aa (aC cy ak (pv 9)) ad))) (aD (be (K:=K) rfl) (by rfl) T.fZ PySem.boot_len (aa (pv 7) ad))) (fun _ _=>rfl)) ad))) ad)))))
   (af (bf (i:=14) ba.nd rfl (by walk_at "o") (bV ad))
   (v7 (cw (aZ (mV (K:=K) rfl hu1) (pv 7) (bV ad) (bx _)) (al (ij (osc:=ae cW) (ON:=["_law_script","_law_start","_law_most","_law_cell_here","_law_sizes","_law_ins","_law_stores","_law_known","_law_sums","_law_k","_law_wires_here","_law_at","_law_ends","_law_name_here","_law_outs"]) (N:=["_law_k","_law_known","_law_cell_here"]) (n:=1) (fx:=[7,3]) (i:=14) ba.nd rfl rfl rfl rfl rfl rfl (by decide +kernel) (fU (by rfl) T.kS (aa (aC bK (ax aF (hr.mono (by decide)) (by rfl) T.aW T.aV T.aK .nil aQ (aa (pv 3) (aa ak ad))) ak) ad)) (a0 (by decide)) (fun _ _ _ _ _=>⟨(az (i:=0) (show List.Nodup (["_law_k","_law_known","_law_cell_here"]:List Str) from by decide +kernel) rfl (by walk_at "o")),bF,(cu (ck (K:=K) rfl) (pv 1) (aC bK (ax aF (hr.mono (by decide)) (by rfl) T.aW T.aV T.aK .nil aQ (aa (pv 2) (aa (aC cy ak (pv 0)) ad))) (aD (be (K:=K) rfl) (by rfl) T.fZ PySem.boot_len (aa (pv 1) ad))) (fun _ _=>rfl))⟩))) aR)
   (al (a9 (dH (aa (pv 5) (aa (pv 8) (aa (pv 12) (aa (pv 14) ad))))))))))))))))))))),aP (σ':=[some _,some _,some _,none,none,none,none,none,none,none,none,none,none,none,none]) rfl ?_⟩
  walk_at "l2"
  generalize hcc:cell ns ((st:Nat):Int)=c at *
  intro Z H1 f1 s1 e1
  obtain ⟨ni,hni,lni⟩:=dc (c:=mixV c 1) (m:=4) (by decide)
  obtain ⟨nt,hnt,lnt⟩:=dc (c:=mixV c 2) (m:=(mo:Int) + 1) (by omega)
  obtain ⟨nz,hnz,lnz⟩:=dc (c:=mixV c 3) (m:=(mo:Int) + 1) (by omega)
  rw [hni,hnt,hnz] at e1
  have hni3:ni≤3:=by omega
  have hnt6:nt≤12:=by omega
  have hnz6:nz≤12:=by omega
  have hnzo:nz≤mo:=by omega
  have hS1:=Same.seq s1 hS
  clear hni hnt hnz lni lnt lnz
  walk_at "l2"
  intro D2 hD2
  refine h8 (fun i ys H'=>Cs (fun i ys=>ys=(nms c 0 i).map V.str) H1 D2 i ys H') (Cs.zero hD2 rfl) (fun i ys H' hi cs=>?_) (fun ys H2 cs=>?_)
  ·have hi3:i < 3:=by omega
   walk_at "l2"
   refine xz (by omega) (by omega) fun H3 s3=>?_
   refine Cs.put hD2 (cs.same.trans s3) (s3.get cs.at') cs.len (by omega) ?_
   rw [cs.pv,l5,List.map_append,show (0:Int) + (i:Int)=((0 + i:Nat):Int) by push_cast;rfl];rfl
  ·have e2:=cs.at'
   rw [cs.pv,Int.toNat_natCast] at e2
   have s12:=cs.same
   clear cs
   have e12:=s12.get e1
   walk_at "l2"
   intro D3 hD3
   refine h8 (fun i ys H'=>Cs (fun i ys=>ys=(nms c 6 i).map V.str) H2 D3 i ys H') (Cs.zero hD3 rfl) (fun i ys H' hi cs=>?_) (fun ys H3 cs=>?_)
   ·have hi6:i < 12:=by omega
    walk_at "l2"
    refine xz (by omega) (by omega) fun H4 s4=>?_
    refine Cs.put hD3 (cs.same.trans s4) (s4.get cs.at') cs.len (by omega) ?_
    rw [cs.pv,l5,List.map_append,show (6:Int) + (0 + (i:Int))=((6 + i:Nat):Int) by push_cast;omega];rfl
   ·have e3:=cs.at'
    rw [cs.pv,Int.toNat_natCast] at e3
    have s23:=cs.same
    clear cs
    walk_at "l2"
    refine qa (s23.get e2) e3 (by rw [List.length_map,List.length_map,cN,cN,sizeLine_eq];omega) fun D4 H4 f4 s4 e4=>?_
    rw [← List.map_append] at e4
    have s14:=s12.trans (s23.trans s4)
    have e14:=s14.get e1
    have e24:=s4.get (s23.get e2)
    have e34:=s4.get e3
    have hS4:=Same.seq s14 hS1
    have s04:=s1.trans s14
    clear e12 hD2 hD3 f1 f4 s12 s23 s4 s14 e1 e2 e3 hS1 s1
    walk_at "l2"
    intro D5 H5 f5 s5 e5
    have e15:=s5.get e14
    have s05:=s04.trans s5
    have f50:H D5=none:=s04.free f5
    walk_at "l2"
    refine zb (fun i σ H'=>∃ (v9 v10:Option V) (Dk:Addr) (rs:List Rw),σ=[some (V.ref p),some (nat st),some (nat mo),some (V.int c),some (V.ref Z),some (V.ref D2),some (V.ref D3),some (V.ref Dk),some (V.ref D5),v9,v10,none,none,none,none]∧Same H4 H'∧H' Dk=some (.lst ((nms c 0 ni++nms c 6 nt++nms c 22 i).map V.str))∧Dk≠D5∧H' D5=some (.lst (rs.map fun r=>V.ref r.1))∧RwL H' rs∧(∀ r∈rs,r.2.1≠D5)∧Mk c ni nt (rs.map (·.2.2))∧rs.length=i) ⟨none,none,D4,[],rfl,s5,by rw [show nms c 22 0=[] from rfl,List.append_nil];exact s5.get e4,ah e4 f5,e5,fun _ h=>absurd h (by simp),fun _ h=>absurd h (by simp),Mk.nil ..,rfl⟩ ?_ ?_
    ·rintro i σ H' hi ⟨v9,v10,Dk,rs,rfl,s',ek,nk,eD,rl,nr,mk,lr⟩
     have hi6:i < 12:=by omega
     have hS':=Same.seq s' hS4
     walk_at "l2"
     refine ⟨_,10,Dk,_,_,rfl,by decide,by decide,ek,by rw [List.length_append,List.length_append,cN,cN,cN];omega,fun Dw H6 ws f6 s6 e6 l4 hw=>?_⟩
     have eD6:=s6.get eD
     walk_at "l2"
     refine xz (by omega) (by omega) fun H7 s7=>?_
     walk_at "l2"
     intro tr H8 f8 s8 e8
     have s78:=s7.trans s8
     have eD8:=s78.get eD6
     have ek8:=s78.get (s6.get ek)
     have ew8:=s78.get e6
     walk_at "l2"
     refine gw eD8 (by rw [List.length_map,sizeLine_eq];omega) fun H9 u9=>?_
     have nw:Dw≠D5:=(ah eD f6).symm
     have s'9:Same H4 H9:=fun b o e=>u9.oth _ _ (ah e f5) (s78.get (s6.get (s'.get e)))
     have ek9:=u9.oth _ _ nk ek8
     have et9:=u9.oth _ _ (fj e8 eD8 fun z=>by cases z) e8
     have ew9:=u9.oth _ _ nw ew8
     have rl9:RwL H9 rs:=fun r hr=>⟨u9.oth _ _ (fj ((rl.same s6).same s78 r hr).1 eD8 fun z=>by cases z) ((rl.same s6).same s78 r hr).1,u9.oth _ _ (nr r hr) ((rl.same s6).same s78 r hr).2⟩
     have eD9:=u9.at'
     clear u9 e8 ew8 ek8 eD8 s78 s7 s8 f8 eD6 e6 hS'
     walk_at "l2"
     refine xz (by omega) (by omega) fun H10 s10=>?_
     walk_at "l2"
     intro D11 H11 f11 s11 e11
     have s911:=s10.trans s11
     refine qa (s911.get ek9) e11 (by rw [List.length_map,List.length_append,List.length_append,cN,cN,cN,sizeLine_eq];show _ + 1≤_;omega) fun D12 H12 f12 s12 e12=>?_
     have s912:=s911.trans s12
     have ei:(22:Int) + (0 + (i:Int))=((22 + i:Nat):Int):=by push_cast;omega
     rw [ei] at e12 et9
     have ekn:(nms c 0 ni++nms c 6 nt++nms c 22 i).map V.str++[V.str (nmf c ((22 + i:Nat):Int))]=(nms c 0 ni++nms c 6 nt++nms c 22 (i + 1)).map V.str:=by
      rw [l5,← List.append_assoc,List.map_append (l₂:=[_])];rfl
     rw [ekn] at e12
     walk_at "l2"
     refine ⟨_,_,D12,rs++[(tr,Dw,nmf c ((22 + i:Nat):Int),ws)],rfl,s'9.trans s912,e12,(ah (s911.get eD9) f12).symm,by rw [s912.get eD9,List.map_append];rfl,fun r hr=>?_,fun r hr=>?_,?_,by rw [List.length_append,lr];rfl⟩
     ·rcases List.mem_append.mp hr with h | h
      ·exact rl9.same s912 r h
      ·rw [List.mem_singleton] at h;subst h
       exact ⟨s912.get et9,s912.get ew9⟩
     ·rcases List.mem_append.mp hr with h | h
      ·exact nr r h
      ·rw [List.mem_singleton] at h;subst h;exact nw
     ·have lm:(rs.map (·.2.2)).length=i:=by rw [List.length_map,lr]
      have:=mk.put (ws:=ws) l4 (by rw [lm];exact hw)
      rw [lm] at this
      rw [List.map_append]
      exact this
    ·rintro σ H' ⟨v9,v10,Dk,rs,rfl,s',ek,nk,eD,rl,nr,mk,lr⟩
     rw [Int.toNat_natCast] at lr
     rw [Int.toNat_natCast] at ek
     have e2':=s'.get e24
     have e3':=s'.get e34
     have hS':=Same.seq s' hS4
     have s0':=s04.trans s'
     obtain ⟨j,hj,hjl⟩:=dc (c:=mixV c 4) (m:=(((rs.map fun r=>V.ref r.1).length:Nat):Int) + 1) (by omega)
     have lrm:(rs.map fun r=>V.ref r.1).length=rs.length:=List.length_map ..
     have hjr:j≤rs.length:=by omega
     clear e14 e24 e34 e4 e5 hS4 s04 s05 s5 f5 f50 e15
     walk_at "l2"
     rw [hj]
     intro D6 H6 f6 s6 e6
     rw [KA _ j (by rw [lrm];exact hjr),← List.map_drop] at e6
     have eD6:=s6.get eD
     walk_at "l2"
     refine NE ?_
     walk_at "l2"
     intro D7 H7 f7 s7 e7
     rw [Ky _ j (by rw [lrm];exact hjr),← List.map_take] at e7
     refine ⟨D7,_,rfl,SqL.of e7,fun D8 f8=>?_⟩
     rw [← List.map_reverse]
     have s8:=bH (o:=HO.lst ((rs.take j).reverse.map fun r=>V.ref r.1)) f8
     have e8:upd H7 D8 (HO.lst ((rs.take j).reverse.map fun r=>V.ref r.1)) D8=some (HO.lst ((rs.take j).reverse.map fun r=>V.ref r.1)):=av
     generalize upd H7 D8 (HO.lst ((rs.take j).reverse.map fun r=>V.ref r.1))=H8 at s8 e8 ⊢
     refine qa (s8.get (s7.get e6)) e8 (by rw [List.length_map,List.length_map,List.length_reverse,List.length_drop,List.length_take,sizeLine_eq];omega) fun D9 H9 f9 s9 e9=>?_
     rw [← List.map_append] at e9
     have s'9:=s6.trans (s7.trans (s8.trans s9))
     have e29:=s'9.get e2'
     have e39:=s'9.get e3'
     have ek9:=s'9.get ek
     have rl9:=rl.same s'9
     have s09:=s0'.trans s'9
     have perm:(rs.drop j++(rs.take j).reverse).Perm rs:=by
      refine List.Perm.trans (List.Perm.append_left _ (List.reverse_perm _)) ?_
      refine List.Perm.trans List.perm_append_comm ?_
      rw [List.take_append_drop]
     generalize hrs':rs.drop j++(rs.take j).reverse=rs' at e9 perm
     have rl':RwL H9 rs':=fun r hr=>rl9 r (perm.mem_iff.mp hr)
     clear rl9 rl s8 e8 e7 f7 f8 s7 e6 f6 s6 s9 f9 s'9 e2' e3' eD eD6 nr nk s' s0' hS' ek hrs'
     walk_at "l2"
     intro D10 H10 f10 s10 e10
     have e310:=s10.get e39
     walk_at "l2"
     refine .inl ⟨⟨_,SqL.of e310⟩,?_⟩
     have lk:(nms c 0 ni++nms c 6 nt++nms c 22 nz).length=ni + nt + nz:=by rw [List.length_append,List.length_append,cN,cN,cN]
     generalize hkn:nms c 0 ni++nms c 6 nt++nms c 22 nz=kn at ek9 lk
     refine Ck (xs:=(nms c 6 nt).map V.str) (fun i σ H'=>∃ (v9 v13:Option V) (qs:List Qs),σ=[some (V.ref p),some (nat st),some (nat mo),some (V.int c),some (V.ref Z),some (V.ref D2),some (V.ref D3),some (V.ref Dk),some (V.ref D9),v9,v10,some (V.int j),some (V.ref D10),v13,none]∧Same H9 H'∧H' D10=some (.lst (qs.map fun q=>V.ref q.1))∧QsK H' qs∧qs.map (·.2.1)=nms c 6 i∧∀ q∈qs,q.2.2∈kn) ⟨_,none,[],rfl,s10,e10,fun _ h=>absurd h (by simp),rfl,fun _ h=>absurd h (by simp)⟩ (fun i σ H' _ ⟨_,_,_,_,s',_⟩=>SqL.of (s'.get e39)) ?_ ?_
     ·rintro i y σ H' pz H7 hy ⟨v9,v13,qs,rfl,s',eq,qk,qn,qw⟩ fp s7 e7
      obtain ⟨z,hz,rfl⟩:=bi hy
      have hlt:=(List.getElem?_eq_some_iff.mp hz).1
      rw [cN] at hlt
      have ez:z=nmf c ((6 + i:Nat):Int):=by
       unfold nms at hz
       rw [List.getElem?_map,List.getElem?_range hlt] at hz
       exact (Option.some.inj hz).symm
      have lq:qs.length=i:=by have:=congrArg List.length qn;rw [List.length_map,cN] at this;exact this
      have ek7:=s7.get (s'.get ek9)
      have elen:(kn.map V.str).length=ni + nt + nz:=by rw [List.length_map,lk]
      have eq7:=s7.get eq
      walk_at "l2"
      obtain ⟨m,hm,hml⟩:=dc (c:=mixV c (50 + (i:Int))) (m:=(((kn.map V.str).length:Nat):Int)) (by omega)
      have hml:m < kn.length:=by rw [List.length_map] at hml;omega
      have hat:atI (kn.map V.str) (mixV c (50 + (i:Int)) % (((kn.map V.str).length:Nat):Int))=some (.str kn[m]):=by
       rw [hm]
       exact bv (by rw [List.getElem?_map,List.getElem?_eq_getElem hml];rfl)
      walk_at "l2"
      intro tq H8 f8 s8 e8
      walk_at "l2"
      refine gw (s8.get eq7) (by rw [List.length_map,sizeLine_eq];omega) fun H9' u9=>?_
      walk_at "l2"
      refine ⟨_,_,qs++[(tq,z,kn[m])],rfl,fun b o e=>u9.oth _ _ (ah e f10) (s8.get (s7.get (s'.get e))),by rw [u9.at',List.map_append];rfl,?_,?_,fun q' hq'=>?_⟩
      ·intro q' hq'
       rcases List.mem_append.mp hq' with h | h
       ·exact ((qk.same s7).same s8).updL (s8.get eq7) u9.oth q' h
       ·rw [List.mem_singleton] at h;subst h
        exact u9.oth _ _ (fj e8 (s8.get eq7) fun z=>by cases z) e8
      ·rw [List.map_append,qn,l5,ez];rfl
      ·rcases List.mem_append.mp hq' with h | h
       ·exact qw q' h
       ·rw [List.mem_singleton] at h;subst h;exact List.getElem_mem hml
     ·rintro σ H' ⟨v9,v13,qs,rfl,s',eq,qk,qn,qw⟩
      rw [List.length_map,cN] at qn
      have ek':=s'.get ek9
      have e2':=s'.get e29
      have e9':=s'.get e9
      have rl2:=rl'.same s'
      walk_at "l2"
      intro D11 H11 f11 s11 e11
      walk_at "l2"
      refine L2.s_cut (fun σ H2=>∃ (Do:Addr) (outs:List Str),σ=[some (V.ref p),some (nat st),some (nat mo),some (V.int c),some (V.ref Z),some (V.ref D2),some (V.ref D3),some (V.ref Dk),some (V.ref D9),v9,v10,some (V.int j),some (V.ref D10),v13,some (V.ref Do)]∧Same H' H2∧H2 Do=some (.lst (outs.map V.str))∧outs.length≤3∧∀ z∈outs,z∈kn) ?_ ?_
      ·have ek11:=s11.get ek'
       walk_at "l2"
       intro L12 H12 f12 s12 e12
       have ek12:=s12.get ek11
       refine Ae (vX ek12) (vX (ws:=[]) e12) (by rw [depD,Bf];decide) ?_
       rw [show (List.map Dt.str [])=[] from rfl,Cm]
       have s'12:=s11.trans s12
       have e1112:=s12.get e11
       by_cases hz:kn=[]
       ·rw [decide_eq_true hz]
        walk_at "l2"
        exact ⟨D11,[],rfl,s'12,e1112,Nat.zero_le _,fun _ h=>absurd h (by simp)⟩
       ·rw [decide_eq_false hz]
        have m0:=Int.emod_nonneg (mixV c 5) (show (4:Int)≠0 by decide)
        have m1:=Int.emod_lt_of_pos (mixV c 5) (show (0:Int) < 4 by decide)
        have hzl:1≤kn.length:=List.length_pos_iff.mpr hz
        have elen:(kn.map V.str).length=kn.length:=List.length_map ..
        walk_at "l2"
        intro D13 hD13
        refine h8 (fun i ys H2=>∃ ws:List Str,ys=ws.map V.str∧Same H12 H2∧H2 D13=some (.lst ys)∧ws.length=i∧∀ w∈ws,w∈kn) ⟨[],rfl,bH hD13,av,rfl,fun _ h=>absurd h (by simp)⟩ ?_ ?_
        ·rintro i ys H2 hi ⟨ws,rfl,s2,eD,lw,hw⟩
         have ek2:=s2.get ek12
         have hi4:i < 4:=by omega
         walk_at "l2"
         obtain ⟨m,hm,hml⟩:=dc (c:=mixV c (80 + (0 + (i:Int)))) (m:=(((kn.map V.str).length:Nat):Int)) (by omega)
         have hml:m < kn.length:=by omega
         have hat:atI (kn.map V.str) (mixV c (80 + (0 + (i:Int))) % (((kn.map V.str).length:Nat):Int))=some (.str kn[m]):=by
          rw [hm]
          exact bv (by rw [List.getElem?_map,List.getElem?_eq_getElem hml];rfl)
         walk_at "l2"
         refine ⟨eD,by rw [List.length_map];exact bg (by omega),ws++[kn[m]],by rw [List.map_append];rfl,fun b o e=>?_,av,by rw [List.length_append,lw];rfl,fun w hw'=>?_⟩
         ·rw [ar (ah e hD13)];exact s2.get e
         ·rcases List.mem_append.mp hw' with h | h
          ·exact hw w h
          ·rw [List.mem_singleton.mp h];exact List.getElem_mem hml
        ·rintro ys H2 ⟨ws,rfl,s2,eD,lw,hw⟩
         walk_at "l2"
         exact ⟨D13,ws,rfl,s'12.trans s2,eD,by omega,hw⟩
      ·rintro σ H12 ⟨Do,outs,rfl,s12,e12,lo,ho⟩
       have e212:=s12.get e2'
       walk_at "l2"
       intro tt H13 f13 s13 e13
       have s'13:=s12.trans s13
       have hzl:(rs.map (·.2.2)).length=nz:=by rw [List.length_map,lr]
       subst hkn
       have aT:∀ q'∈qs.map (·.2),q'.2∈nms c 0 ni++nms c 6 nt++nms c 22 (rs.map (·.2.2)).length:=fun q' hq'=>by
        obtain ⟨q'',hq'',rfl⟩:=List.mem_map.mp hq'
        rw [hzl]
        exact qw q'' hq''
       have aO:∀ z∈outs,z∈nms c 0 ni++nms c 6 nt++nms c 22 (rs.map (·.2.2)).length:=by rw [hzl];exact ho
       have aN:(qs.map (·.2)).map (·.1)=nms c 6 nt:=by rw [List.map_map];exact qn
       refine q tt D2 D9 D10 Do H13 rs' qs ⟨nms c 0 ni,rs'.map (·.2.2),qs.map (·.2),outs⟩ (s09.trans (s'.trans s'13)) e13 ⟨s13.get e212,s'13.get e9',fun r hr=>rl2.same s'13 r hr,rfl,s'13.get eq,fun q' hq'=>qk.same s'13 q' hq',rfl,s13.get e12⟩ (G8 mk hni3 hnt6 (by rw [hzl];exact hnz6) (perm.map _) aN (by omega) aT aO) (by show (nms c 0 ni).length≤3;rw [cN];exact hni3) (by show (rs'.map (·.2.2)).length≤mo;rw [(perm.map _).length_eq,hzl];exact hnzo) (MB mk hni3 hnt6 (by rw [hzl];exact hnz6) (perm.map _) aN (by omega) aT aO)
end
section
variable {P:Program} {w:World} {K:PySem.W.Frag} {mg:Str→Option Value} {base:Heap} {a:Ad}
local macro_rules | `(tactic| walk_at "l2step") =>`(tactic| first | ((with_reducible refine' c_whole ?e ?_);(case e=>walk_at "l2kind")) | ((with_reducible refine' c_mask ?e ?_);(case e=>walk_at "l2kind")) | (with_reducible refine cG ?_) | (with_reducible refine d3 ?_))
local macro_rules | `(tactic| walk_at "l2step") =>`(tactic| first | (with_reducible refine Gy ?_) | (with_reducible refine yf ?_) | (with_reducible refine PV ?_) | ((with_reducible refine' Cw ?a ?b ?_);(case a=>walk_at "l2side");(case b=>walk_at "l2side")) | ((with_reducible refine' xD ?e ?a ?_);(case e=>walk_at "l2hp");(case a=>walk_at "l2side")))
theorem Ox (T:Tx K mg a):FnOk P w K mg base CX0 14 a.ze a.MO ["_law_script"] (BU K):=by
 have gm:=@oj P w K mg base a T
 have aF:=@fX P w K mg base a T
 have FA:=@Ap P w K mg base a T
 have cR:=@lR P w K mg base a T
 have xT:=@tG P w K mg base a T
 have FC:=@Aq P w K mg base a T
 have zR:=@wm P w K mg base a T
 have BR:=@yx P w K mg base a T
 have g6:=@jc P w K mg base a T
 have vH:=@Ar P w K mg base a T
 refine T.KN.ok dF (fun vs H Q E h=>?_) (fun cdv A outer s H vs Q E hr h=>?_)
 ·obtain ⟨p,ns,rfl,_⟩:=h;rfl
 ·obtain ⟨p0,ns,rfl,hS,hlen,q⟩:=h
  have hu0:=OT hr
  have hu1:=qb hr
  refine ⟨_,((af (GP (ax FA (hr.mono (by decide)) (by rfl) T.ET T.Ez T.nS .nil aQ (aa (pv 0) (aa ak (aa ak ad)))) (yr rfl (bu (az (i:=1) dF.nd rfl (by walk_at "o")) (bu (az (i:=2) dF.nd rfl (by walk_at "o")) (bu (az (i:=3) dF.nd rfl (by walk_at "o")) (bu (az (i:=4) dF.nd rfl (by walk_at "o")) gL))))))
   (v7 (cw (aZ mW (aC bK (ax gm (hr.mono (by decide)) (by rfl) T.iq T.ip T.eC .nil aQ (aa (pv 0) (aa ak ad))) ak) ak (bx _)) (af (bf (i:=5) dF.nd rfl (by walk_at "o") (aD (Ii rfl) (by rfl) T.Qc PyProof.Rows.boot_min (aa (aC vn ak (aD (be (K:=K) rfl) (by rfl) T.fZ PySem.boot_len (aa (pv 2) ad))) (aa (aC cy (aC bK (aC qt (ax gm (hr.mono (by decide)) (by rfl) T.iq T.ip T.eC .nil aQ (aa (pv 0) (aa ak ad))) ak) ak) ak) ad))))
   (al (bf (i:=2) dF.nd rfl (by walk_at "o") (aC i8 (pv 2) (b2 (osc:=ae s0) (ON:=["_law_script","_law_ins","_law_sums","_law_stores","_law_outs","_law_more","_law_lists","_law_net_one","_law_names","_law_k","_law_cell_here","_law_wire","_law_fresh","_law_due_here","_law_found","_law_told_here"]) (N:=["_law_k"]) (n:=1) (fx:=[]) rfl rfl rfl (by decide +kernel) (fU (by rfl) T.kS (aa (pv 5) ad)) (a0 (by decide)) (fun _ _ _ _ _=>⟨(az (i:=0) (show List.Nodup (["_law_k"]:List Str) from by decide +kernel) rfl (by walk_at "o")),bF,(dH (aa (aC fK (aC fK bE (bb jz (by rfl) T.G3 PyProof.Rows.boot_str (aa (pv 0) ad))) bE) (aa (bV ad) ad)))⟩)))))) aR)
   (af (bf (i:=6) dF.nd rfl (by walk_at "o") (dH (aa (pv 1) (aa (b2 (osc:=ae s0) (ON:=["_law_script","_law_ins","_law_sums","_law_stores","_law_outs","_law_more","_law_lists","_law_net_one","_law_names","_law_k","_law_cell_here","_law_wire","_law_fresh","_law_due_here","_law_found","_law_told_here"]) (N:=["_law_name_here","_law_wires_here"]) (n:=2) (fx:=[]) rfl rfl rfl (by decide +kernel) (cj (K:=K) rfl (pv 2)) (y0 (eG (a0 (by decide)) (eG (a0 (by decide)) rN))) (fun _ _ _ _ _=>⟨(qj (K:=K) (n:=2) rfl rfl (bu (az (i:=0) (show List.Nodup (["_law_name_here","_law_wires_here"]:List Str) from by decide +kernel) rfl (by walk_at "o")) (bu (az (i:=1) (show List.Nodup (["_law_name_here","_law_wires_here"]:List Str) from by decide +kernel) rfl (by walk_at "o")) gL))),bF,(dH (aa (pv 0) (aa (bb (b0 (K:=K) rfl) (by rfl) T.eh PyProof.Rows.boot_tuple (aa (pv 1) ad)) ad)))⟩)) (aa (pv 3) (aa (pv 4) ad))))))
   (af (bf (i:=7) dF.nd rfl (by walk_at "o") (BZ T.Pn g6 (hr.mono (by decide)) (by rfl) T.OU T.eK .nil thr0 (aa (pv 1) (aa (pv 2) (aa (pv 3) (aa (pv 4) ad))))))
   (af (bf (i:=8) dF.nd rfl (by walk_at "o") (aC i8 (aC i8 (pv 1) (b2 (osc:=ae s0) (ON:=["_law_script","_law_ins","_law_sums","_law_stores","_law_outs","_law_more","_law_lists","_law_net_one","_law_names","_law_k","_law_cell_here","_law_wire","_law_fresh","_law_due_here","_law_found","_law_told_here"]) (N:=["_law_row"]) (n:=1) (fx:=[]) rfl rfl rfl (by decide +kernel) (cj (K:=K) rfl (pv 2)) (a0 (by decide)) (fun _ _ _ _ _=>⟨(az (i:=0) (show List.Nodup (["_law_row"]:List Str) from by decide +kernel) rfl (by walk_at "o")),bF,(cu (cf (K:=K) rfl) (pv 0) ak (fun _ _=>rfl))⟩))) (b2 (osc:=ae s0) (ON:=["_law_script","_law_ins","_law_sums","_law_stores","_law_outs","_law_more","_law_lists","_law_net_one","_law_names","_law_k","_law_cell_here","_law_wire","_law_fresh","_law_due_here","_law_found","_law_told_here"]) (N:=["_law_row"]) (n:=1) (fx:=[]) rfl rfl rfl (by decide +kernel) (cj (K:=K) rfl (pv 3)) (a0 (by decide)) (fun _ _ _ _ _=>⟨(az (i:=0) (show List.Nodup (["_law_row"]:List Str) from by decide +kernel) rfl (by walk_at "o")),bF,(cu (cf (K:=K) rfl) (pv 0) ak (fun _ _=>rfl))⟩))))
   (af (jZ PassesOwn.never rfl (Mh (K:=K) rfl (by rfl) T.io (aC i8 (wj (vN (K:=K) rfl) (pv 0) (v8 ak) (v8 ak)) (bV (aa ak ad)))) (yr rfl (bu (az (i:=9) dF.nd rfl (by walk_at "o")) (bu (az (i:=10) dF.nd rfl (by walk_at "o")) gL))) (af (bf (i:=11) dF.nd rfl (by walk_at "o") (ax cR (hr.mono (by decide)) (by rfl) T.eo T.em T.cP .nil aQ (aa (pv 10) (aa ak ad))))
   (v7 (cw (PW.pt (BY (aZ (mV (K:=K) rfl hu1) (pv 8) (bV ad) (bx _)) (vZ (aZ qr (aC bK (ax aF (hr.mono (by decide)) (by rfl) T.aW T.aV T.aK .nil aQ (aa (pv 10) (aa ak ad))) ak) ak (bx _))))) (al (bf (i:=11) dF.nd rfl (by walk_at "o") (cu (ck (K:=K) rfl) (pv 8) (aC bK (aC qt (pv 10) ak) (aD (be (K:=K) rfl) (by rfl) T.fZ PySem.boot_len (aa (pv 8) ad))) (fun _ _=>rfl)))) (al (cw (aZ mW (aC bK (ax aF (hr.mono (by decide)) (by rfl) T.aW T.aV T.aK .nil aQ (aa (pv 10) (aa ak ad))) ak) ak (bx _)) (al (bf (i:=11) dF.nd rfl (by walk_at "o") (cu (ck (K:=K) rfl) (bV (aa n9 (aa ak (aa (bV ad) (aa bE (aa An (aa (dH (aa bE ad)) ad))))))) (aC bK (ax aF (hr.mono (by decide)) (by rfl) T.aW T.aV T.aK .nil aQ (aa (pv 10) (aa ak ad))) ak) (fun _ _=>rfl)))) aR)))
   (af (bf (i:=12) dF.nd rfl (by walk_at "o") (ax xT (hr.mono (by decide)) (by rfl) T.xk T.xc T.iG .nil aQ (aa (ax aF (hr.mono (by decide)) (by rfl) T.aW T.aV T.aK .nil aQ (aa (pv 10) (aa ak ad))) (aa (aC i8 (pv 8) (bV (aa bE ad))) ad))))
   (af (bf (i:=13) dF.nd rfl (by walk_at "o") (ax FC (hr.mono (by decide)) (by rfl) T.EU T.EA T.nT .nil aQ (aa (pv 8) (aa (aD (be (K:=K) rfl) (by rfl) T.fZ PySem.boot_len (aa (pv 2) ad)) (aa (pv 11) (aa (pv 12) ad))))))
   (af (GP (ax zR (hr.mono (by decide)) (by rfl) T.y2 T.yW T.jD .nil aQ (aa (pv 7) (aa (pv 11) (aa (pv 12) ad)))) (Om (K:=K) (n:=2) rfl rfl (bu (az (i:=14) dF.nd rfl (by walk_at "o")) (bu (az (i:=15) dF.nd rfl (by walk_at "o")) gL))))
   (af (cw (PW.pt (vY (aZ (mV (K:=K) rfl hu1) (pv 15) (pv 13) (bx _)) (vY (aZ (mV (K:=K) rfl hu1) (dI (pv 7) T.dn T.vp vH (hr.mono (by decide)) T.jL .nil aQ) (pv 6) (bx _)) (ym (aZ Qb (kE Lc (pv 14) n9 (bx _)) (kE Mj (pv 13) n9 (bx _)) (bx _)))))) (al (a9 An)) aR)
   (al (cw (PW.pt (BY (aZ Lc (pv 13) n9 (bx _)) (vZ (aZ (mV (K:=K) rfl hu1) (dI (pv 14) T.dn T.vp vH (hr.mono (by decide)) T.jL .nil aQ) (ax BR (hr.mono (by decide)) (by rfl) T.A6 T.A3 T.lu .nil aQ (aa (pv 6) (aa (pv 11) (aa (pv 12) ad)))) (bx _))))) (al (a9 An)) aR)))))))))
   (al (a9 An))))))))),aP (σ':=[some _,none,none,none,none,none,none,none,none,none,none,none,none,none,none,none]) rfl ?_⟩
  walk_at "l2"
  refine ⟨p0,ns,0,10,rfl,hS,by decide,by decide,fun t i s u o H1 rs0 qs N0 s1 et hn0 g0 li0 ls0 nmc=>?_⟩
  have hS1:=Same.seq s1 hS
  walk_at "l2"
  refine L2.s_cut (fun σ H2=>∃ (s2:Addr) (rs:List Rw) (N:Nt) (v5:Option V),σ=[some (.ref p0),some (.ref i),some (.ref s2),some (.ref u),some (.ref o),v5,none,none,none,none,none,none,none,none,none,none]∧Same H1 H2∧Hnd H2 i s2 u o rs qs N∧Gn N) ?_ ?_
  ·walk_at "l2"
   by_cases hc:cell ns 12 % 4=1
   ·refine gK (decide_eq_true (by rw [hc])) ?_
    have hs0:=hn0.s
    have lr0:rs0.length=N0.sums.length:=by rw [← hn0.es,List.length_map]
    walk_at "l2"
    rw [List.length_map]
    obtain ⟨m8,hm8,lm8⟩:=dc (c:=cell ns 12 / 4) (m:=8) (by decide)
    rw [hm8]
    obtain ⟨m,hm,hm1⟩:∃ m:Nat,min (40 - (rs0.length:Int)) ((m8:Int) + 24)=(m:Int)∧N0.sums.length + m≤40:=by
     refine ⟨(min (40 - (rs0.length:Int)) ((m8:Int) + 24)).toNat,?_,?_⟩<;>omega
    rw [hm]
    walk_at "l2"
    rw [Int.toNat_natCast]
    intro D2 hD2
    refine h8 (fun j ys H'=>∃ rs':List Rw,ys=rs'.map (fun r=>V.ref r.1)∧rs'.map (·.2.2)=flrs j∧RwLs H' rs'∧(∀ r∈rs',r.2.1≠D2)∧Same H1 H'∧H' D2=some (.lst ys)) ⟨[],rfl,rfl,fun _ h=>absurd h (by simp),fun _ h=>absurd h (by simp),bH hD2,av⟩ ?_ ?_
    ·rintro j ys H' hj ⟨rs',rfl,hrs,rl,rd,s',eD⟩
     have hlen':rs'.length=j:=by have:=congrArg List.length hrs;rw [List.length_map,xm] at this;exact this
     walk_at "l2"
     rw [Int.zero_add]
     refine ⟨O9 (by omega),"n",tx j,rfl,rfl,O8 (by decide +kernel) (by omega),?_⟩
     walk_at "l2"
     refine ⟨flen (by omega),?_⟩
     walk_at "l2"
     intro B1 H6 f6 s6 e6
     walk_at "l2"
     intro tr H7 f7 s7 e7
     have nB:B1≠D2:=fun zz=>by rw [zz,eD] at f6;cases f6
     have eD7:=s7.get (s6.get eD)
     refine ⟨eD7,by rw [List.length_map];exact bg (by omega),rs'++[(tr,B1,fln j,[])],by rw [List.map_append];rfl,by rw [List.map_append,hrs,HL];rfl,fun r2 h2=>?_,fun r2 h2=>?_,fun b ob e=>?_,av⟩
     ·rcases List.mem_append.mp h2 with h | h
      ·have t1:=s7.get (s6.get (rl r2 h).1)
       have t2:=s7.get (s6.get (rl r2 h).2)
       exact ⟨by rw [ar (fj t1 eD7 fun z=>by cases z)];exact t1,by rw [ar (rd r2 h)];exact t2⟩
      ·rw [List.mem_singleton] at h;subst h
       exact ⟨by rw [ar (fj e7 eD7 fun z=>by cases z)];exact e7,by rw [ar nB];exact s7.get e6⟩
     ·rcases List.mem_append.mp h2 with h | h
      ·exact rd r2 h
      ·rw [List.mem_singleton] at h;subst h;exact nB
     ·rw [ar (ah e hD2)]
      exact s7.get (s6.get (s'.get e))
    ·rintro ys H2 ⟨rs',rfl,hrs,rl,rd,s2,eD⟩
     have hlen':rs'.length=m:=by have:=congrArg List.length hrs;rw [List.length_map,xm] at this;exact this
     refine qa (s2.get hs0) eD (by rw [List.length_map,List.length_map,sizeLine_eq];omega) fun D3 H3 f3 s3 e3=>?_
     rw [← List.map_append] at e3
     have s13:=s2.trans s3
     have hn3:=hn0.same s13
     walk_at "l2"
     refine ⟨D3,rs0++rs',fil N0 m,_,rfl,s13,⟨hn3.i,e3,fun r hr'=>?_,?_,hn3.t,hn3.tr,hn3.et,hn3.o⟩,g0.fil nmc hm1⟩
     ·rcases List.mem_append.mp hr' with h | h
      ·exact hn3.sr r h
      ·exact (rl.same s3) r h
     ·rw [List.map_append,hrs,hn0.es];rfl
   ·refine eR (decide_eq_false fun z=>hc (V.int.inj z)) ?_
    walk_at "l2"
    exact ⟨s,rs0,N0,_,rfl,Same.refl _,hn0,g0⟩
  ·rintro σ H2 ⟨s2,rs,N,v5,rfl,s12,hn,g⟩
   have hS2:=Same.seq s12 hS1
   have hs2:=hn.s
   have li:=g.li
   have ls:=g.ls
   have lt:=g.lt
   have lo:=g.lo
   have lrs:rs.length=N.sums.length:=by rw [← hn.es,List.length_map]
   have lqs:qs.length=N.sts.length:=by rw [← hn.et,List.length_map]
   walk_at "l2"
   intro A1 hA1
   refine bL (xs:=rs.map fun r=>V.ref r.1) (fun i ys H'=>∃ rs':List Rw,ys=rs'.map (fun r=>V.ref r.1)∧rs'.map (·.2.2)=(rs.take i).map (·.2.2)∧RwK H' rs'∧Same H2 H'∧H' A1=some (.lst ys)) ⟨[],rfl,rfl,fun _ h=>absurd h (by simp),bH hA1,av⟩ (fun i ys H' _ ⟨_,_,_,_,s',_⟩=>SqL.of (s'.get hs2)) ?_ ?_
   ·rintro j y ys H' hy ⟨rs',rfl,hrs,hk,s',eD⟩
    obtain ⟨r,hr',rfl⟩:=bi hy
    have hlt:=(List.getElem?_eq_some_iff.mp hr').1
    have hm:=List.mem_of_getElem? hr'
    have er:=s'.get (hn.sr r hm).1
    have ew:=s'.get (hn.sr r hm).2
    have hlen:rs'.length=j:=by have:=congrArg List.length hrs;rw [List.length_map,List.length_map,List.length_take] at this;omega
    walk_at "l2"
    intro tw H11 f11 s11 e11
    walk_at "l2"
    intro tr H12 f12 s12' e12
    have ntr:tr≠A1:=fun z=>(by rw [z,s11.get eD] at f12;cases f12)
    have ntw:tw≠A1:=fun z=>(by rw [z,eD] at f11;cases f11)
    have eD12:=s12'.get (s11.get eD)
    refine ⟨eD12,by rw [List.length_map];exact bg (by omega),rs'++[(tr,tw,r.2.2)],by rw [List.map_append];rfl,by rw [List.map_append,hrs,take_succ hr',List.map_append];rfl,fun r2 h2=>?_,fun b ob e=>?_,av⟩
    ·rcases List.mem_append.mp h2 with h2 | h2
     ·exact ((hk.same s11).same s12').updL eD12 (fun b ob n e=>by rw [ar n];exact e) r2 h2
     ·rw [List.mem_singleton] at h2;subst h2
      exact ⟨by rw [ar ntr];exact e12,by rw [ar ntw];exact s12'.get e11⟩
    ·rw [ar (ah e hA1)]
     exact s12'.get (s11.get (s'.get e))
   rintro ys H3 ⟨rs3,rfl,hrs3,rk3,s23,eA3⟩
   rw [List.length_map,List.take_length,hn.es] at hrs3
   walk_at "l2"
   intro tl H4 f4 s4 e4
   have s24:=s23.trans s4
   have hn4:=hn.same s24
   have td4:TldA H4 tl i A1 u o rs3 qs N:=⟨e4,hn4.i,s4.get eA3,rk3.same s4,hrs3,hn4.t,hn4.tr,hn4.et,hn4.o⟩
   walk_at "l2"
   intro x dx H5 f5 s5 e5
   have hn5:=hn4.same s5
   refine ⟨x,dx,i,s2,u,o,rs,qs,N,rfl,e5,⟨hn5.i,hn5.s,fun r m=>⟨(hn5.sr r m).1,.inl (hn5.sr r m).2⟩,hn5.es,hn5.t,hn5.tr,hn5.et,hn5.o⟩,li,fun _ H6 od k6 na=>⟨rfl,?_⟩,fun hb=>absurd ls (by omega),.inl g⟩
   have s46:Same H4 H6:=fun b ob e=>k6 _ _ (ah e f5) (s5.get e)
   have td6:=td4.same s46
   have hn6:=hn4.same s46
   have hS6:=Same.seq (s24.trans s46) hS2
   have hi6:=hn6.i
   have hs6:=hn6.s
   clear s5 f5 e5 hn5 k6
   walk_at "l2"
   intro D7 hD7
   refine bL (xs:=rs.map fun r=>V.ref r.1) (fun i ys H'=>Cs (fun i ys=>ys=((rs.take i).map (·.2.2.1)).map V.str) H6 D7 i ys H') (Cs.zero hD7 rfl) (fun i ys H' _ c=>SqL.of (c.same.get hs6)) (fun i x ys H' hx c=>?_) (fun ys H7 c=>?_)
   ·obtain ⟨r,hr',rfl⟩:=bi hx
    have hlt:=(List.getElem?_eq_some_iff.mp hr').1
    have er:=c.same.get (hn6.sr r (List.mem_of_getElem? hr')).1
    walk_at "l2"
    refine Cs.put hD7 c.same c.at' c.len (by omega) ?_
    rw [c.pv,take_succ hr',List.map_append,List.map_append];rfl
   have e7:=c.at'
   rw [c.pv,List.length_map,List.take_length] at e7
   have s67:=c.same
   clear c
   refine qa (s67.get hi6) e7 (by rw [List.length_map,List.length_map,List.length_map,sizeLine_eq];omega) fun D8 H8 f8 s8 e8=>?_
   have s68:=s67.trans s8
   have ht8:=s68.get hn6.t
   walk_at "l2"
   intro D9 hD9
   refine bL (xs:=qs.map fun r=>V.ref r.1) (fun i ys H'=>Cs (fun i ys=>ys=((qs.take i).map (·.2.1)).map V.str) H8 D9 i ys H') (Cs.zero hD9 rfl) (fun i ys H' _ c=>SqL.of (c.same.get ht8)) (fun i x ys H' hx c=>?_) (fun ys H9 c=>?_)
   ·obtain ⟨r,hr',rfl⟩:=bi hx
    have hlt:=(List.getElem?_eq_some_iff.mp hr').1
    have er:=c.same.get (s68.get (hn6.tr r (List.mem_of_getElem? hr')))
    walk_at "l2"
    refine Cs.put hD9 c.same c.at' c.len (by omega) ?_
    rw [c.pv,take_succ hr',List.map_append,List.map_append];rfl
   have e9:=c.at'
   rw [c.pv,List.length_map,List.take_length] at e9
   have s89:=c.same
   clear c
   have enm:N.ins++rs.map (·.2.2.1)++qs.map (·.2.1)=N.names:=by
    unfold Nt.names
    rw [← hn.es,← hn.et,List.map_map,List.map_map];rfl
   have lnm:N.names.length≤100:=by rw [← enm,List.length_append,List.length_append,List.length_map,List.length_map];omega
   refine qa (s89.get e8) e9 (by rw [List.length_append,List.length_map,List.length_map,List.length_map,List.length_map,List.length_map,sizeLine_eq];omega) fun D10 H10 f10 s10 e10=>?_
   rw [← List.map_append,← List.map_append,enm] at e10
   have s610:=s68.trans (s89.trans s10)
   have td10:=td6.same s610
   have na10:=na.same s610
   have hS10:=Same.seq s610 hS6
   have hs10:=s610.get hs6
   clear e9 e8 e7 s10 s89 s68 s67 s8 s610 td6 na hS6 hs6 hn6 hi6 td4 hn4 s24 s23 s4 e4 eA3 rk3 s46 f10 hD9 hD7 f8 ht8 hA1 hS2 hs2 hS1 et
   walk_at "l2"
   intro Ds H11 f11 s11 e11
   walk_at "l2"
   intro Dl H12 f12 s12 e12
   obtain ⟨ms,hms,lms⟩:∃ ms:List Int,cutV (ns.map V.int) (some 13) (some 23)++[V.int 5]=ms.map V.int∧ms.length≤64:=by
    unfold cutV
    rw [← List.map_drop,← List.map_take]
    refine ⟨_,(List.map_append (f:=V.int) (l₂:=[5])).symm,?_⟩
    rw [List.length_append,List.length_take,List.length_drop,List.length_singleton]
    omega
   have lms':(cutV (ns.map V.int) (some 13) (some 23)).length + [V.int 5].length≤64:=by
    rw [← List.length_append,hms,List.length_map];exact lms
   refine qa (s12.get e11) e12 (by rw [sizeLine_eq];omega) fun De H13 f13 s13 e13=>?_
   rw [hms] at e13
   have s1013:=s11.trans (s12.trans s13)
   have td13:=td10.same s1013
   have na13:=na10.same s1013
   have hs13:=s1013.get hs10
   have e13':=s1013.get e10
   obtain ⟨_,_,_,_,_,_,_,_,_,_,hp,_⟩:=na13.ho
   clear td10 na10 hs10 e10 s11 s12 s13 s1013 e11 e12 f11 f12 f13 hms lms' hS10
   walk_at "l2"
   refine Ck (xs:=ms.map V.int) (fun k σ H'=>∃ v9 v10 v11 v12 v13 v14 v15,σ=[some (.ref p0),some (.ref i),some (.ref s2),some (.ref u),some (.ref o),v5,some (.ref tl),some (.ref x),some (.ref D10),v9,v10,v11,v12,v13,v14,v15]∧Same H13 H') ⟨none,none,none,none,none,none,none,rfl,Same.refl _⟩ (fun k σ H' _ ⟨_,_,_,_,_,_,_,_,s'⟩=>SqL.of (s'.get e13)) ?_ ?_
   ·rintro k y σ H' pt H14 hy ⟨v9,v10,v11,v12,v13,v14,v15,rfl,s'⟩ ft st et
    obtain ⟨c,hc,rfl⟩:=bi hy
    have s14:=s'.trans st
    walk_at "l2"
    refine ⟨c,71,rfl,.inr rfl,fun H15 s15=>?_⟩
    have s1315:=s14.trans s15
    walk_at "l2"
    refine L2.s_cut (fun σ H16=>∃ (v:V) (kd:String),σ=[some (.ref p0),some (.ref i),some (.ref s2),some (.ref u),some (.ref o),v5,some (.ref tl),some (.ref x),some (.ref D10),some (.int (k:Int)),some (.int c),some v,v12,v13,v14,v15]∧Same H13 H16∧Thg2 H16 v kd) ?_ ?_
    ·have e15:=s1315.get e13'
     walk_at "l2"
     intro Bx Hx fx sx ex
     have s13x:=s1315.trans sx
     refine Ae (pP (sx.get e15)) (Rep.lst (ds:=[]) (SqL.of ex) rfl fun i x d h=>by simp at h) (by unfold depD;rw [jK];decide) ?_
     rw [Cn]
     by_cases hnil:N.names=[]
     ·refine ⟨false,by rw [decide_eq_true hnil];rfl,?_⟩
      rw [if_neg (by decide)]
      walk_at "l2"
      by_cases hm:mixV c 6 % 2=0
      ·refine gK (decide_eq_true (by rw [hm])) ?_
       walk_at "l2"
       intro Bn Ha fa sa' ea
       walk_at "l2"
       intro Bq Hb fb sb eb
       walk_at "l2"
       intro Bl Hc fc sc ec
       obtain ⟨j,hj,hjl⟩:=dc (c:=mixV c 7) (m:=6) (by decide)
       have key:∃ v kd,atI [V.non,V.int 7,V.ref Bn,V.str "A",V.bl true,V.ref Bq] (mixV c 7 % 6)=some v∧Thg2 Hc v kd:=by
        rw [hj]
        have:j=0∨j=1∨j=2∨j=3∨j=4∨j=5:=by omega
        rcases this with rfl | rfl | rfl | rfl | rfl | rfl
        ·exact ⟨_,_,bv rfl,.sc .non⟩
        ·exact ⟨_,_,bv rfl,.sc (.int _)⟩
        ·exact ⟨_,_,bv rfl,.nil (sc.get (sb.get ea))⟩
        ·exact ⟨_,_,bv rfl,.sc (.str _ (by decide +kernel))⟩
        ·exact ⟨_,_,bv rfl,.sc (.bl _)⟩
        ·exact ⟨_,_,bv rfl,.one (z:="q") (by decide +kernel) (sc.get eb)⟩
       obtain ⟨v,kd,hav,tv⟩:=key
       generalize [V.non,V.int 7,V.ref Bn,V.str "A",V.bl true,V.ref Bq]=more at hav ec
       walk_at "l2"
       exact ⟨v,kd,rfl,s13x.trans (sa'.trans (sb.trans sc)),tv⟩
      ·refine eR (decide_eq_false fun z=>hm (V.int.inj z)) ?_
       walk_at "l2"
       exact ⟨_,_,rfl,s13x,.sc (.str _ (AH c (.inr rfl)))⟩
     ·refine ⟨true,by rw [decide_eq_false hnil];rfl,?_⟩
      rw [if_pos rfl]
      have lp:0 < N.names.length:=List.length_pos_iff.mpr hnil
      have lp':(0:Int) < (((N.names.map V.str).length:Nat):Int):=by rw [List.length_map];omega
      have e15:=s13x.get e13'
      walk_at "l2"
      by_cases h6:0 < mixV c 3 % 6
      ·refine gK (decide_eq_true h6) ?_
       obtain ⟨j,hj,hjl⟩:=dc (c:=c / 64) (m:=(((N.names.map V.str).length:Nat):Int)) lp'
       rw [List.length_map] at hjl
       have hjl:j < N.names.length:=by omega
       have hat:atI (N.names.map V.str) (c / 64 % (((N.names.map V.str).length:Nat):Int))=some (.str N.names[j]):=by
        rw [hj];exact bv (by rw [List.getElem?_map,List.getElem?_eq_getElem hjl];rfl)
       walk_at "l2"
       exact ⟨_,_,rfl,s13x,.sc (.str _ (by have:=(g.nm _ (List.getElem_mem hjl)).len;omega))⟩
      ·refine eR (decide_eq_false h6) ?_
       walk_at "l2"
       by_cases hm:mixV c 6 % 2=0
       ·refine gK (decide_eq_true (by rw [hm])) ?_
        walk_at "l2"
        intro Bn Ha fa sa' ea
        walk_at "l2"
        intro Bq Hb fb sb eb
        walk_at "l2"
        intro Bl Hc fc sc ec
        obtain ⟨j,hj,hjl⟩:=dc (c:=mixV c 7) (m:=6) (by decide)
        have key:∃ v kd,atI [V.non,V.int 7,V.ref Bn,V.str "A",V.bl true,V.ref Bq] (mixV c 7 % 6)=some v∧Thg2 Hc v kd:=by
         rw [hj]
         have:j=0∨j=1∨j=2∨j=3∨j=4∨j=5:=by omega
         rcases this with rfl | rfl | rfl | rfl | rfl | rfl
         ·exact ⟨_,_,bv rfl,.sc .non⟩
         ·exact ⟨_,_,bv rfl,.sc (.int _)⟩
         ·exact ⟨_,_,bv rfl,.nil (sc.get (sb.get ea))⟩
         ·exact ⟨_,_,bv rfl,.sc (.str _ (by decide +kernel))⟩
         ·exact ⟨_,_,bv rfl,.sc (.bl _)⟩
         ·exact ⟨_,_,bv rfl,.one (z:="q") (by decide +kernel) (sc.get eb)⟩
        obtain ⟨v,kd,hav,tv⟩:=key
        generalize [V.non,V.int 7,V.ref Bn,V.str "A",V.bl true,V.ref Bq]=more at hav ec
        walk_at "l2"
        exact ⟨v,kd,rfl,s13x.trans (sa'.trans (sb.trans sc)),tv⟩
       ·refine eR (decide_eq_false fun z=>hm (V.int.inj z)) ?_
        walk_at "l2"
        exact ⟨_,_,rfl,s13x,.sc (.str _ (AH c (.inr rfl)))⟩
    rintro σ H16 ⟨v,kd,rfl,s16,tv⟩
    have e16:=s16.get e13'
    clear s1315 s15 s14 s' st et ft
    walk_at "l2"
    intro Bq H17 f17 s17 e17
    refine qa (s17.get e16) e17 (by rw [List.length_map,sizeLine_eq];simp only [List.length_cons,List.length_nil];omega) fun Bz H18 f18 s18 e18=>?_
    rw [show N.names.map V.str++[V.str "q"]=(N.names++[("q":Str)]).map V.str by rw [List.map_append];rfl] at e18
    walk_at "l2"
    refine ⟨mixV c 4,Bz,N.names++[("q":Str)],rfl,e18,by simp,by rw [List.length_append];simp only [List.length_cons,List.length_nil];omega,fun z hz=>?_,fun f kf H19 s19 sf=>?_⟩
    ·rcases List.mem_append.mp hz with h | h
     ·have:=(g.nm z h).len;omega
     ·rw [List.mem_singleton.mp h];decide +kernel
    have s1619:=s17.trans (s18.trans s19)
    have s1319:=s16.trans s1619
    have hs19:=s1319.get hs13
    have tv19:=tv.same s1619
    clear e18 e17 s17 s18 f17 f18 s1619 e16 tv s16 s19
    walk_at "l2"
    rw [List.length_map,lrs]
    refine ⟨D10,N.names,N.sums.length,v,f,kd,kf,rfl,s1319.get e13',by omega,tv19,sf,fun rd H20 s20 dv=>?_⟩
    have s1320:=s1319.trans s20
    walk_at "l2"
    refine ⟨x,N,od,v,f,kd,kf,rfl,na13.same s1320,tv19.same s20,sf,fun Da r1 r2 v2 H21 s21 e21 cp dv2 fv=>?_⟩
    have s1321:=s1320.trans s21
    walk_at "l2"
    refine NV (SqL.of e21) rfl ?_
    walk_at "l2"
    obtain ⟨d,rv,rv2,hd⟩:=cp.rep (K:=K) s21
    obtain ⟨df,rf,hdf⟩:=sf.rep (K:=K) (H:=H21)
    have dv21:=dv.same s21
    refine Ae (dv2.rep rv2 rf) (dv21.rep rv rf) (Ku hd hdf) ?_
    refine ⟨false,by rw [pQ];rfl,?_⟩
    rw [if_neg (by decide)]
    walk_at "l2"
    refine dG (s1321.get hp) rfl ?_
    walk_at "l2"
    refine ⟨x,N,od,rfl,na13.same s1321,fun th A1' A2' A3' A4' H22 rs22 qs22 fA1 fA2 fA3 fA4 fth s22 th22=>?_⟩
    have s1322:=s1321.trans s22
    have td22:=td13.same s1322
    have eth:=th22.t
    walk_at "l2"
    refine Ae th22.rep td22.rep (HX N) ?_
    refine ⟨false,by rw [pQ];rfl,?_⟩
    rw [if_neg (by decide)]
    clear cp rv rv2 hd rf hdf th22 eth fA1 fA2 fA3 fA4 fth
    by_cases hc4:dueA N.names N.sums.length v f=4
    ·rw [hc4] at dv2 dv21 fv
     unfold FndV at fv
     rw [if_pos rfl] at fv
     obtain ⟨n,w',z,od2,rfl,rfl,rfl,na2⟩:=fv
     have dv2:r2= .non:=dv2
     have dv21:rd= .non:=dv21
     subst dv2
     subst dv21
     have na22:=na2.same s22
     obtain ⟨_,_,_,_,_,_,_,_,_,_,hp2,_⟩:=na22.ho
     walk_at "l2"
     refine dG hp2 rfl ?_
     walk_at "l2"
     refine ⟨n,cutN N w' z,od2,rfl,na22,fun th2 B1' B2' B3' B4' H23 rs23 qs23 gA1 gA2 gA3 gA4 gth s23 th23=>?_⟩
     have td23:=td22.same s23
     walk_at "l2"
     refine ⟨tl,i,A1,u,o,rs3,qs,N,w',z,rfl,td23,g,fun t' E1 E2 E3 E4 H24 rs24 qs24 s24 td24=>?_⟩
     have th24:=th23.same s24
     have eth:=th24.t
     have etd:=td24.t
     refine Ae th24.rep td24.rep (HX _) ?_
     refine ⟨false,by rw [pQ];rfl,?_⟩
     rw [if_neg (by decide)]
     walk_at "l2"
     exact ⟨_,_,_,_,_,_,_,rfl,s1322.trans (s23.trans s24)⟩
    ·obtain ⟨D,rfl⟩:=DueV.ref dv21 hc4
     unfold FndV at fv
     rw [if_neg hc4] at fv
     subst fv
     walk_at "l2"
     exact ⟨_,_,_,_,_,_,_,rfl,s1322⟩
   ·rintro σ H' ⟨v9,v10,v11,v12,v13,v14,v15,rfl,s'⟩
    walk_at "l2"
    exact q H'
end
open PySem.W in
theorem all_mk {l:OpenLaw} {w:World} {K:Frag} {h:Heap} {mg:Str→Option Value} {fa:Addr} (X:K.In h) (G:h.Ns mainGlobals mg) (hfa:mg "law"=some (.ref fa))
  {Mp MT:Option Addr} {LM:Array (Option Value)} {Mq MD MM Mf Ih MQ:Value} {jn:Addr}
  {kK lA:Option Addr} {kq:Array (Option Value)} {kN kW k7 kD gj lg:Value} {aM:Addr}
  {kJ ly:Option Addr} {ko:Array (Option Value)} {kM kU kZ kC gi lc:Value} {aL:Addr}
  {lU mB:Option Addr} {lF:Array (Option Value)} {lW mf mj lK gD mm:Value} {aX:Addr}
  {DT Fr:Option Addr} {Dy:Array (Option Value)} {DW Ev Fa DK vF Fd:Value} {dN:Addr}
  {oR pI:Option Addr} {oH:Array (Option Value)} {oV pq pA oN iU pD:Value} {bj:Addr}
  {lV mC:Option Addr} {lG:Array (Option Value)} {lX mh ml lL gE mn:Value} {aJ:Addr}
  {kI lx:Option Addr} {km:Array (Option Value)} {kL kT kX kB gh lb:Value} {aG:Addr}
  {jd jE:Option Addr} {i0:Array (Option Value)} {je jk jo i4 eT jt:Value} {aB:Addr}
  {tJ uS:Option Addr} {sT:Array (Option Value)} {tO uu uD tj kc uI:Value} {bS:Addr}
  {tK uT:Option Addr} {sU:Array (Option Value)} {tP uv uE tm ke uJ:Value} {bT:Addr}
  {wn xH:Option Addr} {vO:Array (Option Value)} {wt wZ xq wa mq xu:Value} {b6:Addr}
  {tI uR:Option Addr} {sS:Array (Option Value)} {tN ut uC tf kb uH:Value} {bR:Addr}
  {oQ pH:Option Addr} {oG:Array (Option Value)} {oU pp py oM iT pC:Value} {bz:Addr}
  {JV KG:Option Addr} {Jy:Array (Option Value)} {JW Ki Kw JN Cv KB:Value} {iu:Addr}
  {DS Fq:Option Addr} {Dx:Array (Option Value)} {DV Eu E9 DJ vE Fc:Value} {dM:Addr}
  {qF sJ:Option Addr} {p4:Array (Option Value)} {qK rE rY qi jy sj:Value} {bq:Addr}
  {qC sI:Option Addr} {p3:Array (Option Value)} {qJ rC rX qh jx si:Value} {bp:Addr}
  {qA sH:Option Addr} {pZ:Array (Option Value)} {qI rB rW qg jw sh:Value} {bo:Addr}
  {m3 nW:Option Addr} {mM:Array (Option Value)} {m5 nE nI mR ib nO:Value} {aU:Addr}
  {oS pJ:Option Addr} {oI:Array (Option Value)} {oW pr pB oO iV pE:Value} {bc:Addr}
  {Av BH:Option Addr} {z8:Array (Option Value)} {Az AY Bj Ak sw Bs:Value} {cv:Addr}
  {mZ nV:Option Addr} {mL:Array (Option Value)} {m4 nD nH mQ ia nN:Value} {aS:Addr}
  {tM uV:Option Addr} {sW:Array (Option Value)} {tR ux uG tz kh uL:Value} {bA:Addr}
  {DR Fp:Option Addr} {Du:Array (Option Value)} {DU Et E8 DI vD Fb:Value} {dL:Addr}
  {OA Pe:Option Addr} {Nx:Array (Option Value)} {OC OJ O4 Oj Ln O7:Value} {xn:Addr}
  {yB zJ:Option Addr} {yd:Array (Option Value)} {yE yS zn yp oz zu:Value} {cB:Addr}
  {At BF:Option Addr} {z6:Array (Option Value)} {Ax AW Bh Ai so Bp:Value} {c8:Addr}
  {yA zI:Option Addr} {yc:Array (Option Value)} {yD yR zm yo oy zr:Value} {ci:Addr}
  {wo xI:Option Addr} {vP:Array (Option Value)} {wu w4 xr wc mr xv:Value} {b7:Addr}
  {As BE:Option Addr} {z5:Array (Option Value)} {Aw AV Bg Ah sk Bo:Value} {c7:Addr}
  {tL uU:Option Addr} {sV:Array (Option Value)} {tQ uw uF tu kg uK:Value} {bU:Addr}
  {qy sF:Option Addr} {pW:Array (Option Value)} {qG rz rU qe ju se:Value} {bI:Addr}
  {Au BG:Option Addr} {z7:Array (Option Value)} {Ay AX Bi Aj su Br:Value} {c9:Addr}
  {qz sG:Option Addr} {pX:Array (Option Value)} {qH rA rV qf jv sg:Value} {bJ:Addr}
  {yz zH:Option Addr} {yb:Array (Option Value)} {yC yQ zk yn ou zq:Value} {cA:Addr}
  {wp xJ:Option Addr} {vQ:Array (Option Value)} {wv w6 xt we mt xw:Value} {b8:Addr}
  {Oz Pd:Option Addr} {Nw:Array (Option Value)} {OB OI O3 Oi Lm O6:Value} {ze:Addr}
  {bB:Addr} (Pi:nsIn K mainGlobals "Wire"=some (some (.ref bB)))
  {ay:Addr} (KJ:nsIn K mainGlobals "InWire"=some (some (.ref ay)))
  {au:Addr} (IB:nsIn K mainGlobals "SumWire"=some (some (.ref au)))
  {am:Addr} (BM:nsIn K mainGlobals "StoreWire"=some (some (.ref am)))
  {bt:Addr} (Qn:nsIn K mainGlobals "Net"=some (some (.ref bt)))
  {aA:Addr} (BL:nsIn K mainGlobals "WireError"=some (some (.ref aA)))
  {aw:Addr} (IA:nsIn K mainGlobals "TooMany"=some (some (.ref aw)))
  {aj:Addr} (IE:nsIn K mainGlobals "BadName"=some (some (.ref aj)))
  {ai:Addr} (ID:nsIn K mainGlobals "Doubled"=some (some (.ref ai)))
  {ao:Addr} (KH:nsIn K mainGlobals "NoWire"=some (some (.ref ao)))
  (Ph:nsIn K mainGlobals "kept"=some (some (.ref jn)))
  (OH:K.lookup jn=some ⟨Mq,Mp,.func (fnOf "kept" "kept" (aH jX) (aE jX) (ae jX) .none MD MM Mf MT Ih MQ),LM⟩)
  (Pa:codeIn K Ih "kept"=true)
  (Lb:keepIn K (.ref jn)=true)
  (lC:findIn K (.ref aj) "__init__"=some (some (.ref aM)))
  (me:K.lookup aM=some ⟨kN,kK,.func (fnOf "__init__" "BadName.__init__" (aH bP) (aE bP) (ae bP) .none kW k7 kD lA gj lg),kq⟩)
  (my:codeIn K gj "BadName.__init__"=true)
  (gz:keepIn K (.ref aM)=true)
  (lB:findIn K (.ref ai) "__init__"=some (some (.ref aL)))
  (md:K.lookup aL=some ⟨kM,kJ,.func (fnOf "__init__" "Doubled.__init__" (aH bO) (aE bO) (ae bO) .none kU kZ kC ly gi lc),ko⟩)
  (mx:codeIn K gi "Doubled.__init__"=true)
  (gy:keepIn K (.ref aL)=true)
  (mJ:findIn K (.ref ao) "__init__"=some (some (.ref aX)))
  (ny:K.lookup aX=some ⟨lW,lU,.func (fnOf "__init__" "NoWire.__init__" (aH bW) (aE bW) (ae bW) .none mf mj lK mB gD mm),lF⟩)
  (nQ:codeIn K gD "NoWire.__init__"=true)
  (hU:keepIn K (.ref aX)=true)
  (Iz:nsIn K mainGlobals "is_name"=some (some (.ref dN)))
  (Hh:K.lookup dN=some ⟨DW,DT,.func (fnOf "is_name" "is_name" (aH fQ) (aE fQ) (ae fQ) .none Ev Fa DK Fr vF Fd),Dy⟩)
  (Ip:codeIn K vF "is_name"=true)
  (yv:keepIn K (.ref dN)=true)
  (FX:findIn K (.ref bB) "__init__"=some (some (.ref bj)))
  (rp:K.lookup bj=some ⟨oV,oR,.func (fnOf "__init__" "Wire.__init__" (aH cq) (aE cq) (ae cq) .none pq pA oN pI iU pD),oH⟩)
  (sB:codeIn K iU "Wire.__init__"=true)
  (fV:keepIn K (.ref bj)=true)
  (C0:findIn K (.ref ay) "__init__"=some (some (.ref aJ)))
  (nC:K.lookup aJ=some ⟨lX,lV,.func (fnOf "__init__" "InWire.__init__" (aH bX) (aE bX) (ae bX) .none mh ml lL mC gE mn),lG⟩)
  (nR:codeIn K gE "InWire.__init__"=true)
  (hV:keepIn K (.ref aJ)=true)
  (BS:findIn K (.ref au) "__init__"=some (some (.ref aG)))
  (l9:K.lookup aG=some ⟨kL,kI,.func (fnOf "__init__" "SumWire.__init__" (aH bN) (aE bN) (ae bN) .none kT kX kB lx gh lb),km⟩)
  (mw:codeIn K gh "SumWire.__init__"=true)
  (gx:keepIn K (.ref aG)=true)
  (zS:findIn K (.ref am) "__init__"=some (some (.ref aB)))
  (jT:K.lookup aB=some ⟨je,jd,.func (fnOf "__init__" "StoreWire.__init__" (aH bC) (aE bC) (ae bC) .none jk jo i4 jE eT jt),i0⟩)
  (jV:codeIn K eT "StoreWire.__init__"=true)
  (fw:keepIn K (.ref aB)=true)
  (xL:nsIn K mainGlobals "check_sizes"=some (some (.ref bS)))
  (wU:K.lookup bS=some ⟨tO,tJ,.func (fnOf "check_sizes" "check_sizes" (aH cz) (aE cz) (ae cz) .none uu uD tj uS kc uI),sT⟩)
  (xB:codeIn K kc "check_sizes"=true)
  (lN:keepIn K (.ref bS)=true)
  (xM:nsIn K mainGlobals "check_names"=some (some (.ref bT)))
  (wV:K.lookup bT=some ⟨tP,tK,.func (fnOf "check_names" "check_names" (aH cV) (aE cV) (ae cV) .none uv uE tm uT ke uJ),sU⟩)
  (xC:codeIn K ke "check_names"=true)
  (lO:keepIn K (.ref bT)=true)
  (zK:nsIn K mainGlobals "check_wire"=some (some (.ref b6)))
  (yN:K.lookup b6=some ⟨wt,wn,.func (fnOf "check_wire" "check_wire" (aH dC) (aE dC) (ae dC) .none wZ xq wa xH mq xu),vO⟩)
  (zA:codeIn K mq "check_wire"=true)
  (oa:keepIn K (.ref b6)=true)
  (xK:nsIn K mainGlobals "check_wires"=some (some (.ref bR)))
  (wT:K.lookup bR=some ⟨tN,tI,.func (fnOf "check_wires" "check_wires" (aH cU) (aE cU) (ae cU) .none ut uC tf uR kb uH),sS⟩)
  (xA:codeIn K kb "check_wires"=true)
  (lM:keepIn K (.ref bR)=true)
  (sK:nsIn K mainGlobals "wires_by_name"=some (some (.ref bz)))
  (ro:K.lookup bz=some ⟨oU,oQ,.func (fnOf "wires_by_name" "wires_by_name" (aH bh) (aE bh) (ae bh) .none pp py oM pH iT pC),oG⟩)
  (sA:codeIn K iT "wires_by_name"=true)
  (i7:keepIn K (.ref bz)=true)
  (MV:nsIn K mainGlobals "waits"=some (some (.ref iu)))
  (MC:K.lookup iu=some ⟨JW,JV,.func (fnOf "waits" "waits" (aH kz) (aE kz) (ae kz) .none Ki Kw JN KG Cv KB),Jy⟩)
  (MR:codeIn K Cv "waits"=true)
  (GT:keepIn K (.ref iu)=true)
  (Iy:nsIn K mainGlobals "ordered"=some (some (.ref dM)))
  (Hg:K.lookup dM=some ⟨DV,DS,.func (fnOf "ordered" "ordered" (aH eQ) (aE eQ) (ae eQ) .none Eu E9 DJ Fq vE Fc),Dx⟩)
  (Io:codeIn K vE "ordered"=true)
  (yu:keepIn K (.ref dM)=true)
  (IT:findIn K (.ref bt) "__init__"=some (some (.ref bq)))
  (ur:K.lookup bq=some ⟨qK,qF,.func (fnOf "__init__" "Net.__init__" (aH bw) (aE bw) (ae bw) .none rE rY qi sJ jy sj),p4⟩)
  (uQ:codeIn K jy "Net.__init__"=true)
  (j4:keepIn K (.ref bq)=true)
  (IS:findIn K (.ref bt) "in_names"=some (some (.ref bp)))
  (uq:K.lookup bp=some ⟨qJ,qC,.func (fnOf "in_names" "Net.in_names" (aH cE) (aE cE) (ae cE) .none rC rX qh sI jx si),p3⟩)
  (uP:codeIn K jx "Net.in_names"=true)
  (gN:keepIn K (.ref bp)=true)
  (IR:findIn K (.ref bt) "sum_rows"=some (some (.ref bo)))
  (uo:K.lookup bo=some ⟨qI,qA,.func (fnOf "sum_rows" "Net.sum_rows" (aH cD) (aE cD) (ae cD) .none rB rW qg sH jw sh),pZ⟩)
  (uO:codeIn K jw "Net.sum_rows"=true)
  (gM:keepIn K (.ref bo)=true)
  (FG:findIn K (.ref bt) "store_rows"=some (some (.ref aU)))
  (pj:K.lookup aU=some ⟨m5,m3,.func (fnOf "store_rows" "Net.store_rows" (aH b4) (aE b4) (ae b4) .none nE nI mR nW ib nO),mM⟩)
  (pG:codeIn K ib "Net.store_rows"=true)
  (fh:keepIn K (.ref aU)=true)
  (FY:findIn K (.ref bt) "out_wires"=some (some (.ref bc)))
  (rq:K.lookup bc=some ⟨oW,oS,.func (fnOf "out_wires" "Net.out_wires" (aH cr) (aE cr) (ae cr) .none pr pB oO pJ iV pE),oI⟩)
  (sC:codeIn K iV "Net.out_wires"=true)
  (fW:keepIn K (.ref bc)=true)
  (MZ:findIn K (.ref bt) "told"=some (some (.ref cv)))
  (Es:K.lookup cv=some ⟨Az,Av,.func (fnOf "told" "Net.told" (aH fJ) (aE fJ) (ae fJ) .none AY Bj Ak BH sw Bs),z8⟩)
  (Fl:codeIn K sw "Net.told"=true)
  (mU:keepIn K (.ref cv)=true)
  (FF:findIn K (.ref bt) "wire_names"=some (some (.ref aS)))
  (pi:K.lookup aS=some ⟨m4,mZ,.func (fnOf "wire_names" "Net.wire_names" (aH b3) (aE b3) (ae b3) .none nD nH mQ nV ia nN),mL⟩)
  (pF:codeIn K ia "Net.wire_names"=true)
  (fg:keepIn K (.ref aS)=true)
  (Jm:findIn K (.ref bt) "wire_of"=some (some (.ref bA)))
  (wX:K.lookup bA=some ⟨tR,tM,.func (fnOf "wire_of" "Net.wire_of" (aH cZ) (aE cZ) (ae cZ) .none ux uG tz uV kh uL),sW⟩)
  (xF:codeIn K kh "Net.wire_of"=true)
  (il:keepIn K (.ref bA)=true)
  (Ix:nsIn K mainGlobals "put_for"=some (some (.ref dL)))
  (Hf:K.lookup dL=some ⟨DU,DR,.func (fnOf "put_for" "put_for" (aH fP) (aE fP) (ae fP) .none Et E8 DI Fp vD Fb),Du⟩)
  (Im:codeIn K vD "put_for"=true)
  (yt:keepIn K (.ref dL)=true)
  (Qm:nsIn K mainGlobals "cut"=some (some (.ref xn)))
  (Qf:K.lookup xn=some ⟨OC,OA,.func (fnOf "cut" "cut" (aH s_cut) (aE s_cut) (ae s_cut) .none OJ O4 Oj Pe Ln O7),Nx⟩)
  (Ql:codeIn K Ln "cut"=true)
  (Ou:keepIn K (.ref xn)=true)
  (BK:nsIn K mainGlobals "_law_cell"=some (some (.ref cB)))
  (AU:K.lookup cB=some ⟨yE,yB,.func (fnOf "_law_cell" "_law_cell" (aH d5) (aE d5) (ae d5) .none yS zn yp zJ oz zu),yd⟩)
  (BA:codeIn K oz "_law_cell"=true)
  (qq:keepIn K (.ref cB)=true)
  (Fv:nsIn K mainGlobals "_law_mix"=some (some (.ref c8)))
  (Ep:K.lookup c8=some ⟨Ax,At,.func (fnOf "_law_mix" "_law_mix" (aH fG) (aE fG) (ae fG) .none AW Bh Ai BF so Bp),z6⟩)
  (Fj:codeIn K so "_law_mix"=true)
  (vk:keepIn K (.ref c8)=true)
  (BJ:nsIn K mainGlobals "_law_name"=some (some (.ref ci)))
  (AT:K.lookup ci=some ⟨yD,yA,.func (fnOf "_law_name" "_law_name" (aH d4) (aE d4) (ae d4) .none yR zm yo zI oy zr),yc⟩)
  (By:codeIn K oy "_law_name"=true)
  (qp:keepIn K (.ref ci)=true)
  (zL:nsIn K mainGlobals "_law_wires"=some (some (.ref b7)))
  (yO:K.lookup b7=some ⟨wu,wo,.func (fnOf "_law_wires" "_law_wires" (aH cL) (aE cL) (ae cL) .none w4 xr wc xI mr xv),vP⟩)
  (zB:codeIn K mr "_law_wires"=true)
  (og:keepIn K (.ref b7)=true)
  (Fu:nsIn K mainGlobals "_law_net"=some (some (.ref c7)))
  (Eo:K.lookup c7=some ⟨Aw,As,.func (fnOf "_law_net" "_law_net" (aH cW) (aE cW) (ae cW) .none AV Bg Ah BE sk Bo),z5⟩)
  (Fi:codeIn K sk "_law_net"=true)
  (vj:keepIn K (.ref c7)=true)
  (xN:nsIn K mainGlobals "_law_called"=some (some (.ref bU)))
  (wW:K.lookup bU=some ⟨tQ,tL,.func (fnOf "_law_called" "_law_called" (aH cX) (aE cX) (ae cX) .none uw uF tu uU kg uK),sV⟩)
  (xE:codeIn K kg "_law_called"=true)
  (lP:keepIn K (.ref bU)=true)
  (uW:nsIn K mainGlobals "_law_is_name"=some (some (.ref bI)))
  (ul:K.lookup bI=some ⟨qG,qy,.func (fnOf "_law_is_name" "_law_is_name" (aH b9) (aE b9) (ae b9) .none rz rU qe sF ju se),pW⟩)
  (uM:codeIn K ju "_law_is_name"=true)
  (j2:keepIn K (.ref bI)=true)
  (Fw:nsIn K mainGlobals "_law_due"=some (some (.ref c9)))
  (Er:K.lookup c9=some ⟨Ay,Au,.func (fnOf "_law_due" "_law_due" (aH fH) (aE fH) (ae fH) .none AX Bi Aj BG su Br),z7⟩)
  (Fk:codeIn K su "_law_due"=true)
  (vm:keepIn K (.ref c9)=true)
  (uX:nsIn K mainGlobals "_law_instead"=some (some (.ref bJ)))
  (um:K.lookup bJ=some ⟨qH,qz,.func (fnOf "_law_instead" "_law_instead" (aH cC) (aE cC) (ae cC) .none rA rV qf sG jv sg),pX⟩)
  (uN:codeIn K jv "_law_instead"=true)
  (j3:keepIn K (.ref bJ)=true)
  (BI:nsIn K mainGlobals "_law_told"=some (some (.ref cA)))
  (AS:K.lookup cA=some ⟨yC,yz,.func (fnOf "_law_told" "_law_told" (aH cM) (aE cM) (ae cM) .none yQ zk yn zH ou zq),yb⟩)
  (Bw:codeIn K ou "_law_told"=true)
  (qo:keepIn K (.ref cA)=true)
  (zM:nsIn K mainGlobals "_law_asked"=some (some (.ref b8)))
  (yP:K.lookup b8=some ⟨wv,wp,.func (fnOf "_law_asked" "_law_asked" (aH dD) (aE dD) (ae dD) .none w6 xt we xJ mt xw),vQ⟩)
  (zC:codeIn K mt "_law_asked"=true)
  (oh:keepIn K (.ref b8)=true)
  (Pg:nsIn K mainGlobals "law"=some (some (.ref ze)))
  (Qe:K.lookup ze=some ⟨OB,Oz,.func (fnOf "law" "law" (aH s0) (aE s0) (ae s0) .none OI O3 Oi Pd Lm O6),Nw⟩)
  (Qk:codeIn K Lm "law"=true)
  (Ot:keepIn K (.ref ze)=true)
  (GO:plainGet K bB Str.empty=true)
  (GN:hasDictIn K bB=true)
  (GM:plainOver K bB=true)
  (GL:findIn K (.ref bB) "__setattr__"=some (some (.builtin "object.__setattr__")))
  (Mb:findIn K (.ref bB) "__class__"=some (some (.builtin "object.__class__")))
  (Ma:mroIn K bB (.type "object")=some true)
  (tS:findIn K (.ref bB) "by_name"=some none)
  (DX:findIn K (.ref bB) "ins"=some none)
  (lY:findIn K (.ref bB) "kept_stores"=some none)
  (AE:findIn K (.ref bB) "name"=some none)
  (ww:findIn K (.ref bB) "number"=some none)
  (AD:findIn K (.ref bB) "outs"=some none)
  (AC:findIn K (.ref bB) "ring"=some none)
  (oX:findIn K (.ref bB) "sum_order"=some none)
  (AB:findIn K (.ref bB) "sums"=some none)
  (AA:findIn K (.ref bB) "wire"=some none)
  (yF:findIn K (.ref bB) "wires"=some none)
  (yl:plainGet K ay Str.empty=true)
  (yk:hasDictIn K ay=true)
  (yj:plainOver K ay=true)
  (yi:findIn K (.ref ay) "__setattr__"=some (some (.builtin "object.__setattr__")))
  (GK:findIn K (.ref ay) "__class__"=some (some (.builtin "object.__class__")))
  (GJ:mroIn K ay (.type "object")=some true)
  (HU:makesIn K ay=true)
  (HS:findIn K (.ref ay) "__init__"=some (some (.ref aJ)))
  (HR:isFn K (.ref aJ)=true)
  (HQ:keepIn K (.ref ay)=true)
  (o6:findIn K (.ref ay) "by_name"=some none)
  (yI:findIn K (.ref ay) "ins"=some none)
  (jR:findIn K (.ref ay) "kept_stores"=some none)
  (wI:findIn K (.ref ay) "name"=some none)
  (qS:findIn K (.ref ay) "number"=some none)
  (wH:findIn K (.ref ay) "outs"=some none)
  (wG:findIn K (.ref ay) "ring"=some none)
  (l3:findIn K (.ref ay) "sum_order"=some none)
  (wF:findIn K (.ref ay) "sums"=some none)
  (wE:findIn K (.ref ay) "wire"=some none)
  (tZ:findIn K (.ref ay) "wires"=some none)
  (vi:plainGet K au Str.empty=true)
  (vh:hasDictIn K au=true)
  (vg:plainOver K au=true)
  (vf:findIn K (.ref au) "__setattr__"=some (some (.builtin "object.__setattr__")))
  (DH:findIn K (.ref au) "__class__"=some (some (.builtin "object.__class__")))
  (DG:mroIn K au (.type "object")=some true)
  (E5:makesIn K au=true)
  (EZ:findIn K (.ref au) "__init__"=some (some (.ref aG)))
  (EY:isFn K (.ref aG)=true)
  (EX:keepIn K (.ref au)=true)
  (m7:findIn K (.ref au) "by_name"=some none)
  (wx:findIn K (.ref au) "ins"=some none)
  (jf:findIn K (.ref au) "kept_stores"=some none)
  (tX:findIn K (.ref au) "name"=some none)
  (oY:findIn K (.ref au) "number"=some none)
  (tW:findIn K (.ref au) "outs"=some none)
  (tV:findIn K (.ref au) "ring"=some none)
  (kO:findIn K (.ref au) "sum_order"=some none)
  (tU:findIn K (.ref au) "sums"=some none)
  (tT:findIn K (.ref au) "wire"=some none)
  (qL:findIn K (.ref au) "wires"=some none)
  (n8:plainGet K am Str.empty=true)
  (n6:hasDictIn K am=true)
  (n5:plainOver K am=true)
  (n4:findIn K (.ref am) "__setattr__"=some (some (.builtin "object.__setattr__")))
  (yh:findIn K (.ref am) "__class__"=some (some (.builtin "object.__class__")))
  (yg:mroIn K am (.type "object")=some true)
  (zi:makesIn K am=true)
  (zh:findIn K (.ref am) "__init__"=some (some (.ref aB)))
  (zg:isFn K (.ref aB)=true)
  (zf:keepIn K (.ref am)=true)
  (kP:findIn K (.ref am) "by_name"=some none)
  (qO:findIn K (.ref am) "ins"=some none)
  (im:findIn K (.ref am) "kept_stores"=some none)
  (o4:findIn K (.ref am) "name"=some none)
  (lZ:findIn K (.ref am) "number"=some none)
  (o3:findIn K (.ref am) "outs"=some none)
  (o2:findIn K (.ref am) "ring"=some none)
  (jg:findIn K (.ref am) "sum_order"=some none)
  (o0:findIn K (.ref am) "sums"=some none)
  (oZ:findIn K (.ref am) "wire"=some none)
  (m9:findIn K (.ref am) "wires"=some none)
  (K7:plainGet K bt Str.empty=true)
  (K6:hasDictIn K bt=true)
  (K5:plainOver K bt=true)
  (K4:findIn K (.ref bt) "__setattr__"=some (some (.builtin "object.__setattr__")))
  (Og:findIn K (.ref bt) "__class__"=some (some (.builtin "object.__class__")))
  (Of:mroIn K bt (.type "object")=some true)
  (O0:makesIn K bt=true)
  (OZ:findIn K (.ref bt) "__init__"=some (some (.ref bq)))
  (OY:isFn K (.ref bq)=true)
  (OX:keepIn K (.ref bt)=true)
  (rh:findIn K (.ref bt) "in_names"=some (some (.ref bp)))
  (re:isFn K (.ref bp)=true)
  (rg:findIn K (.ref bt) "sum_rows"=some (some (.ref bo)))
  (rc:isFn K (.ref bo)=true)
  (nv:findIn K (.ref bt) "store_rows"=some (some (.ref aU)))
  (nq:isFn K (.ref aU)=true)
  (pf:findIn K (.ref bt) "out_wires"=some (some (.ref bc)))
  (pe:isFn K (.ref bc)=true)
  (AR:findIn K (.ref bt) "told"=some (some (.ref cv)))
  (AQ:isFn K (.ref cv)=true)
  (nu:findIn K (.ref bt) "wire_names"=some (some (.ref aS)))
  (nn:isFn K (.ref aS)=true)
  (uk:findIn K (.ref bt) "wire_of"=some (some (.ref bA)))
  (uj:isFn K (.ref bA)=true)
  (wD:findIn K (.ref bt) "by_name"=some none)
  (GY:findIn K (.ref bt) "ins"=some none)
  (nb:findIn K (.ref bt) "kept_stores"=some none)
  (Eb:findIn K (.ref bt) "name"=some none)
  (yH:findIn K (.ref bt) "number"=some none)
  (Ea:findIn K (.ref bt) "outs"=some none)
  (D0:findIn K (.ref bt) "ring"=some none)
  (qR:findIn K (.ref bt) "sum_order"=some none)
  (DZ:findIn K (.ref bt) "sums"=some none)
  (DY:findIn K (.ref bt) "wire"=some none)
  (AF:findIn K (.ref bt) "wires"=some none)
  (w1:specialIn K (.builtin "object.__class__") "__get__"=some (some (.builtin "getset_descriptor.__get__")))
  (w2:takesIn K (.builtin "object.__class__")=some true)
  (fM:excIn K aA [.type "ValueError",.type "Exception",.type "BaseException",.type "object"] "ValueError.__new__"=true)
  (gv:isClsIn K aA=true)
  (gu:typeIn K (.ref aA)=some (.type "type"))
  (gt:mroIn K aA (.ref aA)=some true)
  (C7:isClsIn K aw=true)
  (C4:typeIn K (.ref aw)=some (.type "type"))
  (M0:mroIn K aw (.ref aw)=some true)
  (C9:isClsIn K aj=true)
  (C6:typeIn K (.ref aj)=some (.type "type"))
  (M4:mroIn K aj (.ref aj)=some true)
  (C8:isClsIn K ai=true)
  (C5:typeIn K (.ref ai)=some (.type "type"))
  (M3:mroIn K ai (.ref ai)=some true)
  (F7:isClsIn K ao=true)
  (F6:typeIn K (.ref ao)=some (.type "type"))
  (Nu:mroIn K ao (.ref ao)=some true)
  (x6:specialIn K (.ref aA) "__getattribute__"=some (some (.builtin "type.__getattribute__")))
  (x5:readsIn K aA (.type "type")=true)
  (x4:findCls K (.ref aA) (.type "type") "__init__"=some (.val (.builtin "ValueError.__init__")))
  (iW:excIn K aw [.type "ValueError",.type "Exception",.type "BaseException",.type "object"] "ValueError.__new__"=true)
  (CW:isClsIn K aw=true)
  (CQ:findIn K (.ref aw) "__getattribute__"=some (some (.builtin "BaseException.__getattribute__")))
  (CL:findIn K (.ref aw) "__getattr__"=some none)
  (CH:findIn K (.ref aw) "__class__"=some (some (.builtin "object.__class__")))
  (CG:mroIn K aw (.type "object")=some true)
  (CA:mroIn K aw (.type "BaseException")=some true)
  (Ew:keepIn K (.ref aw)=true)
  (eW:mroIn K aw (.ref ao)=some false)
  (d8:mroIn K aw (.ref aj)=some false)
  (d7:mroIn K aw (.ref ai)=some false)
  (d6:mroIn K aw (.ref aw)=some true)
  (dA:mroIn K aw (.ref aA)=some true)
  (EO:mroIn K aw (.type "BaseException")=some true)
  (ER:mroIn K aj (.type "BaseException")=some true)
  {Ed DF:Str} {IH:Addr} {Fo:List Value} {Dq:List Str} {z3:List Value} {Ft:Bool} {Bv:Option Bool} {E7:Option Addr} {EN EL EJ EH EF:Option Value}
  (Em:K.lookup aj=some (PySem.excClassObj Ed DF aj IH Fo (.ref aA::xBM) true Dq z3 Ft Bv E7 EN EL EJ EH EF "ValueError.__new__"))
  (DQ:isFn K (.ref aM)=true)
  (Ey:keepIn K (.ref aj)=true)
  (DD:findIn K (.ref aj) "__setattr__"=some (some (.builtin "object.__setattr__")))
  (u1:mroIn K aj (.type "object")=some true)
  (vw:mroIn K aj (.type "ValueError")=some true)
  (CZ:isClsIn K aj=true)
  (CV:findIn K (.ref aj) "__getattribute__"=some (some (.builtin "BaseException.__getattribute__")))
  (CP:findIn K (.ref aj) "__getattr__"=some none)
  (CK:findIn K (.ref aj) "__class__"=some (some (.builtin "object.__class__")))
  (CF:mroIn K aj (.type "BaseException")=some true)
  (nG:hasDictIn K aj=true)
  (eZ:mroIn K aj (.ref ao)=some false)
  (eg:mroIn K aj (.ref aj)=some true)
  (hG:mroIn K aj (.ref ai)=some false)
  (g9:mroIn K aj (.ref aw)=some false)
  (ng:findIn K (.ref aj) "by_name"=some none)
  (wK:findIn K (.ref aj) "ins"=some none)
  (ji:findIn K (.ref aj) "kept_stores"=some none)
  (uh:findIn K (.ref aj) "name"=some none)
  (o8:findIn K (.ref aj) "number"=some none)
  (ug:findIn K (.ref aj) "outs"=some none)
  (uf:findIn K (.ref aj) "ring"=some none)
  (kR:findIn K (.ref aj) "sum_order"=some none)
  (ue:findIn K (.ref aj) "sums"=some none)
  (ud:findIn K (.ref aj) "wire"=some none)
  (qU:findIn K (.ref aj) "wires"=some none)
  (gd:mroIn K aj (.ref aA)=some true)
  (EQ:mroIn K ai (.type "BaseException")=some true)
  {Ec DE:Str} {IG:Addr} {Fn:List Value} {Dp:List Str} {zZ:List Value} {Fs:Bool} {Bu:Option Bool} {E6:Option Addr} {EM EK EI EG EE:Option Value}
  (El:K.lookup ai=some (PySem.excClassObj Ec DE ai IG Fn (.ref aA::xBM) true Dp zZ Fs Bu E6 EM EK EI EG EE "ValueError.__new__"))
  (DP:isFn K (.ref aL)=true)
  (Ex:keepIn K (.ref ai)=true)
  (DC:findIn K (.ref ai) "__setattr__"=some (some (.builtin "object.__setattr__")))
  (u0:mroIn K ai (.type "object")=some true)
  (vv:mroIn K ai (.type "ValueError")=some true)
  (CY:isClsIn K ai=true)
  (CU:findIn K (.ref ai) "__getattribute__"=some (some (.builtin "BaseException.__getattribute__")))
  (CO:findIn K (.ref ai) "__getattr__"=some none)
  (CJ:findIn K (.ref ai) "__class__"=some (some (.builtin "object.__class__")))
  (CC:mroIn K ai (.type "BaseException")=some true)
  (nF:hasDictIn K ai=true)
  (eX:mroIn K ai (.ref ao)=some false)
  (ee:mroIn K ai (.ref aj)=some false)
  (d9:mroIn K ai (.ref ai)=some true)
  (g8:mroIn K ai (.ref aw)=some false)
  (nc:findIn K (.ref ai) "by_name"=some none)
  (wJ:findIn K (.ref ai) "ins"=some none)
  (jh:findIn K (.ref ai) "kept_stores"=some none)
  (uc:findIn K (.ref ai) "name"=some none)
  (o7:findIn K (.ref ai) "number"=some none)
  (ub:findIn K (.ref ai) "outs"=some none)
  (ua:findIn K (.ref ai) "ring"=some none)
  (kQ:findIn K (.ref ai) "sum_order"=some none)
  (t8:findIn K (.ref ai) "sums"=some none)
  (t6:findIn K (.ref ai) "wire"=some none)
  (qT:findIn K (.ref ai) "wires"=some none)
  (gc:mroIn K ai (.ref aA)=some true)
  (HB:mroIn K ao (.type "BaseException")=some true)
  {G2 GI:Str} {KK:Addr} {Iq:List Value} {Go:List Str} {Db:List Value} {Iw:Bool} {Fg:Option Bool} {Ic:Option Addr} {Hu Ht Hs Hr Hq:Option Value}
  (Hd:K.lookup ao=some (PySem.excClassObj G2 GI ao KK Iq (.ref aA::xBM) true Go Db Iw Fg Ic Hu Ht Hs Hr Hq "ValueError.__new__"))
  (GX:isFn K (.ref aX)=true)
  (Hi:keepIn K (.ref ao)=true)
  (Gs:findIn K (.ref ao) "__setattr__"=some (some (.builtin "object.__setattr__")))
  (xZ:mroIn K ao (.type "object")=some true)
  (yX:mroIn K ao (.type "ValueError")=some true)
  (FW:isClsIn K ao=true)
  (FV:findIn K (.ref ao) "__getattribute__"=some (some (.builtin "BaseException.__getattribute__")))
  (FU:findIn K (.ref ao) "__getattr__"=some none)
  (FT:findIn K (.ref ao) "__class__"=some (some (.builtin "object.__class__")))
  (FS:mroIn K ao (.type "BaseException")=some true)
  (rM:hasDictIn K ao=true)
  (fS:mroIn K ao (.ref ao)=some true)
  (iO:mroIn K ao (.ref aj)=some false)
  (iN:mroIn K ao (.ref ai)=some false)
  (iM:mroIn K ao (.ref aw)=some false)
  (o5:findIn K (.ref ao) "by_name"=some none)
  (yG:findIn K (.ref ao) "ins"=some none)
  (jQ:findIn K (.ref ao) "kept_stores"=some none)
  (wC:findIn K (.ref ao) "name"=some none)
  (qP:findIn K (.ref ao) "number"=some none)
  (wB:findIn K (.ref ao) "outs"=some none)
  (wA:findIn K (.ref ao) "ring"=some none)
  (l0:findIn K (.ref ao) "sum_order"=some none)
  (wz:findIn K (.ref ao) "sums"=some none)
  (wy:findIn K (.ref ao) "wire"=some none)
  (tY:findIn K (.ref ao) "wires"=some none)
  (gB:mroIn K ao (.ref aA)=some true)
  (oF:specialIn K (.ref bB) "__getattribute__"=some (some (.builtin "type.__getattribute__")))
  (oE:readsIn K bB (.type "type")=true)
  (oC:findCls K (.ref bB) (.type "type") "__init__"=some (.val (.ref bj)))
  {iZ:Tok} (zP:nsIn K mainGlobals "KEPT_DEPTH"=some (some (.int 12 iZ)))
  {pV:Tok} (IC:nsIn K mainGlobals "LETTERS"=some (some (.str "abcdefghijklmnopqrstuvwxyz" pV)))
  {gI:Tok} (uY:nsIn K mainGlobals "LONGEST_NAME"=some (some (.int 6 gI)))
  {mK:Tok} (Fx:nsIn K mainGlobals "MOST_INS"=some (some (.int 6 mK)))
  {kl:Tok} (BO:nsIn K mainGlobals "MOST_OUTS"=some (some (.int 6 kl)))
  {ig:Tok} (xO:nsIn K mainGlobals "MOST_STORES"=some (some (.int 16 ig)))
  {kj:Tok} (BN:nsIn K mainGlobals "MOST_SUMS"=some (some (.int 40 kj)))
  {iY:Tok} (zO:nsIn K mainGlobals "MOST_WIRES"=some (some (.int 24 iY)))
  {iX:Tok} (zN:nsIn K mainGlobals "NAME_SIGNS"=some (some (.str "abcdefghijklmnopqrstuvwxyz0123456789" iX)))
  (Px:nsIn K mainGlobals "all"=some none)
  (Pw:nsIn K mainGlobals "any"=some none)
  (Nc:nsIn K mainGlobals "dict"=some none)
  (zY:nsIn K mainGlobals "enumerate"=some none)
  (xX:nsIn K mainGlobals "isinstance"=some none)
  (Pu:nsIn K mainGlobals "len"=some none)
  (Nb:nsIn K mainGlobals "list"=some none)
  (Pt:nsIn K mainGlobals "min"=some none)
  (Lz:nsIn K mainGlobals "range"=some none)
  (Cz:nsIn K mainGlobals "reversed"=some none)
  (Ps:nsIn K mainGlobals "str"=some none)
  (Ly:nsIn K mainGlobals "tuple"=some none):
  ∃ fd:FuncData,(∀ (s:Shared) (v:Value),BindsTo s fd ⟨[v],[]⟩ [("_law_script",v)])∧∀ base:Heap,K.In base→base.Ns mainGlobals mg→FnOk l.prog w K mg base CX0 14 fa fd ["_law_script"] (BU K):=by
 have e:=hfa.symm.trans (mg_of X G Pg)
 cases e
 have vI:=bD (st:=jX) OH Pa Lb
 have mz:=vI.binds (ps:=["thing","depth"]) fun _ _ _ _ _ _ us hl=>match us,hl with | [_,_],_=>rfl
 have cJ:=bD (st:=bP) me my gz
 have dX:=cJ.binds (ps:=["self","name"]) fun _ _ _ _ _ _ us hl=>match us,hl with | [_,_],_=>rfl
 have cI:=bD (st:=bO) md mx gy
 have dW:=cI.binds (ps:=["self","name"]) fun _ _ _ _ _ _ us hl=>match us,hl with | [_,_],_=>rfl
 have de:=bD (st:=bW) ny nQ hU
 have eE:=de.binds (ps:=["self","name"]) fun _ _ _ _ _ _ us hl=>match us,hl with | [_,_],_=>rfl
 have mI:=bD (st:=fQ) Hh Ip yv
 have jB:=mI.binds (ps:=["thing"]) fun _ _ _ _ _ _ us hl=>match us,hl with | [_],_=>rfl
 have dZ:=bD (st:=cq) rp sB fV
 have cQ:=dZ.binds (ps:=["self","name"]) fun _ _ _ _ _ _ us hl=>match us,hl with | [_,_],_=>rfl
 have dh:=bD (st:=bX) nC nR hV
 have eF:=dh.binds (ps:=["self","name","number"]) fun _ _ _ _ _ _ us hl=>match us,hl with | [_,_,_],_=>rfl
 have cH:=bD (st:=bN) l9 mw gx
 have dS:=cH.binds (ps:=["self","name","wires"]) fun _ _ _ _ _ _ us hl=>match us,hl with | [_,_,_],_=>rfl
 have cn:=bD (st:=bC) jT jV fw
 have dm:=cn.binds (ps:=["self","name","wire","number"]) fun _ _ _ _ _ _ us hl=>match us,hl with | [_,_,_,_],_=>rfl
 have fB:=bD (st:=cz) wU xB lN
 have iE:=fB.binds (ps:=["ins","sums","stores","outs"]) fun _ _ _ _ _ _ us hl=>match us,hl with | [_,_,_,_],_=>rfl
 have fC:=bD (st:=cV) wV xC lO
 have iF:=fC.binds (ps:=["names"]) fun _ _ _ _ _ _ us hl=>match us,hl with | [_],_=>rfl
 have gF:=bD (st:=dC) yN zA oa
 have dE:=gF.binds (ps:=["wire","known"]) fun _ _ _ _ _ _ us hl=>match us,hl with | [_,_],_=>rfl
 have fA:=bD (st:=cU) wT xA lM
 have iD:=fA.binds (ps:=["sums","stores","outs","known"]) fun _ _ _ _ _ _ us hl=>match us,hl with | [_,_,_,_],_=>rfl
 have dY:=bD (st:=bh) ro sA i7
 have gl:=dY.binds (ps:=["ins","sums","stores"]) fun _ _ _ _ _ _ us hl=>match us,hl with | [_,_,_],_=>rfl
 have xV:=bD (st:=kz) MC MR GT
 have xG:=xV.binds (ps:=["row","waiting"]) fun _ _ _ _ _ _ us hl=>match us,hl with | [_,_],_=>rfl
 have mH:=bD (st:=eQ) Hg Io yu
 have sD:=mH.binds (ps:=["sums"]) fun _ _ _ _ _ _ us hl=>match us,hl with | [_],_=>rfl
 have eP:=bD (st:=bw) ur uQ j4
 have eK:=eP.binds (ps:=["self","ins","sums","stores","outs"]) fun _ _ _ _ _ _ us hl=>match us,hl with | [_,_,_,_,_],_=>rfl
 have eO:=bD (st:=cE) uq uP gN
 have eJ:=eO.binds (ps:=["self"]) fun _ _ _ _ _ _ us hl=>match us,hl with | [_],_=>rfl
 have eN:=bD (st:=cD) uo uO gM
 have eI:=eN.binds (ps:=["self"]) fun _ _ _ _ _ _ us hl=>match us,hl with | [_],_=>rfl
 have dy:=bD (st:=b4) pj pG fh
 have du:=dy.binds (ps:=["self"]) fun _ _ _ _ _ _ us hl=>match us,hl with | [_],_=>rfl
 have d0:=bD (st:=cr) rq sC fW
 have dU:=d0.binds (ps:=["self"]) fun _ _ _ _ _ _ us hl=>match us,hl with | [_],_=>rfl
 have jP:=bD (st:=fJ) Es Fl mU
 have jL:=jP.binds (ps:=["self"]) fun _ _ _ _ _ _ us hl=>match us,hl with | [_],_=>rfl
 have dw:=bD (st:=b3) pi pF fg
 have fq:=dw.binds (ps:=["self"]) fun _ _ _ _ _ _ us hl=>match us,hl with | [_],_=>rfl
 have fE:=bD (st:=cZ) wX xF il
 have iH:=fE.binds (ps:=["self","name"]) fun _ _ _ _ _ _ us hl=>match us,hl with | [_,_],_=>rfl
 have mG:=bD (st:=fP) Hf Im yt
 have jA:=mG.binds (ps:=["wires","wire","fresh"]) fun _ _ _ _ _ _ us hl=>match us,hl with | [_,_,_],_=>rfl
 have KO:=bD (st:=s_cut) Qf Ql Ou
 have MS:=KO.binds (ps:=["net","wire","fresh"]) fun _ _ _ _ _ _ us hl=>match us,hl with | [_,_,_],_=>rfl
 have iJ:=bD (st:=d5) AU BA qq
 have eC:=iJ.binds (ps:=["_law_script","_law_k"]) fun _ _ _ _ _ _ us hl=>match us,hl with | [_,_],_=>rfl
 have jN:=bD (st:=fG) Ep Fj vk
 have aK:=jN.binds (ps:=["_law_cell_here","_law_k"]) fun _ _ _ _ _ _ us hl=>match us,hl with | [_,_],_=>rfl
 have gq:=bD (st:=d4) AT By qp
 have cP:=gq.binds (ps:=["_law_cell_here","_law_k"]) fun _ _ _ _ _ _ us hl=>match us,hl with | [_,_],_=>rfl
 have gG:=bD (st:=cL) yO zB og
 have jC:=gG.binds (ps:=["_law_cell_here","_law_start","_law_names","_law_digits"]) fun _ _ _ _ _ _ us hl=>match us,hl with | [_,_,_,_],_=>rfl
 have jM:=bD (st:=cW) Eo Fi vj
 have nS:=jM.binds (ps:=["_law_script","_law_start","_law_most"]) fun _ _ _ _ _ _ us hl=>match us,hl with | [_,_,_],_=>rfl
 have fD:=bD (st:=cX) wW xE lP
 have iG:=fD.binds (ps:=["_law_cell_here","_law_names"]) fun _ _ _ _ _ _ us hl=>match us,hl with | [_,_],_=>rfl
 have eL:=bD (st:=b9) ul uM j2
 have gX:=eL.binds (ps:=["_law_word"]) fun _ _ _ _ _ _ us hl=>match us,hl with | [_],_=>rfl
 have jO:=bD (st:=fH) Er Fk vm
 have nT:=jO.binds (ps:=["_law_names","_law_many","_law_wire","_law_fresh"]) fun _ _ _ _ _ _ us hl=>match us,hl with | [_,_,_,_],_=>rfl
 have eM:=bD (st:=cC) um uN j3
 have dr:=eM.binds (ps:=["_law_names","_law_wire","_law_fresh"]) fun _ _ _ _ _ _ us hl=>match us,hl with | [_,_,_],_=>rfl
 have iI:=bD (st:=cM) AS Bw qo
 have lu:=iI.binds (ps:=["_law_lists","_law_wire","_law_fresh"]) fun _ _ _ _ _ _ us hl=>match us,hl with | [_,_,_],_=>rfl
 have gH:=bD (st:=dD) yP zC oh
 have jD:=gH.binds (ps:=["_law_net_one","_law_wire","_law_fresh"]) fun _ _ _ _ _ _ us hl=>match us,hl with | [_,_,_],_=>rfl
 have KN:=bD (st:=s0) Qe Qk Ot
 have Pb:=KN.binds (ps:=["_law_script"]) fun _ _ _ _ _ _ us hl=>match us,hl with | [_],_=>rfl
 have T:Tx K mg ⟨jn,_,aM,_,aL,_,aX,_,dN,_,bj,_,aJ,_,aG,_,aB,_,bS,_,bT,_,b6,_,bR,_,bz,_,iu,_,dM,_,bq,_,bp,_,bo,_,aU,_,bc,_,cv,_,aS,_,bA,_,dL,_,xn,_,cB,_,c8,_,ci,_,b7,_,c7,_,bU,_,bI,_,c9,_,bJ,_,cA,_,b8,_,fa,_,bB,ay,au,am,bt,aA,aw,aj,ai,ao,_,_,_,_,_,_,_,_,_⟩:=⟨vI,Lb,mz,mg_of X G Ph,cJ,gz,dX,cI,gy,dW,de,hU,eE,mI,yv,jB,mg_of X G Iz,dZ,fV,cQ,dh,hV,eF,cH,gx,dS,cn,fw,dm,fB,lN,iE,mg_of X G xL,fC,lO,iF,mg_of X G xM,gF,oa,dE,mg_of X G zK,fA,lM,iD,mg_of X G xK,dY,i7,gl,mg_of X G sK,xV,GT,xG,mg_of X G MV,mH,yu,sD,mg_of X G Iy,eP,j4,eK,eO,gN,eJ,eN,gM,eI,dy,fh,du,d0,fW,dU,jP,mU,jL,dw,fg,fq,fE,il,iH,mG,yt,jA,mg_of X G Ix,KO,Ou,MS,mg_of X G Qm,iJ,qq,eC,mg_of X G BK,jN,vk,aK,mg_of X G Fv,gq,qp,cP,mg_of X G BJ,gG,og,jC,mg_of X G zL,jM,vj,nS,mg_of X G Fu,fD,lP,iG,mg_of X G xN,eL,j2,gX,mg_of X G uW,jO,vm,nT,mg_of X G Fw,eM,j3,dr,mg_of X G uX,iI,qo,lu,mg_of X G BI,gH,oh,jD,mg_of X G zM,KN,Ot,Pb,mg_of X G Pg,mg_of X G Pi,⟨GO,GN,GM,GL⟩,⟨⟨GO,GN,GM,GL⟩,Mb,w1,w2,Ma⟩,tS,DX,lY,AE,ww,AD,AC,oX,AB,AA,yF,mg_of X G KJ,⟨yl,yk,yj,yi⟩,⟨⟨yl,yk,yj,yi⟩,GK,w1,w2,GJ⟩,⟨HU,HS,HR,HQ⟩,o6,yI,jR,wI,qS,wH,wG,l3,wF,wE,tZ,mg_of X G IB,⟨vi,vh,vg,vf⟩,⟨⟨vi,vh,vg,vf⟩,DH,w1,w2,DG⟩,⟨E5,EZ,EY,EX⟩,m7,wx,jf,tX,oY,tW,tV,kO,tU,tT,qL,mg_of X G BM,⟨n8,n6,n5,n4⟩,⟨⟨n8,n6,n5,n4⟩,yh,w1,w2,yg⟩,⟨zi,zh,zg,zf⟩,kP,qO,im,o4,lZ,o3,o2,jg,o0,oZ,m9,mg_of X G Qn,⟨K7,K6,K5,K4⟩,⟨⟨K7,K6,K5,K4⟩,Og,w1,w2,Of⟩,⟨O0,OZ,OY,OX⟩,⟨rh,re,gN⟩,⟨rg,rc,gM⟩,⟨nv,nq,fh⟩,⟨pf,pe,fW⟩,⟨AR,AQ,mU⟩,⟨nu,nn,fg⟩,⟨uk,uj,il⟩,wD,GY,nb,Eb,yH,Ea,D0,qR,DZ,DY,AF,⟨oF,oE,oC,(by rfl),fV⟩,mg_of X G BL,⟨x6,x5,x4⟩,mg_of X G IA,iW,⟨CW,CQ,CL,CH,w1,w2,CG,CA⟩,Ew,eW,d8,d7,d6,Cd gv gu dA gt,⟨C4,C7,EO⟩,mg_of X G IE,⟨C6,C9,ER⟩,⟨⟨_,_,_,_,_,_,_,_,_,_,_,_,_,_,Em⟩,fM,lC,DQ,Ey,DD,u1,vw⟩,⟨CZ,CV,CP,CK,w1,w2,u1,CF⟩,nG,eZ,eg,hG,g9,ng,wK,ji,uh,o8,ug,uf,kR,ue,ud,qU,Cd gv gu gd gt,AZ vw,mg_of X G ID,⟨C5,C8,EQ⟩,⟨⟨_,_,_,_,_,_,_,_,_,_,_,_,_,_,El⟩,fM,lB,DP,Ex,DC,u0,vv⟩,⟨CY,CU,CO,CJ,w1,w2,u0,CC⟩,nF,eX,ee,d9,g8,nc,wJ,jh,uc,o7,ub,ua,kQ,t8,t6,qT,Cd gv gu gc gt,AZ vv,mg_of X G KH,⟨F6,F7,HB⟩,⟨⟨_,_,_,_,_,_,_,_,_,_,_,_,_,_,Hd⟩,fM,mJ,GX,Hi,Gs,xZ,yX⟩,⟨FW,FV,FU,FT,w1,w2,xZ,FS⟩,rM,fS,iO,iN,iM,o5,yG,jQ,wC,qP,wB,wA,l0,wz,wy,tY,Cd gv gu gB gt,AZ yX,mg_of X G zP,mg_of X G IC,mg_of X G uY,mg_of X G Fx,mg_of X G BO,mg_of X G xO,mg_of X G BN,mg_of X G zO,mg_of X G zN,mg_none_of X G Px,mg_none_of X G Pw,mg_none_of X G Nc,mg_none_of X G zY,mg_none_of X G xX,mg_none_of X G Pu,mg_none_of X G Nb,mg_none_of X G Pt,mg_none_of X G Lz,mg_none_of X G Cz,mg_none_of X G Ps,mg_none_of X G Ly⟩
 exact ⟨_,fun s v=> .of_eq rfl,fun base _ _=>Ox T⟩
open PySem.W in
theorem walk {l:OpenLaw} {q:Program} {loose:List Str} {XP:(Str→Option Value)→Heap→Prop} {YP:World→Heap→Prop} {d:DefRec} {K:Params→Frag} (hn:l.most=some 63) (hdf:d.params.defaults=[])
  (hY:∀ (w:World) (h:Heap),YP w h→(K w.params).In h)
  (F:∀ (w:World) (mg:Str→Option Value) (fa:Addr) (h:Heap),(K w.params).In h→h.Ns mainGlobals mg→mg d.name=some (.ref fa)→
   ∃ fd:FuncData,(∀ (s:Shared) (u:Value),BindsTo s fd ⟨[u],[]⟩ [("_law_script",u)])∧∀ base:Heap,(K w.params).In base→base.Ns mainGlobals mg→FnOk l.prog w (K w.params) mg base CX0 14 fa fd ["_law_script"] (BU (K w.params))):
  WalkO q loose XP YP l.row.toRowW d [] (fun f vs=>PySem.call f vs):=
 L2.walk_of (n:=63) (k:=14) (x:="_law_script") (CX:=fun _=>CX0) (sp:=fun w=>BU (K w.params)) hn (by decide) hdf ⟨rfl,by decide,by decide⟩ hY F (fun _ _ a ns hl _ hS=>⟨a,ns,rfl,hS,hl,fun _=>rfl⟩) fun _ _ _ _ _ z=>z
end My
def PySem.W.Fast.tw3293986243130329871:Unit:=()
def PySem.W.Fast.tw25409035229406828:Unit:=()
def PySem.W.Fast.tw14861568152479245095:Unit:=()
def PySem.W.Fast.tw17395409562365839221:Unit:=()
def PySem.W.Fast.tw503041920403193962:Unit:=()
def PySem.W.Fast.tw5406710514281765141:Unit:=()
def PySem.W.Fast.tw5172547821738249705:Unit:=()
def PySem.W.Fast.tw3957669377242013296:Unit:=()
def PySem.W.Fast.tw15505956850520350483:Unit:=()
def PySem.W.Fast.tw1373056865825612368:Unit:=()
def PySem.W.Fast.tw5770242855388718833:Unit:=()
def PySem.W.Fast.tw9098410219910143330:Unit:=()
def PySem.W.Fast.tw7545910082998419888:Unit:=()
def PySem.W.Fast.tw2658949727511705518:Unit:=()
def PySem.W.Fast.tw9748649859544409183:Unit:=()
def PySem.W.Fast.tw3119645628983522413:Unit:=()
def PySem.W.Fast.tw1065644394610398885:Unit:=()
def PySem.W.Fast.tw2542287485366425356:Unit:=()
def PySem.W.Fast.tw17640421045605077216:Unit:=()
def PySem.W.Fast.tw13352378050072770737:Unit:=()
def PySem.W.Fast.tw16492431566193708607:Unit:=()
def PySem.W.Fast.tw9259590281924743404:Unit:=()
def PySem.W.Fast.tw11838408617722666748:Unit:=()
def PySem.W.Fast.tw1986546419839191129:Unit:=()
def PySem.W.Fast.tw13685450693164761803:Unit:=()
def PySem.W.Fast.tw16111604228225908072:Unit:=()
def PySem.W.Fast.tw14646758286572419947:Unit:=()
def PySem.W.Fast.tw15132043964297922893:Unit:=()
def PySem.W.Fast.tw17828726597568721896:Unit:=()
def PySem.W.Fast.tw10346049867174301878:Unit:=()
def PySem.W.Fast.tw4096539289217576081:Unit:=()
def PySem.W.Fast.tw11618702523558116845:Unit:=()
def PySem.W.Fast.tw690248067272870584:Unit:=()
def PySem.W.Fast.tw10472771368295071923:Unit:=()
def PySem.W.Fast.tw18310544808237343727:Unit:=()
def PySem.W.Fast.tw8704254329196449229:Unit:=()
def PySem.W.Fast.tw11087967729090993132:Unit:=()
def PySem.W.Fast.tw17513769165721289330:Unit:=()
def PySem.W.Fast.tw2083090875703654202:Unit:=()
def PySem.W.Fast.tw14696742293688493753:Unit:=()
def PySem.W.Fast.tw15987850631206666500:Unit:=()
def PySem.W.Fast.tw11168125732675633359:Unit:=()
def PySem.W.Fast.tw17521396722974039549:Unit:=()
def PySem.W.Fast.tw2153452997061465635:Unit:=()
def PySem.W.Fast.tw14583947912131989408:Unit:=()
def PySem.W.Fast.tw13293179713192651035:Unit:=()
def PySem.W.Fast.tw16328814426592118738:Unit:=()
def PySem.W.Fast.tw13464228032963377412:Unit:=()
def PySem.W.Fast.tw5537660117455607777:Unit:=()
def PySem.W.Fast.tw15343452469698890967:Unit:=()
def PySem.W.Fast.tw12655593151883687654:Unit:=()
def PySem.W.Fast.tw9978850351721144952:Unit:=()
def PySem.W.Fast.tw17076950477855129320:Unit:=()
def PySem.W.Fast.tw12815415413815912534:Unit:=()
def PySem.W.Fast.tw8113232163569689923:Unit:=()
def PySem.W.Fast.tw13483690665662532074:Unit:=()
def PySem.W.Fast.tw730018661699868913:Unit:=()
def PySem.W.Fast.tw9490671583837233317:Unit:=()
def PySem.W.Fast.tw15767502955551820636:Unit:=()
open PySem PySem.W PyProof.Rows
set_option maxRecDepth 100000 in
set_option maxHeartbeats 0 in
theorem PySem.Challenge.cw_sumwires_k84_wires_cut_holds : PySem.Challenge.rw_sumwires_k84_wires_cut.Holds := by
 w_on;o_law;k_head;(case hw=>w_witness2)
 k_fill
 refine My.walk (l:=PySem.Challenge.rw_sumwires_k84_wires_cut) rfl rfl (fun w h Y=>PySem.W.kIn_of Y) ?F
 case F=>
  intro w mg fa h KX G hmg
  refine' My.all_mk KX G hmg _ _ _ _ _ _ _ _ _ _ _ _ _ _ _ _ _ _ _ _ _ _ _ _ _ _ _ _ _ _ _ _ _ _ _ _ _ _ _ _ _ _ _ _ _ _ _ _ _ _ _ _ _ _ _ _ _ _ _ _ _ _ _ _ _ _ _ _ _ _ _ _ _ _ _ _ _ _ _ _ _ _ _ _ _ _ _ _ _ _ _ _ _ _ _ _ _ _ _ _ _ _ _ _ _ _ _ _ _ _ _ _ _ _ _ _ _ _ _ _ _ _ _ _ _ _ _ _ _ _ _ _ _ _ _ _ _ _ _ _ _ _ _ _ _ _ _ _ _ _ _ _ _ _ _ _ _ _ _ _ _ _ _ _ _ _ _ _ _ _ _ _ _ _ _ _ _ _ _ _ _ _ _ _ _ _ _ _ _ _ _ _ _ _ _ _ _ _ _ _ _ _ _ _ _ _ _ _ _ _ _ _ _ _ _ _ _ _ _ _ _ _ _ _ _ _ _ _ _ _ _ _ _ _ _ _ _ _ _ _ _ _ _ _ _ _ _ _ _ _ _ _ _ _ _ _ _ _ _ _ _ _ _ _ _ _ _ _ _ _ _ _ _ _ _ _ _ _ _ ?fM _ _ _ _ _ _ _ _ _ _ _ _ _ _ _ _ _ _ ?iW _ _ _ _ _ _ _ _ _ _ _ _ _ _ _ _ _ _ _ _ _ _ _ _ _ _ _ _ _ _ _ _ _ _ _ _ _ _ _ _ _ _ _ _ _ _ _ _ _ _ _ _ _ _ _ _ _ _ _ _ _ _ _ _ _ _ _ _ _ _ _ _ _ _ _ _ _ _ _ _ _ _ _ _ _ _ _ _ _ _ _ _ _ _ _ _ _ _ _ _ _ _ _ _ _ _ _ _ _ _ _ _ _ _ _ _ _ _ _ _ _ _ _ _
  any_goals ((with_reducible show _=_);k_is)
  (case fM=>k_exc)
  (case iW=>k_exc)
