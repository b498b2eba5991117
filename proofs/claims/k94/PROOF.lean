import PyProof.Rows.All
import Wide.FinOn
import Lean
import KE.KDictOf
import KE.KFromBytes
import KE.KIsAll
import KE.KItem
import KE.KItemsList
import KE.KRevIter
import PySem.Challenge.RW_sumwires_k94_whole_states_of_cut_nets
open List (mem_filter mem_range mem_cons_self mem_cons_of_mem mem_cons mem_append mem_append_left mem_append_right size_toArray length_cons map_cons length_map append_nil nodup_cons of_mem_zip length_take getElem?_append_right getElem?_append_left getElem?_map getElem?_take_of_lt mem_of_getElem? length_append length_replicate length_drop all_cons any_cons reverse_cons replicate_succ flatten_cons append_assoc length_singleton map_nil find?_cons mem_map any_eq_true lookup_cons getElem?_drop getD_eq_getElem?_getD getElem?_eq_getElem all_eq_true mem_singleton mem_iff_getElem getElem_mem getElem?_eq_none take_length getElem?_range length_range filter_append map_append nodup_append map_singleton range_succ filter_cons length_filter_le map_map map_id foldl_append mem_range' mem_iff_getElem? replicate_succ' mem_of_mem_take length_pos_iff map_take map_drop)
open Nat (lt_of_lt_of_le lt_irrefl ne_of_lt le_trans le_of_lt ne_of_gt le_refl zero_le lt_succ_self le_succ add_comm lt_of_le_of_lt lt_trans not_lt_zero eq_of_testBit_eq testBit_and testBit_xor mod_two_eq_zero_or_one shiftRight_eq_div_pow pow_add pow_le_pow_right two_pow_pos testBit_lt_two_pow testBit_two_pow xor_assoc xor_self xor_zero xor_comm zero_xor pow_succ log2_lt lt_log2_self sub_self zero_testBit pow_lt_pow_right and_zero zero_add zero_and one_mul zero_mul add_mul and_le_right mul_le_mul)
open Option (getD_none isSome_map map_eq_some_iff)
set_option Elab.async false
set_option linter.all false
set_option maxRecDepth 100000
namespace L2
open PySem PySem.Spec PyProof.Rows
noncomputable abbrev Key:=Sum Int Str
noncomputable def zc:Key->Value->Bool
 | .inl k,v=>Value.isInt k v
 | .inr x,v=>Value.isStrOf x v
noncomputable def keyH (w:World):Key->Int
 | .inl k=>hashInt k
 | .inr x=>hashStr w x
theorem de:∀{k:Key} {v:Value},zc k v=true->(∃i t,k=Sum.inl i/\v=Value.int i t)∨(∃x t,k=Sum.inr x/\v=Value.str x t)
 | .inl i,v,h=>by
   obtain⟨t,e⟩:=Value.isInt_shape (k:=i) (v:=v) h;exact .inl ⟨i,t,rfl,e⟩
 | .inr x,v,h=>by
   obtain⟨t,e⟩:=Value.isStrOf_shape (x:=x) (v:=v) h;exact .inr ⟨x,t,rfl,e⟩
theorem GI (i:Int) (t:Tok):zc (.inl i) (.int i t)=true:=by simp[zc,Value.isInt]
theorem GH (x:Str) (t:Tok):zc (.inr x) (.str x t)=true:=by simp[zc,Value.isStrOf]
theorem O7 (a b:Int):decide ((Sum.inl a:Key)=Sum.inl b)=(a == b):=by
 by_cases e:a=b
 ·subst e;simp
 ·have h:¬(Sum.inl a:Key)=Sum.inl b:=λq=>e (Sum.inl.inj q);rw[decide_eq_false h];exact(beq_eq_false_iff_ne.mpr e).symm
theorem O4 (a b:Str):decide ((Sum.inr a:Key)=Sum.inr b)=decide (a=b):=by
 by_cases e:a=b
 ·subst e;simp
 ·have h:¬(Sum.inr a:Key)=Sum.inr b:=λq=>e (Sum.inr.inj q);rw[decide_eq_false h,decide_eq_false e]
theorem O6 (a:Int) (b:Str):decide ((Sum.inl a:Key)=Sum.inr b)=false:=decide_eq_false (λq=>nomatch q)
theorem O5 (a:Str) (b:Int):decide ((Sum.inr a:Key)=Sum.inl b)=false:=decide_eq_false (λq=>nomatch q)
noncomputable def c9 (prog:Program) (w:World):PySem.KeyKind prog w Key where
 is:=zc
 hash:=keyH w
 inj:=λv a b ha hb=>by
  rcases de ha with ⟨i,t,rfl,rfl⟩ | ⟨x,t,rfl,rfl⟩
  ·rcases de hb with ⟨j,u,rfl,e⟩ | ⟨y,u,rfl,e⟩
   ·injection e with G _;rw[G]
   ·exact nomatch e
  ·rcases de hb with ⟨j,u,rfl,e⟩ | ⟨y,u,rfl,e⟩
   ·exact nomatch e
   ·injection e with G _;rw[G]
 byValue:=λk v h=>by
  rcases de h with ⟨i,t,rfl,rfl⟩ | ⟨x,t,rfl,rfl⟩<;>rfl
 pyHash:=λL h=>by
  rcases de L with ⟨i,t,rfl,rfl⟩ | ⟨x,t,rfl,rfl⟩
  ·exact wpAny_pyHash_int h
  ·exact wpAny_pyHash_str h
 eqBool:=λO L h=>by
  rcases de O with ⟨i,t,rfl,rfl⟩ | ⟨x,t,rfl,rfl⟩
  ·rcases de L with ⟨j,u,rfl,rfl⟩ | ⟨y,u,rfl,rfl⟩
   ·rw[O7] at h;exact wpAny_eqBool_int h
   ·rw[O6] at h;exact SeqAt.EqAt.int_str i t y u _ _ _ _ h
  ·rcases de L with ⟨j,u,rfl,rfl⟩ | ⟨y,u,rfl,rfl⟩
   ·rw[O5] at h;exact SeqAt.EqAt.str_int x t j u _ _ _ _ h
   ·rw[O4] at h;exact wpAny_eqBool_str h
 «strs»:=λk x t v h=>by
  rcases de h with ⟨i,u,rfl,e⟩ | ⟨y,u,rfl,e⟩
  ·exact nomatch e
  ·injection e with G _
   subst G
   cases v<;>rfl
theorem AL (prog:Program) (w:World) (i:Int) (t:Tok):(c9 prog w).is (.inl i) (.int i t)=true:=GI i t
theorem AK (prog:Program) (w:World) (x:Str) (t:Tok):(c9 prog w).is (.inr x) (.str x t)=true:=GH x t
inductive V where
 | non | bl (b:Bool) | int (i:Int) | str (x:Str) | byt (b:Array UInt8) | flt (b:UInt64) | ref (a:Addr) | ty (n:String)
 deriving DecidableEq
noncomputable def RelV:V->Value->Prop
 | .non,u=>u=Value.none
 | .bl b,u=>u=Value.bool b
 | .int i,u=>∃t,u=Value.int i t
 | .str x,u=>∃t,u=Value.str x t
 | .byt b,u=>∃t,u=Value.bytes b t
 | .flt b,u=>∃t,u=Value.float b t
 | .ref a,u=>u=Value.ref a
 | .ty n,u=>u=Value.type n
noncomputable abbrev Vals:List V->List Value->Prop:=Paired RelV
theorem Vals.length {xs:List V} {us:List Value} (r:Vals xs us):xs.length=us.length:=Paired.length r
theorem Vals.get:∀{xs:List V} {us:List Value} {i:Nat} {x:V},Vals xs us->xs[i]? =some x->∃u,us[i]? =some u/\RelV x u
 | _,_,_,_,.nil,e=>by simp at e
 | _,_,0,_,.cons r _,e=>by simp at e;subst e;exact⟨_,rfl,r⟩
 | _,_,i + 1,x,.cons _ t,e=>by
   obtain⟨u,h1,h2⟩:=Vals.get (i:=i) (x:=x) t (by simpa using e);exact⟨u,by simpa using h1,h2⟩
theorem Vals.append:∀{xs ys:List V} {us ws:List Value},Vals xs us->Vals ys ws->Vals (xs++ys) (us++ws)
 | _,_,_,_,.nil,s=>s
 | _,_,_,_,.cons r t,s=> .cons r (Vals.append t s)
theorem Vals.take:∀{xs:List V} {us:List Value} (n:Nat),Vals xs us->Vals (xs.take n) (us.take n)
 | _,_,0,_=> .nil
 | _,_,_ + 1,.nil=> .nil
 | _,_,n + 1,.cons r t=> .cons r (Vals.take n t)
theorem Vals.drop:∀{xs:List V} {us:List Value} (n:Nat),Vals xs us->Vals (xs.drop n) (us.drop n)
 | _,_,0,r=>r
 | _,_,_ + 1,.nil=> .nil
 | _,_,n + 1,.cons _ t=>Vals.drop n t
noncomputable def RelO:Option V->Option Value->Prop
 | some v,some u=>RelV v u
 | none,none=>True
 | _,_=>False
noncomputable def KV {κ:Type}:List (κ×V)->List (κ×Value)->Prop:=Paired λ(p:κ×V) (q:κ×Value)=>p.1=q.1/\RelV p.2 q.2
noncomputable def kV:Key->V
 | .inl i=> .int i
 | .inr x=> .str x
inductive HO where
 | lst (xs:List V)
 | tup (xs:List V)
 | dK (kvs:List (Key×V)) | dT (kvs:List (List Key×V))
 | set (S:Int->Bool) (n:Nat)
 | ins (C dx:Addr) (fs:List (Str×V))
 | own (x:Addr)
 | xd (fs:List (Str×V))
 | met (f x:Addr)
 | rng (lo hi:Int)
 | frz (o:Obj) (u:HO)
 | tbl (ps:Array Value)
 | ext (φ:Heap->Prop)
noncomputable abbrev Hp:=Addr->Option HO
noncomputable def upd (H:Hp) (a:Addr) (o:HO):Hp:=λb=>if b=a then some o else H b
theorem ay {H:Hp} {a:Addr} {o:HO}:upd H a o a=some o:=by unfold upd;rw[if_pos rfl]
theorem aG {H:Hp} {a b:Addr} {o:HO} (h:b≠a):upd H a o b=H b:=by unfold upd;rw[if_neg h]
theorem b4 {H:Hp} {a b:Addr} {o u:HO} (h:H a=some o) (h':H b=some u) (d:o≠u):a≠b:=by
 intro e;subst e;rw[h] at h';exact d (Option.some.inj h')
theorem ao {H:Hp} {a b:Addr} {o:HO} (h:H a=some o) (h':H b=none):a≠b:=by
 intro e;subst e;rw[h] at h';cases h'
section
variable (P:Program) (w:World)
noncomputable def gG (H:Hp) (h:Heap) (a:Addr):HO->Prop
 | .lst xs=>xs.length<=sizeLine/\∃(its:List Value) (n:Nat),Vals xs its/\h.get? a=some {cls:= .type "list",data:= .seq its.toArray n}
 | .tup xs=>xs.length<=sizeLine/\∃its:List Value,Vals xs its/\IsTup h a its.toArray
 | .dK kvs=>kvs.length<=sizeLine/\(a == sysModules)=false/\∃vs,KV kvs vs/\h.DictOf (c9 P w) a vs
 | .dT kvs=>kvs.length<=sizeLine/\(a == sysModules)=false/\∃xs:List (List Key×Addr×Value),
   Paired (λ(p:List Key×V) (q:List Key×Addr×Value)=>p.1=q.1/\H q.2.1=some (.tup (p.1.map kV))/\RelV p.2 q.2.2) kvs xs/\
   ∃o es ep,h.get? a=some o/\o.ExactDict/\o.data= .dict es ep/\es.toList=xs.map (entryOfKey (tupleKind (c9 P w)))/\(xs.map (·.1)).Nodup
 | .set S n=>h.SetOf (intKind P w) a S n
 | .ins C dx fs=>H dx=some (.own a)/\fs.length<=1000/\dx≠a/\h.get? a=some (PySem.W.instObj C dx)/\
   ∃mA,h.Ns1 dx mA/\(∀f,RelO (fs.lookup f) (mA f))/\PySem.Within mA (fs.map (·.1))
 | .own _=>∃o,h.get? a=some o
 | .xd fs=>∃mA,h.Ns1 a mA/\∀f,RelO (fs.lookup f) (mA f)
 | .rng lo hi=>∃t u v,h.get? a=some {cls:= .type "range",data:= .fields #[.int lo t,.int hi u,.int 1 v]}
 | .frz o u=>h.get? a=some o/\gG H h a u
 | .tbl ps=>h.get? a=some {cls:= .none,data:= .fields ps}
 | .met f x=>h.get? a=some (PySem.W.methodObj (.ref f) (.ref x))
 | .ext φ=>φ h/\(∃o,h.get? a=some o)/\∀h1 h2:Heap,φ h1->(∀o,h1.get? a=some o->h2.get? a=some o)->φ h2
def HOk (H:Hp) (h:Heap):Prop:=∀a o,H a=some o->gG P w H h a o
end
section
variable {P:Program} {w:World} {H H':Hp} {h h':Heap} {a:Addr} {o:HO}
theorem gG.lt (x:gG P w H h a o):a < h.objs.size:=by
 cases o with
 | lst xs=>obtain⟨_,_,_,_,e⟩:=x;exact Heap.lt_size e
 | tup xs=>obtain⟨_,_,_,p⟩:=x;exact p.lt
 | dK kvs=>obtain⟨_,_,_,_,o,_,_,e,_⟩:=x;exact Heap.lt_size e
 | dT kvs=>obtain⟨_,_,_,_,o,_,_,e,_⟩:=x;exact Heap.lt_size e
 | set S n=>obtain⟨o,_,_,_,e,_⟩:=x;exact Heap.lt_size e
 | ins C dx fs=>obtain⟨_,_,_,e,_⟩:=x;exact Heap.lt_size e
 | own y=>obtain⟨_,e⟩:=x;exact Heap.lt_size e
 | xd fs=>obtain⟨_,⟨_,_,_,e,_⟩,_⟩:=x;exact Heap.lt_size e
 | rng lo hi=>obtain⟨_,_,_,e⟩:=x;exact Heap.lt_size e
 | frz ob u=>obtain⟨e,_⟩:=x;exact Heap.lt_size e
 | tbl ps=>exact Heap.lt_size (show h.get? a=some _ from x)
 | met f y=>exact Heap.lt_size (show h.get? a=some _ from x)
 | ext φ=>obtain⟨_,⟨_,e⟩,_⟩:=x;exact Heap.lt_size e
theorem Paired.mapP {α β:Type} {F G:α->β->Prop}:∀{L:List α} {l₂:List β},Paired F L l₂->(∀a b,F a b->G a b)->Paired G L l₂
 | _,_,.nil,_=> .nil
 | _,_,.cons r t,f=> .cons (f _ _ r) (Paired.mapP t f)
theorem gG.stay (x:gG P w H h a o) (k:∀b u,(b=a∨H b=some (.own a))->h.get? b=some u->h'.get? b=some u)
  (ho:∀b,H b=some (.own a)->H' b=some (.own a)) (ht:∀b xs,H b=some (.tup xs)->H' b=some (.tup xs)):gG P w H' h' a o:=by
 induction o with
 | lst xs=>obtain⟨z,its,n,r,e⟩:=x;exact⟨z,its,n,r,k _ _ (.inl rfl) e⟩
 | tup xs=>obtain⟨z,its,r,ob,e,c⟩:=x;exact⟨z,its,r,ob,k _ _ (.inl rfl) e,c⟩
 | dK kvs=>obtain⟨z,y,vs,r,ob,es,ep,e,c⟩:=x;exact⟨z,y,vs,r,ob,es,ep,k _ _ (.inl rfl) e,c⟩
 | dT kvs=>
   obtain⟨z,y,xs,r,ob,es,ep,e,c⟩:=x;exact⟨z,y,xs,Paired.mapP r λp q z=>⟨z.1,ht _ _ z.2.1,z.2.2⟩,ob,es,ep,k _ _ (.inl rfl) e,c⟩
 | set S n=>obtain⟨ob,es,ep,t,e,c⟩:=x;exact⟨ob,es,ep,t,k _ _ (.inl rfl) e,c⟩
 | ins C dx fs=>
   obtain⟨d,z,ne,e,mA,⟨od,es,ep,G,c⟩,r⟩:=x;exact⟨ho _ d,z,ne,k _ _ (.inl rfl) e,mA,⟨od,es,ep,k _ _ (.inr d) G,c⟩,r⟩
 | own y=>obtain⟨ob,e⟩:=x;exact⟨ob,k _ _ (.inl rfl) e⟩
 | xd fs=>obtain⟨mA,⟨od,es,ep,e,c⟩,r⟩:=x;exact⟨mA,⟨od,es,ep,k _ _ (.inl rfl) e,c⟩,r⟩
 | rng lo hi=>obtain⟨t,u,v,e⟩:=x;exact⟨t,u,v,k _ _ (.inl rfl) e⟩
 | frz ob u ih=>obtain⟨e,q⟩:=x;exact⟨k _ _ (.inl rfl) e,ih q⟩
 | tbl ps=>
   have e:h.get? a=some {cls:= .none,data:= .fields ps}:=x;show h'.get? a=some {cls:= .none,data:= .fields ps};exact k a _ (.inl rfl) e
 | met f y=>
   have e:h.get? a=some (PySem.W.methodObj (.ref f) (.ref y)):=x;show h'.get? a=some (PySem.W.methodObj (.ref f) (.ref y));exact k a _ (.inl rfl) e
 | ext φ=>obtain⟨p,⟨o,e⟩,st⟩:=x;exact⟨st _ _ p λo q=>k _ _ (.inl rfl) q,⟨o,k _ _ (.inl rfl) e⟩,st⟩
theorem HOk.lt (x:HOk P w H h) (e:H a=some o):a < h.objs.size:=(x a o e).lt
theorem HOk.fresh (x:HOk P w H h) (e:h.objs.size<=a):H a=none:=by
 cases q:H a with
 | none=>rfl
 | some u=>exact absurd (lt_of_lt_of_le (x.lt q) e) (lt_irrefl _)
theorem HOk.kept (x:HOk P w H h) (k:∀b u,h.get? b=some u->h'.get? b=some u):HOk P w H h':=λa o e=>
 (x a o e).stay (λb u _ q=>k b u q) (λ_ q=>q) λ_ _ q=>q
theorem HOk.laid (x:HOk P w H h) (k:∀b u,h.get? b=some u->h'.get? b=some u) (L:h.objs.size<=a) (G:gG P w (upd H a o) h' a o):HOk P w (upd H a o) h':=λb u e=>by
 have hn:=x.fresh L;by_cases hb:b=a
 ·subst hb;rw[ay] at e;cases e;exact G
 ·rw[aG hb] at e;exact(x b u e).stay (λc v _ q=>k c v q) (λc q=>by rw[aG (ao q hn)];exact q) λc xs q=>by rw[aG (ao q hn)];exact q
end
def Rd (H:Hp) (a:Addr) (u:HO):Prop:=H a=some u∨∃o,H a=some (.frz o u)
theorem Rd.ok {P:Program} {w:World} {H:Hp} {h:Heap} {a:Addr} {u:HO} (r:Rd H a u) (x:HOk P w H h):gG P w H h a u:=by
 rcases r with r | ⟨o,r⟩
 ·exact x a u r
 ·obtain⟨_,q⟩:=x a _ r;exact q
noncomputable def Mut:Option HO->Prop
 | some (.lst _)=>True
 | some (.dK _)=>True
 | some (.dT _)=>True
 | some (.set _ _)=>True
 | some (.ins _ _ _)=>True
 | some (.ext _)=>True
 | _=>False
section
variable {P:Program} {w:World} {H:Hp} {h h':Heap} {x e:Addr} {o':HO}
theorem HOk.write (ok:HOk P w H h) (Y:Mut (H x)) (he:e=x∨H e=some (.own x)) (k:∀b u,b≠e->h.get? b=some u->h'.get? b=some u) (α:∃u,h'.get? e=some u)
  (Z:gG P w (upd H x o') h' x o'):HOk P w (upd H x o') h':=λb u q=>by
 have L:∀c y,H c=some (.own y)->c≠x:=λc y r z=>by subst z;rw[r] at Y;exact Y
 have O:∀c xs,H c=some (.tup xs)->c≠x:=λc xs r z=>by subst z;rw[r] at Y;exact Y
 by_cases hb:b=x
 ·subst hb;rw[ay] at q;cases q;exact Z
 ·rw[aG hb] at q;by_cases G:b=e
  ·have β:H b=some (.own x):=by
    rcases he with z | z
    ·exact absurd (G.trans z) hb
    ·rw[G];exact z
   rw[q] at β;cases β;obtain⟨v,γ⟩:=α;exact⟨v,by rw[G];exact γ⟩
  ·refine(ok b u q).stay (λc v hc r=>k c v ?_ r) (λc r=>by rw[aG (L c b r)];exact r) λc xs r=>by rw[aG (O c xs r)];exact r
   rcases hc with rfl | hc
   ·exact G
   ·rintro rfl;rcases he with z | z
    ·exact L c b hc z
    ·rw[hc] at z;cases z;exact hb rfl
end
structure Un (fs ex:List Addr) (H H':Hp) (h h':Heap):Prop where
 keep:∀b o,h.get? b=some o->H b=none->b∉fs->b∉ex->h'.get? b=some o
 slot:∀b o,h.get? b=some o->H b=none->b∈fs->b∉ex->∃sl,h'.get? b=some {o with slots:=sl}
 free:∀b o,h.get? b=some o->H b=none->b∉ex->H' b=none
 there:∀b o,h.get? b=some o->b∉ex->∃o',h'.get? b=some o'
 tups:∀b xs,H b=some (.tup xs)->H' b=some (.tup xs)
 frzs:∀b o u,H b=some (.frz o u)->H' b=some (.frz o u)
 tbls:∀b ps,H b=some (.tbl ps)->∃more,H' b=some (.tbl (ps++more))
section
variable {fs fs' ex ex':List Addr} {H H1 H2:Hp} {h h1 h2 h':Heap} {a x e:Addr} {o:HO}
theorem Un.any (u:Un fs ex H H1 h h1) {b:Addr} {ob:Obj} (q:h.get? b=some ob) (n:H b=none) (hx:b∉ex):∃G,h1.get? b=some {ob with slots:=G}:=by
 by_cases hb:b∈fs
 ·exact u.slot b ob q n hb hx
 ·exact⟨ob.slots,u.keep b ob q n hb hx⟩
theorem Un.kept (k:∀b u,h.get? b=some u->h'.get? b=some u):Un fs ex H H h h':=
 ⟨λb ob q _ _ _=>k b ob q,λb ob q _ _ _=>⟨ob.slots,k b ob q⟩,λ_ _ _ n _=>n,λb ob q _=>⟨ob,k b ob q⟩,λ_ _ q=>q,λ_ _ _ q=>q,λ_ ps q=>⟨#[],by rw[q];simp⟩⟩
theorem Un.refl:Un fs ex H H h h:=Un.kept λ_ _ q=>q
theorem Un.laid (k:∀b u,h.get? b=some u->h'.get? b=some u) (G:h.objs.size<=a) (hn:H a=none):Un fs ex H (upd H a o) h h' where
 keep:=λb u q _ _ _=>k b u q
 slot:=λb u q _ _ _=>⟨u.slots,k b u q⟩
 free:=λb u q n _=>by rw[aG (ne_of_lt (lt_of_lt_of_le (Heap.lt_size q) G))];exact n
 there:=λb u q _=>⟨u,k b u q⟩
 tups:=λb xs q=>by rw[aG (ao q hn)];exact q
 frzs:=λb u xs q=>by rw[aG (ao q hn)];exact q
 tbls:=λb ps q=>⟨#[],by rw[aG (ao q hn),q];simp⟩
theorem Un.write (L:Mut (H x)) (he:e=x∨H e=some (.own x)) (k:∀b u,b≠e->h.get? b=some u->h'.get? b=some u) (O:∃u,h'.get? e=some u):Un fs ex H (upd H x o) h h':=by
 have Y:∀b,H b=none->b≠x:=λb n z=>by subst z;rw[n] at L;exact L
 have hb:∀b,H b=none->b≠e:=λb n z=>by
  subst z;rcases he with r | r
  ·exact Y b n r
  ·rw[n] at r;cases r
 have hm:∀b u,H b=some u->¬Mut (some u)->b≠x:=λb u q nm z=>by subst z;rw[q] at L;exact nm L
 refine⟨λb u q n _ _=>k b u (hb b n) q,λb u q n _ _=>⟨u.slots,k b u (hb b n) q⟩,λb u q n _=>by rw[aG (Y b n)];exact n,λb u q _=>?_,
  λb xs q=>by rw[aG (hm b _ q λz=>z)];exact q,λb u xs q=>by rw[aG (hm b _ q λz=>z)];exact q,λb ps q=>⟨#[],by rw[aG (hm b _ q λz=>z),q];simp⟩⟩
 by_cases G:b=e
 ·subst G;exact O
 ·exact⟨u,k b u G q⟩
end
noncomputable def trk (h:Heap) (H:Hp):List Addr:=(List.range h.objs.size).filter λa=>(H a).isSome
noncomputable def hidT (h:Heap) (H:Hp):Heap:=PySem.W.hideAll h (trk h H)
theorem GO (h:Heap) (H:Hp):(hidT h H).objs.size=h.objs.size:=PySem.W.hideAll_size _ _
theorem JH {h:Heap} {H:Hp} {b:Addr} {o:Obj} (e:h.get? b=some o) (n:H b=none):(hidT h H).get? b=some o:=
 PySem.W.hideAll_get _ e λhm=>by
  have q:(H b).isSome=true:=(mem_filter.mp hm).2;rw[n] at q;simp at q
theorem Mb {h:Heap} {H:Hp} {b:Addr} {o:Obj} (e:(hidT h H).get? b=some o):h.get? b=some o/\H b=none:=by
 have G:h.get? b=some o:=PySem.W.of_hideAll (trk h H) e;refine⟨G,?_⟩;cases q:H b with
 | none=>rfl
 | some x=>
   have hm:b∈trk h H:=mem_filter.mpr ⟨mem_range.mpr (Heap.lt_size G),by simp[q]⟩;have z:(hidT h H).get? b=none:=PySem.W.hideAll_none (trk h H) hm;rw[z] at e;cases e
noncomputable def MN (g h:Heap) (L:Addr):List (Addr×Obj):=(List.range h.objs.size).filterMap λa=>if a=L∨(g.get? a).isSome=true then none else (h.get? a).map λo=>(a,o)
noncomputable def rest (g h:Heap) (L d:Addr):List (Addr×Obj):=(MN g h L).filter λp=>decide (p.1≠d)
structure Mod (K:PySem.W.Frag) (mg:Str->Option Value) (base:Heap):Prop where
 kin:K.In base
 glob:base.Ns mainGlobals mg
 blt:∃mb,base.Ns builtinsNs mb/\∀x:Str,x≠"__name__"->mb x=bootBuiltins x
 nolimit:base.NoLimit
structure Cx where
 prog:Program
 w:World
 K:PySem.W.Frag
 mg:Str->Option Value
 base:Heap
 A:Around
 N:List Str
 s₀:Shared
 H₀:Hp
 env:Env
 outer:List Env
 stack:List Env
 ex:List Addr
 fn:Str->Bool
 calm:Bool
 pn:List (Addr×Obj)
 xe:Value->Shared->Prop
noncomputable def frs (l:List Env):List Addr:=l.filterMap (·.frame)
noncomputable abbrev Cx.fs (X:Cx):List Addr:=frs X.outer
def Vis (G:Scope) (x:Str):Prop:=G.names.lookup x=some .local∨G.names.lookup x=some .cell∨G.names.lookup x=some .free
def Loc (G:Scope) (x:Str):Prop:=G.names.lookup x=some .local∨G.names.lookup x=some .cell
def Look (env:Env) (h:Heap) (m:Str->Option Value) (x:Str) (u:Value):Prop:=
 (env.kindOf x=some .local/\m x=some u)∨((env.kindOf x=some .cell∨env.kindOf x=some .free)/\∃c,env.cells.lookup x=some c/\h.IsCell c (some u))
structure Cx.Ok (X:Cx):Prop where
 mod:Mod X.K X.mg X.base
 kind:X.env.scope.kind= .function
 glob:X.env.globals=mainGlobals
 blt:X.env.builtins=builtinsNs
 above:X.s₀.heap.objs.size<=X.env.locals
 inj:∀x y c,X.env.cells.lookup x=some c->X.env.cells.lookup y=some c->x=y
 has:∀x,(X.env.kindOf x=some .cell∨X.env.kindOf x=some .free)->∃c,X.env.cells.lookup x=some c
 cab:∀x c,X.fn x=true->X.env.cells.lookup x=some c->X.s₀.heap.objs.size<=c
 hd:X.calm=true->X.A.handled=none
 frames:X.A.frames=some X.stack
 stk:X.stack=X.outer∨(X.stack=X.env::X.outer/\X.env.frame=some X.env.locals)
 exf:∀b∈X.ex,b≠X.env.locals/\∀x c,X.env.cells.lookup x=some c->c≠b
 bs:∀b o,X.base.get? b=some o->X.s₀.heap.get? b=some o/\X.H₀ b=none
 bsz:X.base.objs.size<=X.s₀.heap.objs.size
 noex:∀b o,X.base.get? b=some o->b∉X.ex
 exfs:∀b∈X.ex,b∉X.fs
 funs:X.s₀.heap.FunFrames X.base X.outer
 frf:∀b∈X.fs,X.H₀ b=none
structure Inv (X:Cx) (pins:List (Addr×Obj)) (σ:List (Option V)) (H:Hp) (s:Shared):Prop where
 ok:X.Ok
 os:s.os=X.s₀.os
 bare:AllBare s.gens
 base:Un X.fs X.ex X.H₀ H X.s₀.heap s.heap
 loc:∃m,s.heap.Ns X.env.locals m/\∀(i:Nat) (x:Str) (v:V),X.N[i]? =some x->σ[i]? =some (some v)->Vis X.env.scope x->∃u,RelV v u/\Look X.env s.heap m x u
 cell:∀x c,X.env.cells.lookup x=some c->∃v,s.heap.IsCell c v
 free:H X.env.locals=none
 freeC:∀x c,X.env.cells.lookup x=some c->H c=none
 pin:∀p∈X.pn++pins,s.heap.get? p.1=some p.2/\H p.1=none/\p.1≠X.env.locals/\p.1∉X.fs/\∀v,p.2.data≠.cell v
 hok:HOk X.prog X.w H s.heap
 len:σ.length=X.N.length
section
variable {X:Cx} {pins:List (Addr×Obj)} {σ:List (Option V)} {H H':Hp} {s:Shared} {h':Heap}
theorem Cx.Ok.nofr (ok:X.Ok) {b:Addr} {o:Obj} (e:X.base.get? b=some o):b∉X.fs:=λhb=>by
 have:=(ok.funs.mem hb).1;rw[e] at this;cases this
theorem Inv.bs (I:Inv X pins σ H s):∀b o,X.base.get? b=some o->s.heap.get? b=some o/\H b=none:=λb o e=>
 ⟨I.base.keep b o (I.ok.bs b o e).1 (I.ok.bs b o e).2 (I.ok.nofr e) (I.ok.noex b o e),I.base.free b o (I.ok.bs b o e).1 (I.ok.bs b o e).2 (I.ok.noex b o e)⟩
theorem Inv.bk (I:Inv X pins σ H s):∀b o,X.base.get? b=some o->s.heap.get? b=some o:=λb o e=>(I.bs b o e).1
theorem Inv.mod (I:Inv X pins σ H s):Mod X.K X.mg X.base:=I.ok.mod
theorem Inv.kIn (I:Inv X pins σ H s):X.K.In s.heap:=I.ok.mod.kin.keeps I.bk
theorem Inv.lt (I:Inv X pins σ H s):X.env.locals < s.heap.objs.size:=let ⟨_,hn,_⟩:=I.loc;hn.lt
theorem Inv.sz (I:Inv X pins σ H s):X.s₀.heap.objs.size<=s.heap.objs.size:=le_trans I.ok.above (le_of_lt I.lt)
theorem Inv.nofs (I:Inv X pins σ H s) {a:Addr} (h:s.heap.objs.size<=a):a∉X.fs:=λhb=>by
 obtain⟨_,o,ho,_⟩:=I.ok.funs.mem hb;exact absurd (lt_of_lt_of_le (Heap.lt_size ho) (le_trans I.sz h)) (lt_irrefl _)
theorem Inv.cne (I:Inv X pins σ H s):∀x c,X.env.cells.lookup x=some c->c≠X.env.locals:=λx c e z=>by
 obtain⟨v,o,ho,hd⟩:=I.cell x c e;obtain⟨m,⟨o',es,ep,G,L,_⟩,_⟩:=I.loc;rw[z,G] at ho;cases ho;rw[L] at hd;cases hd
theorem Inv.funs (I:Inv X pins σ H s):s.heap.FunFrames X.base X.outer:=by
 have all:∀(l:List Env),(∀b∈frs l,b∈X.fs)->X.s₀.heap.FunFrames X.base l->s.heap.FunFrames X.base l:=by
  intro l
  induction l with
  | nil=>intro _ _;trivial
  | cons env r ih=>
    intro hs hl;obtain⟨hk,⟨L,o,hf,hn,ho,hd⟩,O⟩:=hl;have G:L∈X.fs:=hs L (by unfold frs;rw[List.filterMap_cons,hf];exact mem_cons_self);obtain⟨Y,e⟩:=I.base.slot L o ho (I.ok.frf L G) G λz=>I.ok.exfs L z G;exact⟨hk,⟨L,_,hf,hn,e,hd⟩,ih (λb hb=>hs b (by unfold frs;rw[List.filterMap_cons,hf];exact mem_cons_of_mem _ hb)) O⟩
 exact all X.outer (λ_ hb=>hb) I.ok.funs
theorem Inv.stack (I:Inv X pins σ H s):s.heap.FunFrames X.base X.stack:=by
 rcases I.ok.stk with e | ⟨e,hf⟩
 ·rw[e];exact I.funs
 ·rw[e];obtain⟨m,hn,_⟩:=I.loc;refine .cons (by rw[I.ok.kind];decide) hf hn ?_ I.funs;exact Heap.get?_none_of_le (le_trans I.ok.bsz I.ok.above)
theorem Inv.stkSub (I:Inv X pins σ H s):∀b∈frs X.stack,b∈X.env.locals::X.fs:=λb hb=>by
 rcases I.ok.stk with e | ⟨e,hf⟩
 ·rw[e] at hb;exact mem_cons_of_mem _ hb
 ·rw[e] at hb;unfold frs at hb;rw[List.filterMap_cons,hf] at hb;exact hb
theorem Inv.stkFree (I:Inv X pins σ H s):∀b∈frs X.stack,H b=none:=λb hb=>by
 rcases mem_cons.mp (I.stkSub b hb) with e | hb
 ·rw[e];exact I.free
 ·obtain⟨_,o,ho,_⟩:=I.ok.funs.mem hb;exact I.base.free b o ho (I.ok.frf b hb) λz=>I.ok.exfs b z hb
theorem Inv.step {g':Array GenState} {t':Nat} {d':Drawn} {ch:List Addr} (I:Inv X pins σ H s)
  (O:∀b∈ch,(b∈X.ex∨X.s₀.heap.objs.size<=b)/\b≠X.env.locals/\(∀x c,X.env.cells.lookup x=some c->c≠b)/\∀p∈X.pn++pins,p.1≠b)
  (keep:∀b o,b≠X.env.locals->b∉X.fs->b∉ch->s.heap.get? b=some o->H b=none->h'.get? b=some o)
  (slot:∀b o,b≠X.env.locals->b∈X.fs->b∉ch->s.heap.get? b=some o->H b=none->∃ε,h'.get? b=some {o with slots:=ε}) (free:∀b o,b∉ch->s.heap.get? b=some o->H b=none->H' b=none)
  (there:∀b o,b∉ch->s.heap.get? b=some o->∃o',h'.get? b=some o')
  (tups:∀b xs,H b=some (.tup xs)->H' b=some (.tup xs)) (frzs:∀b o u,H b=some (.frz o u)->H' b=some (.frz o u)) (tbls:∀b ps,H b=some (.tbl ps)->∃more,H' b=some (.tbl (ps++more)))
  (ns:∀m,s.heap.Ns X.env.locals m->h'.Ns X.env.locals m) (hok:HOk X.prog X.w H' h') (ξ:AllBare g'):
  Inv X pins σ H' {s with heap:=h',gens:=g',drawn:=d',toks:=t'}:=by
 have β:∀b o,X.s₀.heap.get? b=some o->b≠X.env.locals:=λb o e=>ne_of_lt (lt_of_lt_of_le (Heap.lt_size e) I.ok.above)
 have Z:∀b o,X.s₀.heap.get? b=some o->b∉X.ex->b∉ch:=λb o e G hb=>by
  rcases(O b hb).1 with z | z
  ·exact G z
  ·exact absurd (lt_of_lt_of_le (Heap.lt_size e) z) (lt_irrefl _)
 have Y:∀x c,X.env.cells.lookup x=some c->∀v,s.heap.IsCell c v->h'.IsCell c v:=λx c e v ⟨o,ho,hd⟩=>by
  have L:c∉ch:=λz=>(O c z).2.2.1 x c e rfl;by_cases θ:c∈X.fs
  ·obtain⟨ε,q⟩:=slot c o (I.cne x c e) θ L ho (I.freeC x c e);exact⟨_,q,hd⟩
  ·exact⟨o,keep c o (I.cne x c e) θ L ho (I.freeC x c e),hd⟩
 refine⟨I.ok,I.os,ξ,⟨λb o e n hb G=>?_,λb o e n hb G=>?_,λb o e n G=>?_,λb o e G=>?_,λb xs e=>tups b xs (I.base.tups b xs e),λb o xs e=>frzs b o xs (I.base.frzs b o xs e),λb ps e=>?_⟩,?_,λx c e=>?_,?_,λx c e=>?_,λp η=>?_,hok,I.len⟩
 ·exact keep b o (β b o e) hb (Z b o e G) (I.base.keep b o e n hb G) (I.base.free b o e n G)
 ·obtain⟨ε,α⟩:=I.base.slot b o e n hb G;obtain⟨δ,γ⟩:=slot b _ (β b o e) hb (Z b o e G) α (I.base.free b o e n G);exact⟨δ,γ⟩
 ·obtain⟨o',α⟩:=I.base.there b o e G;exact free b o' (Z b o e G) α (I.base.free b o e n G)
 ·obtain⟨o',α⟩:=I.base.there b o e G;exact there b o' (Z b o e G) α
 ·obtain⟨ν,α⟩:=I.base.tbls b ps e;obtain⟨ι,γ⟩:=tbls b _ α;exact⟨ν++ι,by rw[γ,Array.append_assoc]⟩
 ·obtain⟨m,hn,hl⟩:=I.loc;refine⟨m,ns m hn,λi x v α γ ο=>?_⟩;obtain⟨u,r,l⟩:=hl i x v α γ ο;refine⟨u,r,?_⟩;rcases l with l | ⟨k,c,e,z⟩
  ·exact .inl l
  ·exact .inr ⟨k,c,e,Y x c e _ z⟩
 ·obtain⟨v,z⟩:=I.cell x c e;exact⟨v,Y x c e v z⟩
 ·obtain⟨m,⟨o,_,_,ho,_⟩,_⟩:=I.loc;exact free _ o (λz=>(O _ z).2.1 rfl) ho I.free
 ·obtain⟨v,o,ho,hd⟩:=I.cell x c e;exact free c o (λz=>(O c z).2.2.1 x c e rfl) ho (I.freeC x c e)
 ·obtain⟨e,n,ne,ζ,d⟩:=I.pin p η;have L:p.1∉ch:=λz=>(O p.1 z).2.2.2 p η rfl;exact⟨keep p.1 p.2 ne ζ L e n,free p.1 p.2 L e n,ne,ζ,d⟩
theorem Inv.un {t':Nat} (I:Inv X pins σ H s) (u:Un X.fs [] H H' s.heap h') (hok:HOk X.prog X.w H' h'):Inv X pins σ H' {s with heap:=h',toks:=t'}:=by
 obtain⟨m,⟨o,es,ep,ho,r⟩,_⟩:=id I.loc;obtain⟨Z,Y⟩:=u.any ho I.free (by simp)
 exact I.step (g':=s.gens) (d':=s.drawn) (ch:=[]) (λ_ z=>nomatch z) (λb o _ hb _ e n=>u.keep b o e n hb (by simp)) (λb o _ hb _ e n=>u.slot b o e n hb (by simp)) (λb o _ e n=>u.free b o e n (by simp)) (λb o _ e=>u.there b o e (by simp)) u.tups u.frzs u.tbls (fun α hm=>by
  obtain⟨o',L,O,G,r'⟩:=hm;rw[ho] at G;cases G;exact⟨_,L,O,Y,r'⟩) hok I.bare
theorem Inv.call {g':Array GenState} {t':Nat} {d':Drawn} {ch:List Addr} (I:Inv X pins σ H s) (u:Un (frs X.stack) ch H H' s.heap h') (hok:HOk X.prog X.w H' h') (β:AllBare g')
  (O:∀b∈ch,(b∈X.ex∨X.s₀.heap.objs.size<=b)/\b≠X.env.locals/\(∀x c,X.env.cells.lookup x=some c->c≠b)/\∀p∈X.pn++pins,p.1≠b):
  Inv X pins σ H' {s with heap:=h',gens:=g',drawn:=d',toks:=t'}:=by
 obtain⟨m,⟨o,es,ep,ho,r⟩,_⟩:=id I.loc;obtain⟨γ,Y⟩:=u.any ho I.free λz=>(O _ z).2.1 rfl
 exact I.step (ch:=ch) O (λb o Y hb G e n=>u.keep b o e n (λz=>(mem_cons.mp (I.stkSub b z)).elim Y hb) G) (λb o _ _ G e n=>u.any e n G) (λb o G e n=>u.free b o e n G) (λb o G e=>u.there b o e G) u.tups u.frzs u.tbls (fun δ hm=>by
  obtain⟨o',Z,α,L,r'⟩:=hm;rw[ho] at L;cases L;exact⟨_,Z,α,Y,r'⟩) hok β
theorem Inv.turned {t':Nat} {G:Addr} (I:Inv X pins σ H s) (k:∀b o,b≠G->s.heap.get? b=some o->h'.get? b=some o) (hn:H G=none) (Y:G≠X.env.locals)
  (h1:G∈X.ex∨X.s₀.heap.objs.size<=G) (h2:∀x c,X.env.cells.lookup x=some c->c≠G) (Z:∀p∈X.pn++pins,p.1≠G):Inv X pins σ H {s with heap:=h',toks:=t'}:=by
 have O:∀b u,H b=some u->b≠G:=λb u e z=>by rw[z,hn] at e;cases e
 refine I.step (g':=s.gens) (d':=s.drawn) (ch:=[G]) (λb hb=>?_) (λb o _ _ L e _=>k b o (λz=>L (by simp[z])) e) (λb o _ _ L e _=>⟨o.slots,k b o (λz=>L (by simp[z])) e⟩) (λ_ _ _ _ n=>n)
  (λb o L e=>⟨o,k b o (λz=>L (by simp[z])) e⟩) (λ_ _ e=>e) (λ_ _ _ e=>e) (λb ps e=>⟨#[],by rw[e];simp⟩) (λm hm=>?_) (λb u e=>?_) I.bare
 ·have e:b=G:=by simpa using hb
  subst e;exact⟨h1,Y,h2,Z⟩
 ·obtain⟨o,es,ep,ho,r⟩:=hm;exact⟨o,es,ep,k _ o (Ne.symm Y) ho,r⟩
 ·refine(I.hok b u e).stay (λc v L q=>k c v ?_ q) (λ_ q=>q) λ_ _ q=>q;rcases L with z | z
  ·rw[z];exact O b u e
  ·exact O c _ z
theorem Inv.tok (I:Inv X pins σ H s) (t:Nat):Inv X pins σ H {s with toks:=t}:=I.un (h':=s.heap) (t':=t) Un.refl I.hok
theorem Inv.kept {t':Nat} (I:Inv X pins σ H s) (k:∀b u,s.heap.get? b=some u->h'.get? b=some u):Inv X pins σ H {s with heap:=h',toks:=t'}:=I.un (Un.kept k) (I.hok.kept k)
theorem Inv.laid {a:Addr} {o:HO} {t':Nat} (I:Inv X pins σ H s) (k:∀b u,s.heap.get? b=some u->h'.get? b=some u) (L:s.heap.objs.size<=a) (G:gG X.prog X.w (upd H a o) h' a o):
  Inv X pins σ (upd H a o) {s with heap:=h',toks:=t'}:=I.un (Un.laid k L (I.hok.fresh L)) (I.hok.laid k L G)
theorem Inv.write {x e:Addr} {o:HO} {t':Nat} (I:Inv X pins σ H s) (O:Mut (H x)) (he:e=x∨H e=some (.own x)) (k:∀b u,b≠e->s.heap.get? b=some u->h'.get? b=some u) (G:∃u,h'.get? e=some u)
  (L:gG X.prog X.w (upd H x o) h' x o):Inv X pins σ (upd H x o) {s with heap:=h',toks:=t'}:=I.un (Un.write O he k G) (I.hok.write O he k G L)
theorem Inv.weak {σ':List (Option V)} (I:Inv X pins σ H s) (hl:σ'.length=σ.length) (w:∀(i:Nat) v,σ'[i]? =some (some v)->σ[i]? =some (some v)):Inv X pins σ' H s:=
 ⟨I.ok,I.os,I.bare,I.base,let ⟨m,hn,G⟩:=I.loc;⟨m,hn,λi x v Y O L=>G i x v Y (w i v O) L⟩,I.cell,I.free,I.freeC,I.pin,I.hok,hl.trans I.len⟩
theorem Inv.pins_of {G:List (Addr×Obj)} (I:Inv X pins σ H s) (h:∀p∈G,s.heap.get? p.1=some p.2/\H p.1=none/\p.1≠X.env.locals/\p.1∉X.fs/\∀v,p.2.data≠.cell v):Inv X G σ H s:=
 ⟨I.ok,I.os,I.bare,I.base,I.loc,I.cell,I.free,I.freeC,λp L=>(mem_append.mp L).elim (λz=>I.pin p (mem_append_left _ z)) (h p),I.hok,I.len⟩
theorem BQ {N:List Str} (G:N.Nodup) {i j:Nat} {x:Str} (a:N[i]? =some x) (b:N[j]? =some x):i=j:=by
 obtain⟨h1,O⟩:=List.getElem?_eq_some_iff.mp a;obtain⟨h2,L⟩:=List.getElem?_eq_some_iff.mp b;exact(List.getElem_inj G).mp (O.trans L.symm)
theorem yC {M:Model} {A:Around} {E:Value->Shared->Prop} {i:Nat} {x:Str} {v:V} {u:Value} {Q:Unit->Shared->Prop} (I:Inv X pins σ H s) (ψ:X.N.Nodup) (hi:X.N[i]? =some x) (hx:Loc X.env.scope x) (r:RelV v u)
  (h:∀s',Inv X pins (σ.set i (some v)) H s'->(∃a,Heap.SameBut a s.heap s'.heap/\(a=X.env.locals∨X.env.cells.lookup x=some a))->Q () s') (hf:X.fn x=true∨X.env.scope.names.lookup x=some .local:=by first | exact .inl rfl | exact .inr rfl | assumption):wpAny M A (storeName X.env x u) Q E s:=by
 obtain⟨m,hn,hl⟩:=id I.loc;have ε:(X.env.scope.kind == .class||(X.env.scope.kind == .module&&X.env.locals != X.env.globals))=false:=by rw[I.ok.kind];rfl
 have Z:i < σ.length:=by rw[I.len];exact(List.getElem?_eq_some_iff.mp hi).1
 have cne:=I.cne
 have G:∀{a:Addr} {h':Heap},(∃o,s.heap.get? a=some o/\H a=none)->Heap.SameBut a s.heap h'->HOk X.prog X.w H h':=λ{a h'} ha hs b ob e=>by
  obtain⟨_,_,O⟩:=ha;refine(I.hok b ob e).stay (λc θ hc q=>(hs.2 c ?_).trans q) (λ_ q=>q) λ_ _ q=>q;rintro rfl;rcases hc with rfl | hc
  ·rw[O] at e;cases e
  ·rw[O] at hc;cases hc
 rcases hx with hk | hk
 ·refine wpAny_storeName_local hk hn (λh' υ hs=>?_) ε;obtain⟨oL,_,_,τ,_⟩:=id hn;refine h _ ⟨I.ok,I.os,I.bare,⟨λb o e n hb hx=>?_,λb o e n hb hx=>?_,I.base.free,λb o e hx=>?_,I.base.tups,I.base.frzs,I.base.tbls⟩,⟨_,υ,λj y ν L Y φ=>?_⟩,λy c e=>?_,I.free,I.freeC,λp ρ=>?_,G ⟨oL,τ,I.free⟩ hs,by simpa using I.len⟩ ⟨_,hs,.inl rfl⟩
  ·exact(hs.2 b (ne_of_lt (lt_of_lt_of_le (Heap.lt_size e) I.ok.above))).trans (I.base.keep b o e n hb hx)
  ·obtain⟨ο,L⟩:=I.base.slot b o e n hb hx;exact⟨ο,(hs.2 b (ne_of_lt (lt_of_lt_of_le (Heap.lt_size e) I.ok.above))).trans L⟩
  ·obtain⟨o',L⟩:=I.base.there b o e hx;exact⟨o',(hs.2 b (ne_of_lt (lt_of_lt_of_le (Heap.lt_size e) I.ok.above))).trans L⟩
  ·by_cases α:j=i
   ·subst α;rw[hi] at L;cases L;rw[List.getElem?_set_self Z] at Y;cases Y;exact⟨u,r,.inl ⟨hk,by simp⟩⟩
   ·rw[List.getElem?_set_ne (Ne.symm α)] at Y;obtain⟨ξ,r',q⟩:=hl j y ν L Y φ;refine⟨ξ,r',?_⟩;rcases q with ⟨k,e⟩ | ⟨k,c,e,z⟩
    ·refine .inl ⟨k,?_⟩;have:y≠x:=λe=>α (BQ ψ L (e ▸ hi));simp[this,e]
    ·exact .inr ⟨k,c,e,z.sameBut hs (cne y c e)⟩
  ·obtain⟨θ,z⟩:=I.cell y c e;exact⟨θ,z.sameBut hs (cne y c e)⟩
  ·obtain⟨e,n,ne,π,d⟩:=I.pin p ρ;exact⟨(hs.2 p.1 ne).trans e,n,ne,π,d⟩
 ·have β:X.fn x=true:=by
   rcases hf with z | z
   ·exact z
   ·rw[z] at hk;cases hk
  obtain⟨c,hc⟩:=I.ok.has x (.inl hk);obtain⟨θ,z⟩:=I.cell x c hc;refine wpAny_storeName_cell I.ok.kind hk hc z (λh' η hs=>?_);obtain⟨χ,δ,γ⟩:=id z;refine h {s with heap:=h'} ⟨I.ok,I.os,I.bare,⟨λb o e n hb hx=>?_,λb o e n hb hx=>?_,I.base.free,λb o e hx=>?_,I.base.tups,I.base.frzs,I.base.tbls⟩,⟨m,hn.sameBut hs (Ne.symm (cne x c hc)),λj y ν L Y φ=>?_⟩,λy ι e=>?_,I.free,I.freeC,λp ρ=>?_,G ⟨χ,δ,I.freeC x c hc⟩ hs,by simpa using I.len⟩ ⟨c,hs,.inr hc⟩
  ·exact(hs.2 b (ne_of_lt (lt_of_lt_of_le (Heap.lt_size e) (I.ok.cab x c β hc)))).trans (I.base.keep b o e n hb hx)
  ·obtain⟨ο,L⟩:=I.base.slot b o e n hb hx;exact⟨ο,(hs.2 b (ne_of_lt (lt_of_lt_of_le (Heap.lt_size e) (I.ok.cab x c β hc)))).trans L⟩
  ·obtain⟨o',L⟩:=I.base.there b o e hx;exact⟨o',(hs.2 b (ne_of_lt (lt_of_lt_of_le (Heap.lt_size e) (I.ok.cab x c β hc)))).trans L⟩
  ·by_cases α:j=i
   ·subst α;rw[hi] at L;cases L;rw[List.getElem?_set_self Z] at Y;cases Y;exact⟨u,r,.inr ⟨.inl hk,c,hc,η⟩⟩
   ·rw[List.getElem?_set_ne (Ne.symm α)] at Y;obtain⟨ξ,r',q⟩:=hl j y ν L Y φ;refine⟨ξ,r',?_⟩;rcases q with q | ⟨k,ι,e,z'⟩
    ·exact .inl q
    ·refine .inr ⟨k,ι,e,z'.sameBut hs ?_⟩;rintro rfl;exact α (BQ ψ L (I.ok.inj _ _ _ e hc ▸ hi))
  ·by_cases ζ:ι=c
   ·subst ζ;exact⟨_,η⟩
   ·obtain⟨w2,ω⟩:=I.cell y ι e;exact⟨w2,ω.sameBut hs ζ⟩
  ·obtain⟨e,n,ne,π,d⟩:=I.pin p ρ;refine⟨(hs.2 p.1 ?_).trans e,n,ne,π,d⟩;intro q;rw[q,δ] at e;have q':χ=p.2:=Option.some.inj e;exact d θ (by rw[<-q'];exact γ)
theorem Bw {M:Model} {A:Around} {E:Value->Shared->Prop} {i:Nat} {x:Str} {v:V} {u:Value} {Q:Unit->Shared->Prop} (I:Inv X pins σ H s) (G:X.N.Nodup) (hi:X.N[i]? =some x) (hx:Loc X.env.scope x) (r:RelV v u)
  (h:∀s',Inv X pins (σ.set i (some v)) H s'->Q () s') (hf:X.fn x=true∨X.env.scope.names.lookup x=some .local:=by first | exact .inl rfl | exact .inr rfl | assumption):wpAny M A (storeName X.env x u) Q E s:=
 yC I G hi hx r (λs' L _=>h s' L) hf
theorem Inv.call' {s':Shared} {ch:List Addr} (I:Inv X pins σ H s) (ho:s'.os=s.os) (u:Un (frs X.stack) ch H H' s.heap s'.heap) (hok:HOk X.prog X.w H' s'.heap) (L:AllBare s'.gens)
  (G:∀b∈ch,(b∈X.ex∨X.s₀.heap.objs.size<=b)/\b≠X.env.locals/\(∀x c,X.env.cells.lookup x=some c->c≠b)/\∀p∈X.pn++pins,p.1≠b):Inv X pins σ H' s':=by
 obtain⟨h',g',d',t',o'⟩:=s';have e:o'=s.os:=ho;subst e;exact I.call (g':=g') (t':=t') (d':=d') u hok L G
end
noncomputable abbrev XK:=Value->Option Addr->Hp->Prop
noncomputable abbrev St:=List (Option V)
noncomputable abbrev VK:=V->Hp->Prop
noncomputable abbrev TE:=St->Hp->VK->Prop
noncomputable abbrev TT:=St->Hp->(Bool->Hp->Prop)->Prop
noncomputable abbrev TA:=St->Hp->(List V->Hp->Prop)->Prop
structure Ends where
 nx:St->Hp->Prop
 rt:VK
 bk:St->Hp->Prop:=λ_ _=>False
 ct:St->Hp->Prop:=λ_ _=>False
noncomputable abbrev TS:=Ends->St->Hp->Prop
def EP (X:Cx) (pins:List (Addr×Obj)) (σ:St) (Q:VK) (u:Value) (s':Shared):Prop:=∃v H',Inv X pins σ H' s'/\RelV v u/\Q v H'
def TP (X:Cx) (pins:List (Addr×Obj)) (σ:St) (Q:Bool->Hp->Prop) (b:Bool) (s':Shared):Prop:=∃H',Inv X pins σ H' s'/\Q b H'
def AP (X:Cx) (pins:List (Addr×Obj)) (σ:St) (Q:List V->Hp->Prop) (us:List Value) (s':Shared):Prop:=∃vs H',Inv X pins σ H' s'/\Vals vs us/\Q vs H'
def SP (X:Cx) (pins:List (Addr×Obj)) (D:Ends) (f:Flow) (s':Shared):Prop:=
 match f with
 | .next=>∃σ' H',Inv X pins σ' H' s'/\D.nx σ' H'
 | .brk=>∃σ' H',Inv X pins σ' H' s'/\D.bk σ' H'
 | .cont=>∃σ' H',Inv X pins σ' H' s'/\D.ct σ' H'
 | .ret u=>∃v σ' H',Inv X pins σ' H' s'/\RelV v u/\D.rt v H'
def PE (X:Cx) (e:Expr) (t:TE):Prop:=
 ∀(pins:List (Addr×Obj)) (s:Shared) (σ:St) (H:Hp) (Q:VK),Inv X pins σ H s->t σ H Q->wpAny (model X.prog X.w) X.A (eval e X.env) (EP X pins σ Q) X.xe s
def PT (X:Cx) (e:Expr) (t:TT):Prop:=
 ∀(pins:List (Addr×Obj)) (s:Shared) (σ:St) (H:Hp) (Q:Bool->Hp->Prop),Inv X pins σ H s->t σ H Q->wpAny (model X.prog X.w) X.A (isTrue e X.env (eval e X.env)) (TP X pins σ Q) X.xe s
def PW (X:Cx) (e:Expr) (t:TT):Prop:=
 ∀(G:Sem Value) (pins:List (Addr×Obj)) (s:Shared) (σ:St) (H:Hp) (Q:Bool->Hp->Prop),Inv X pins σ H s->t σ H Q->wpAny (model X.prog X.w) X.A (isTrue e X.env G) (TP X pins σ Q) X.xe s
theorem PW.pt {X:Cx} {e:Expr} {t:TT} (h:PW X e t):PT X e t:=h _
def PA (X:Cx) (es:List Expr) (t:TA):Prop:=
 ∀(pos:Pos) (pins:List (Addr×Obj)) (s:Shared) (σ:St) (H:Hp) (Q:List V->Hp->Prop),Inv X pins σ H s->t σ H Q->wpAny (model X.prog X.w) X.A (spliced (backTo pos (starEach es X.env))) (AP X pins σ Q) X.xe s
def PS (X:Cx) (st:Stmt) (t:TS):Prop:=
 ∀(pins:List (Addr×Obj)) (s:Shared) (σ:St) (H:Hp) (D:Ends),Inv X pins σ H s->t D σ H->wpAny (model X.prog X.w) X.A (exec st X.env) (SP X pins D) X.xe s
def PSs (X:Cx) (st:List Stmt) (t:TS):Prop:=
 ∀(pins:List (Addr×Obj)) (s:Shared) (σ:St) (H:Hp) (D:Ends),Inv X pins σ H s->t D σ H->wpAny (model X.prog X.w) X.A (execs st X.env) (SP X pins D) X.xe s
theorem thn {α:Type} {t:Sem α} {Q G:α->Shared->Prop} {M:Model} {A:Around} {E:Value->Shared->Prop} {s:Shared} (h:wpAny M A t Q E s) (L:∀a s,Q a s->G a s):wpAny M A t G E s:=wpAny_mono h L λ_ _ x=>x
section
variable {X:Cx}
noncomputable def tVar (i:Nat):TE:=fun σ H Q=>∃v,σ[i]? =some (some v)/\Q v H
noncomputable def tC (v:V):TE:=λ_ H Q=>Q v H
theorem OB {i:Nat} {x:Str} {pos:Pos} (Z:X.N[i]? =some x) (Y:Vis X.env.scope x) (hd:(x == ("__debug__":Str))=false:=by decide) (L:(x == ("__classdict__":Str))=false:=by decide):PE X (.Name x pos) (tVar i):=by
 intro pins s σ H Q I h;obtain⟨v,e,h⟩:=h;obtain⟨m,hn,hl⟩:=I.loc;obtain⟨u,r,l⟩:=hl i x v Z e Y;have fin:EP X pins σ Q u s:=⟨v,H,I,r,h⟩;rcases l with ⟨hk,hm⟩ | ⟨hk,c,O,G⟩
 ·exact wpAny_Name (wpAny_loadName_local I.ok.kind hk hn hm fin) hd
 ·rcases hk with hk | hk
  ·exact wpAny_Name (wpAny_loadName_cell I.ok.kind hk O G fin) hd
  ·exact wpAny_Name (wpAny_loadName_free I.ok.kind hk O G fin L) hd
theorem ag {i j pos}:PE X (.Constant (.int i) j pos) (tC (.int i)):=λ_ _ _ H _ I h=>wpAny_Constant_int ⟨.int i,H,I.tok _,⟨_,rfl⟩,h⟩
theorem pA {b j pos}:PE X (.Constant (.bool b) j pos) (tC (.bl b)):=λ_ _ _ H _ I h=>Constant_bool ⟨.bl b,H,I,rfl,h⟩
theorem bq {x j pos}:PE X (.Constant (.str x) j pos) (tC (.str x)):=λ_ _ _ H _ I h=>Calls.Constant_str ⟨.str x,H,I.tok _,⟨_,rfl⟩,h⟩
def Gl (X:Cx) (x:Str):Prop:=X.env.kindOf x=some .globalImplicit
theorem rf {E:Value->Shared->Prop} {pins:List (Addr×Obj)} {s:Shared} {σ:St} {H:Hp} {x:Str} {u:Value} {pos:Pos} {Q:Value->Shared->Prop} (I:Inv X pins σ H s) (G:Gl X x) (hm:X.mg x=some u) (h:Q u s)
  (hd:(x == ("__debug__":Str))=false:=by decide):wpAny (model X.prog X.w) X.A (eval (.Name x pos) X.env) Q E s:=
 Calls.Name_function_global I.ok.kind G (Calls.loadGlobal_global (by rw[I.ok.glob];exact I.mod.glob.keeps I.bk) hm h) hd
theorem rG {E:Value->Shared->Prop} {pins:List (Addr×Obj)} {s:Shared} {σ:St} {H:Hp} {x:Str} {u:Value} {pos:Pos} {Q:Value->Shared->Prop} (I:Inv X pins σ H s) (L:Gl X x) (hm:X.mg x=none) (G:bootBuiltins x=some u) (h:Q u s)
  (hn:x≠"__name__":=by decide) (hd:(x == ("__debug__":Str))=false:=by decide):wpAny (model X.prog X.w) X.A (eval (.Name x pos) X.env) Q E s:=by
 obtain⟨O,h1,h2⟩:=I.mod.blt;exact Calls.Name_function_global I.ok.kind L (Calls.loadGlobal_builtin (by rw[I.ok.glob];exact I.mod.glob.keeps I.bk) hm (by rw[I.ok.blt];exact h1.keeps I.bk) ((h2 x hn).trans G) h) hd
theorem iy {x:Str} {v:V} {u:Value} {pos:Pos} (G:Gl X x) (hm:X.mg x=some u) (r:RelV v u) (hd:(x == ("__debug__":Str))=false:=by decide):PE X (.Name x pos) (tC v):=
 λ_ _ _ H _ I h=>rf I G hm ⟨v,H,I,r,h⟩ hd
theorem qC {x:Str} {v:V} {u:Value} {pos:Pos} (L:Gl X x) (hm:X.mg x=none) (G:bootBuiltins x=some u) (r:RelV v u) (hn:x≠"__name__":=by decide) (hd:(x == ("__debug__":Str))=false:=by decide):PE X (.Name x pos) (tC v):=
 λ_ _ _ H _ I h=>rG I L hm G ⟨v,H,I,r,h⟩ hn hd
variable {a b:Expr} {ta tb:TE} {pos:Pos}
def PC (X:Cx) (O:CmpOp) (a b:Expr) (t:TE):Prop:=
 ∀(pins:List (Addr×Obj)) (s:Shared) (σ:St) (H:Hp) (Q:VK),Inv X pins σ H s->t σ H Q->
  wpAny (model X.prog X.w) X.A (eval a X.env) (λv L=>wpAny (model X.prog X.w) X.A (eval b X.env) (λu G=>wpAny (model X.prog X.w) X.A (compareOp O v u) (EP X pins σ Q) X.xe G) X.xe L) X.xe s
noncomputable def tB (t:TE):TT:=fun σ H Q=>t σ H λx H1=>∃c,x= .bl c/\Q c H1
theorem OE {G:CmpOp} {t:TE} (h:PC X G a b t) (h1:behindInMarks G b=false:=by first | exact nobehind _ (by decide) (by decide) | rfl):PE X (.Compare a [G] [b] pos) t:=λpins s σ H Q I hw=>wpAny_Compare1 (h pins s σ H Q I hw) h1
theorem F1 {G:CmpOp} {t:TE} (h:PC X G a b t) (h1:behindInMarks G b=false:=by first | exact nobehind _ (by decide) (by decide) | rfl):PT X (.Compare a [G] [b] pos) (tB t):=by
 intro pins s σ H Q I hw;refine wpAny_isTrue_Compare1 (thn (h pins s σ H _ I hw) λv β h1=>thn h1 λu α h2=>thn h2 λc Z ⟨x,H1,Y,L,O⟩=>?_) h1;obtain⟨d,rfl,q⟩:=O;cases L;exact wpAny_truthy_bool ⟨H1,Y,q⟩
theorem eu {e:Expr} {t:TE} (h:PE X e t) (he:∀G,isTrue e X.env G=(do let v <-G;standAt e.pos;holding [v] (truthy v)):=by intro _;rfl):PT X e (tB t):=by
 intro pins s σ H Q I hw;refine isTrue_plain (thn (h pins s σ H _ I hw) λv Z ⟨x,H1,Y,L,O⟩=>?_) (he _);obtain⟨d,rfl,q⟩:=O;cases L;exact wpAny_truthy_bool ⟨H1,Y,q⟩
variable {tA tB':TT} {rest:List Expr}
noncomputable def tAnd (t u:TT):TT:=fun σ H Q=>t σ H λc H1=>if c=true then u σ H1 Q else Q false H1
noncomputable def tOr (t u:TT):TT:=fun σ H Q=>t σ H λc H1=>if c=true then Q true H1 else u σ H1 Q
noncomputable def tNot (t:TT):TT:=fun σ H Q=>t σ H λc H1=>Q (!c) H1
theorem xx (ha:PT X a tA):PW X (.BoolOp .And [a] pos) tA:=by
 intro G pins s σ H Q I h;refine isTrue_and (thn (ha pins s σ H Q I h) λc L e=>?_);cases c with
 | true=>exact isTrue_and_nil e
 | false=>exact e
theorem pe (ha:PT X a tA):PW X (.BoolOp .Or [a] pos) tA:=by
 intro G pins s σ H Q I h;refine isTrue_or (thn (ha pins s σ H Q I h) λc L e=>?_);cases c with
 | false=>exact isTrue_or_nil e
 | true=>exact e
theorem BH (ha:PT X a tA) (hb:PW X (.BoolOp .And (b::rest) pos) tB'):PW X (.BoolOp .And (a::b::rest) pos) (tAnd tA tB'):=by
 intro O pins s σ H Q I h;refine isTrue_and (thn (ha pins s σ H _ I h) λc Y ⟨H1,L,G⟩=>?_);cases c with
 | true=>exact hb O pins Y σ H1 Q L G
 | false=>exact⟨H1,L,G⟩
theorem qy (ha:PT X a tA) (hb:PW X (.BoolOp .Or (b::rest) pos) tB'):PW X (.BoolOp .Or (a::b::rest) pos) (tOr tA tB'):=by
 intro O pins s σ H Q I h;refine isTrue_or (thn (ha pins s σ H _ I h) λc Y ⟨H1,L,G⟩=>?_);cases c with
 | true=>exact⟨H1,L,G⟩
 | false=>exact hb O pins Y σ H1 Q L G
theorem gx (ha:PT X a tA):PT X (.UnaryOp .Not a pos) (tNot tA):=by
 intro pins s σ H Q I h;exact isTrue_not (ha pins s σ H (λc H1=>Q (!c) H1) I h)
noncomputable def Nu (ta tb:TE):TE:=fun σ H Q=>ta σ H λx H1=>∃c,x= .bl c/\if c=true then tb σ H1 Q else Q (.bl false) H1
noncomputable def Nk (ta:TE):TE:=fun σ H Q=>ta σ H λx H1=>∃c,x= .bl c/\Q (.bl (!c)) H1
theorem pj {op} {t:TE} (h:PE X a t):PE X (.BoolOp op [a] pos) t:=λpins s σ H Q I hw=>BoolOp_one (h pins s σ H Q I hw)
theorem nT (ha:PE X a ta) (hb:PE X (.BoolOp .And (b::rest) pos) tb):PE X (.BoolOp .And (a::b::rest) pos) (Nu ta tb):=by
 intro pins s σ H Q I h;refine BoolOp_and (thn (ha pins s σ H _ I h) λv O ⟨x,H1,L,Y,G⟩=>?_);obtain⟨c,rfl,G⟩:=G;cases Y;refine wpAny_truthy_bool ?_;cases c with
 | true=>exact hb pins O σ H1 Q L G
 | false=>exact⟨.bl false,H1,L,rfl,G⟩
theorem OC (ha:PE X a ta):PE X (.UnaryOp .Not a pos) (Nk ta):=by
 intro pins s σ H Q I h;refine UnaryOp_ (thn (ha pins s σ H _ I h) λv Y ⟨x,H1,O,L,G⟩=>?_);obtain⟨c,rfl,G⟩:=G;cases L;exact not_of (wpAny_truthy_bool ⟨.bl (!c),H1,O,rfl,G⟩)
noncomputable def tIf (t:TT) (ta tb:TE):TE:=fun σ H Q=>t σ H λc H1=>if c=true then ta σ H1 Q else tb σ H1 Q
theorem BK {c:Expr} (hc:PT X c tA) (ha:PE X a ta) (hb:PE X b tb):PE X (.IfExp c a b pos) (tIf tA ta tb):=by
 intro pins s σ H Q I h;refine wpAny_IfExp (thn (hc pins s σ H _ I h) λd G ⟨H1,O,L⟩=>?_);cases d with
 | true=>exact ha pins G σ H1 Q O L
 | false=>exact hb pins G σ H1 Q O L
end
def SqL (K:PySem.W.Frag) (H:Hp) (a:Addr) (xs:List V):Prop:=
 Rd H a (.lst xs)∨
  ∃(o:Obj) (its:Array Value) (n:Nat),K.lookup a=some o/\o.cls= .type "list"/\o.dict=none/\o.data= .seq its n/\its.size<=sizeLine/\Vals xs its.toList
def SqT (K:PySem.W.Frag) (H:Hp) (a:Addr) (xs:List V):Prop:=
 Rd H a (.tup xs)∨
  ∃(o:Obj) (its:Array Value) (n:Nat),K.lookup a=some o/\o.cls= .type "tuple"/\o.data= .seq its n/\its.size<=sizeLine/\Vals xs its.toList
noncomputable def absV:Value->Option V
 | .none=>some .non
 | .bool b=>some (.bl b)
 | .int i _=>some (.int i)
 | .str x _=>some (.str x)
 | .bytes b _=>some (.byt b)
 | .float b _=>some (.flt b)
 | .ref a=>some (.ref a)
 | .type n=>some (.ty n)
 | _=>none
theorem RelV.abs {x:V} {u:Value} (r:RelV x u):absV u=some x:=by
 cases x with
 | non=>cases r;rfl
 | bl _=>cases r;rfl
 | int _=>obtain⟨t,rfl⟩:=r;rfl
 | str _=>obtain⟨t,rfl⟩:=r;rfl
 | byt _=>obtain⟨t,rfl⟩:=r;rfl
 | flt _=>obtain⟨t,rfl⟩:=r;rfl
 | ref _=>cases r;rfl
 | ty _=>cases r;rfl
theorem RelV.inj {x y:V} {u:Value} (r:RelV x u) (q:RelV y u):x=y:=Option.some.inj (r.abs.symm.trans q.abs)
theorem Vals.inj:∀{xs ys:List V} {us:List Value},Vals xs us->Vals ys us->xs=ys
 | _,_,_,.nil,.nil=>rfl
 | _,_,_,.cons r t,.cons r' t'=>by rw[r.inj r',Vals.inj t t']
section
variable {X:Cx} {pins:List (Addr×Obj)} {σ:St} {H:Hp} {s:Shared} {a:Addr} {xs ys:List V}
theorem SqL.of {K:PySem.W.Frag} (h:H a=some (.lst xs)):SqL K H a xs:= .inl (.inl h)
theorem SqT.of {K:PySem.W.Frag} (h:H a=some (.tup xs)):SqT K H a xs:= .inl (.inl h)
theorem Inv.list (I:Inv X pins σ H s) (h:SqL X.K H a xs):∃its:List Value,Vals xs its/\PlainL s.heap a its.toArray/\xs.length<=sizeLine:=by
 rcases h with h | ⟨o,its,n,hk,G,hd,hs,hz,r⟩
 ·obtain⟨z,its,n,r,e⟩:=h.ok I.hok;exact⟨its,r,⟨_,n,e,rfl,rfl,rfl⟩,z⟩
 ·refine⟨its.toList,r,⟨o,n,I.kIn a o hk,G,hd,by simpa using hs⟩,?_⟩;have e:=r.length;simp only[Array.length_toList] at e;omega
theorem Inv.tuple (I:Inv X pins σ H s) (h:SqT X.K H a xs):∃its:List Value,Vals xs its/\IsTup s.heap a its.toArray/\xs.length<=sizeLine:=by
 rcases h with h | ⟨o,its,n,hk,G,hs,hz,r⟩
 ·obtain⟨z,its,r,p⟩:=h.ok I.hok;exact⟨its,r,p,z⟩
 ·refine⟨its.toList,r,⟨o,I.kIn a o hk,G,n,by simpa using hs⟩,?_⟩;have e:=r.length;simp only[Array.length_toList] at e;omega
theorem Inv.list_inj (I:Inv X pins σ H s) (h:SqL X.K H a xs) (h':SqL X.K H a ys):xs=ys:=by
 obtain⟨its,r,⟨o,n,e,_,_,d⟩,_⟩:=I.list h;obtain⟨its',r',⟨o',O,G,_,_,d'⟩,_⟩:=I.list h';rw[e] at G;cases G;rw[d] at d';injection d' with L _
 have:its=its':=by simpa using congrArg Array.toList L
 subst this;exact r.inj r'
theorem Inv.tuple_inj (I:Inv X pins σ H s) (h:SqT X.K H a xs) (h':SqT X.K H a ys):xs=ys:=by
 obtain⟨its,r,⟨o,e,_,n,d⟩,_⟩:=I.tuple h;obtain⟨its',r',⟨o',G,_,O,d'⟩,_⟩:=I.tuple h';rw[e] at G;cases G;rw[d] at d';injection d' with L _
 have:its=its':=by simpa using congrArg Array.toList L
 subst this;exact r.inj r'
end
noncomputable abbrev Cx.wish (X:Cx) (E:Value->Shared->Prop):Cx:={X with xe:=E}
noncomputable abbrev Cx.nox (X:Cx):Cx:=X.wish λ_ _=>False
theorem Cx.Ok.wish {X:Cx} (ok:X.Ok) (E:Value->Shared->Prop):(X.wish E).Ok:=
 ⟨ok.mod,ok.kind,ok.glob,ok.blt,ok.above,ok.inj,ok.has,ok.cab,ok.hd,ok.frames,ok.stk,ok.exf,ok.bs,ok.bsz,ok.noex,ok.exfs,ok.funs,ok.frf⟩
theorem Cx.Ok.unwish {X:Cx} {E:Value->Shared->Prop} (ok:(X.wish E).Ok):X.Ok:=
 ⟨ok.mod,ok.kind,ok.glob,ok.blt,ok.above,ok.inj,ok.has,ok.cab,ok.hd,ok.frames,ok.stk,ok.exf,ok.bs,ok.bsz,ok.noex,ok.exfs,ok.funs,ok.frf⟩
section
variable {X:Cx} {pins:List (Addr×Obj)} {σ:St} {H:Hp} {s:Shared} {E:Value->Shared->Prop}
theorem Inv.wish (I:Inv X pins σ H s) (E:Value->Shared->Prop):Inv (X.wish E) pins σ H s:=⟨I.ok.wish E,I.os,I.bare,I.base,I.loc,I.cell,I.free,I.freeC,I.pin,I.hok,I.len⟩
theorem Inv.unwish (I:Inv (X.wish E) pins σ H s):Inv X pins σ H s:=⟨I.ok.unwish,I.os,I.bare,I.base,I.loc,I.cell,I.free,I.freeC,I.pin,I.hok,I.len⟩
theorem SP.unwish {D:Ends} {f:Flow} {s':Shared} (h:SP (X.wish E) pins D f s'):SP X pins D f s':=by
 cases f with
 | next=>obtain⟨σ',H',I,q⟩:=h;exact⟨σ',H',I.unwish,q⟩
 | brk=>obtain⟨σ',H',I,q⟩:=h;exact⟨σ',H',I.unwish,q⟩
 | cont=>obtain⟨σ',H',I,q⟩:=h;exact⟨σ',H',I.unwish,q⟩
 | ret u=>obtain⟨v,σ',H',I,r,q⟩:=h;exact⟨v,σ',H',I.unwish,r,q⟩
theorem PSs.nox {st:List Stmt} {t:TS} (h:PSs X.nox st t):PSs X st t:=λpins s σ H D I hw=>
 wpAny_mono (h pins s σ H D (I.wish _) hw) (λ_ _ q=>q.unwish) λ_ _ z=>False.elim z
end
section
variable {X:Cx} {st:Stmt} {rest:List Stmt} {t u:TS} {e:Expr} {te:TE} {pos:Pos}
noncomputable def Nl:TS:=λD σ H=>D.nx σ H
noncomputable def tSeq (t u:TS):TS:=λD σ H=>t {D with nx:=u D} σ H
theorem aV:PSs X [] Nl:=λ_ _ σ H _ I h=>wpAny_execs_nil ⟨σ,H,I,h⟩
theorem af (h1:PS X st t) (h2:PSs X rest u):PSs X (st::rest) (tSeq t u):=by
 intro pins s σ H D I h;refine wpAny_execs_cons (thn (h1 pins s σ H {D with nx:=u D} I h) λf G q=>?_);cases f with
 | next=>
   obtain⟨σ',H',L,q⟩:=q;exact h2 pins G σ' H' D L q
 | ret v=>exact q
 | brk=>exact q
 | cont=>exact q
theorem ai (h1:PS X st t):PSs X [st] t:=by
 intro pins s σ H D I h;refine wpAny_execs_cons (thn (h1 pins s σ H D I h) λf G q=>?_);cases f with
 | next=>exact wpAny_execs_nil q
 | ret v=>exact q
 | brk=>exact q
 | cont=>exact q
theorem Inv.quiet {pins:List (Addr×Obj)} {σ:St} {H:Hp} {s:Shared} (I:Inv X pins σ H s):interactive X.env=false:=by simp[interactive,I.ok.kind]
noncomputable def Np (te:TE):TS:=λD σ H=>te σ H λ_ H1=>D.nx σ H1
theorem be (he:PE X e te) (hs:swapsWith e none pos.line X.env=pure false:=by rfl):PS X (.Expr e pos) (Np te):=by
 intro pins s σ H D I h;exact wpAny_Expr_any (thn (he pins s σ H _ I h) λv O ⟨x,H1,L,Y,G⟩=>⟨σ,H1,L,G⟩) I.quiet hs
noncomputable def tRet (te:TE):TS:=λD σ H=>te σ H D.rt
theorem aB (he:PE X e te):PS X (.Return (some e) pos) (tRet te):=by
 intro pins s σ H D I h;exact wpAny_Return_some (thn (he pins s σ H _ I h) λv Y ⟨x,H1,O,G,L⟩=>⟨x,σ,H1,O,G,L⟩)
noncomputable def tIfS (c:TT) (t u:TS):TS:=λD σ H=>c σ H λb H1=>if b=true then t D σ H1 else u D σ H1
theorem cG {c:Expr} {a b:List Stmt} {tc:TT} (hc:PT X c tc) (ha:PSs X a t) (hb:PSs X b u):PS X (.If c a b pos) (tIfS tc t u):=by
 intro pins s σ H D I h;refine wpAny_If (thn (hc pins s σ H _ I h) λd G ⟨H1,O,L⟩=>?_);cases d with
 | true=>exact ha pins G σ H1 D O L
 | false=>exact hb pins G σ H1 D O L
end
noncomputable abbrev TG:=V->St->Hp->(St->Hp->Prop)->Prop
noncomputable abbrev TGs:=List V->St->Hp->(St->Hp->Prop)->Prop
def PG (X:Cx) (G:Expr) (t:TG):Prop:=
 ∀(pins:List (Addr×Obj)) (s:Shared) (σ:St) (H:Hp) (v:V) (u:Value) (Q:St->Hp->Prop),Inv X pins σ H s->RelV v u->t v σ H Q->
  wpAny (model X.prog X.w) X.A (assign G X.env u) (λ_ s'=>∃σ' H',Inv X pins σ' H' s'/\Q σ' H') X.xe s
def PGs (X:Cx) (ts:List Expr) (t:TGs):Prop:=
 ∀(pins:List (Addr×Obj)) (s:Shared) (σ:St) (H:Hp) (vs:List V) (us:List Value) (Q:St->Hp->Prop),Inv X pins σ H s->Vals vs us->t vs σ H Q->
  wpAny (model X.prog X.w) X.A (assignInOrder ((assignEach ts X.env).map (·.2)) us) (λ_ s'=>∃σ' H',Inv X pins σ' H' s'/\Q σ' H') X.xe s
section
variable {X:Cx} {pos:Pos}
noncomputable def G3 (i:Nat):TG:=λv σ H Q=>Q (σ.set i (some v)) H
theorem aw {i:Nat} {x:Str} (G:X.N.Nodup) (hi:X.N[i]? =some x) (hx:Loc X.env.scope x) (hf:X.fn x=true∨X.env.scope.names.lookup x=some .local:=by first | exact .inl rfl | exact .inr rfl | assumption):PG X (.Name x pos) (G3 i):=by
 intro pins s σ H v u Q I r h;exact wpAny_assign_Name (Bw I G hi hx r (λs' L=>⟨_,H,L,h⟩) hf)
noncomputable def gNil:TGs:=λvs σ H Q=>vs=[]/\Q σ H
noncomputable def MC (t:TG) (u:TGs):TGs:=λvs σ H Q=>∃v r,vs=v::r/\t v σ H fun σ' H'=>u r σ' H' Q
theorem mn:PGs X [] gNil:=by
 intro pins s σ H vs us Q I r h;obtain⟨e,h⟩:=h;subst e;cases r;exact assignInOrder_nil ⟨σ,H,I,h⟩
theorem dm {e:Expr} {es:List Expr} {t:TG} {u:TGs} (h1:PG X e t) (h2:PGs X es u)
  (hs:(assignEach (e::es) X.env).map (·.2)=assign e X.env::(assignEach es X.env).map (·.2):=by rfl):PGs X (e::es) (MC t u):=by
 intro pins s σ H vs us Q I r h;obtain⟨v,β,Z,h⟩:=h;subst Z;cases r with
 | cons r O=>
   rw[hs];refine assignInOrder_cons (thn (h1 pins s σ H _ _ _ I r h) λ_ L ⟨G,H1,α,Y⟩=>?_);exact h2 pins L G H1 _ _ Q α O Y
noncomputable def gTup (K:PySem.W.Frag) (n:Nat) (t:TGs):TG:=λv σ H Q=>∃a xs,v= .ref a/\SqT K H a xs/\xs.length=n/\t xs σ H Q
theorem yN {es:List Expr} {k:Nat} {t:TGs} {n:Nat} (hc:X.calm=true) (h:PGs X es t)
  (hn:(assignEach es X.env).length=n:=by rfl) (G:(assignEach es X.env).findIdx? (·.1)=none:=by rfl):PG X (.Tuple es k pos) (gTup X.K n t):=by
 intro pins s σ H v u Q I r hw;obtain⟨a,xs,Z,Y,hl,hw⟩:=hw;subst Z;cases r;obtain⟨its,L,ht,hz⟩:=I.tuple Y;refine assign_Tuple_tuple (I.ok.hd hc) ht (by simp[hn,<-hl,L.length]) G λh' O=>?_;have α:Inv X pins σ H {s with heap:=h'}:=I.kept (t':=s.toks) λb o e=>O b o (ne_of_lt (Heap.lt_size e)) e;exact h pins _ σ H xs _ Q α (by simpa using L) hw
noncomputable def tAsg (te:TE) (g:TG):TS:=λD σ H=>te σ H λx H1=>g x σ H1 D.nx
theorem aA {i:Nat} {x:Str} {e:Expr} {te:TE} {pos':Pos} (O:X.N.Nodup) (hi:X.N[i]? =some x) (hx:Loc X.env.scope x) (he:PE X e te) (hs:swapsWith e (some (.Name x pos')) pos.line X.env=pure false:=by rfl) (hf:X.fn x=true∨X.env.scope.names.lookup x=some .local:=by first | exact .inl rfl | exact .inr rfl | assumption):
  PS X (.Assign [.Name x pos'] e pos) (tAsg te (G3 i)):=by
 intro pins s σ H D I h;refine wpAny_Assign_Name (thn (he pins s σ H _ I h) λv β ⟨y,H1,Z,G,L⟩=>?_) hs;exact Bw Z O hi hx G (fun α Y=>⟨_,H1,Y,L⟩) hf
end
section
variable {X:Cx} {pos:Pos}
noncomputable def Nh (c:TT) (tb:TS):TS:=λD σ H=>∃W:Nat->St->Hp->Prop,(∃m,W m σ H)/\∀m σ H,W m σ H->
 c σ H λb H1=>if b=true then ∃N:St->Hp->Prop,(∀σ' H',N σ' H'->∃G,G < m/\W G σ' H')/\tb {D with nx:=N,ct:=N,bk:=D.nx} σ H1 else D.nx σ H1
theorem pf {c:Expr} {O:List Stmt} {tc:TT} {tb:TS} (η:PassesOwn (model X.prog X.w) X.A X.env X.xe) (hc:PT X c tc) (hb:PSs X O tb):PS X (.While c O [] pos) (Nh tc tb):=by
 intro pins s σ H D I h;obtain⟨W,⟨π,w0⟩,Y⟩:=h;refine wpAny_While (codeAny_whileLoop (λn s'=>∃σ' H',Inv X pins σ' H' s'/\W n σ' H') ?_ π ⟨σ,H,I,w0⟩);rintro n ο ⟨L,H1,ρ,ν⟩;refine wpAny_passesOwn η (thn (hc pins ο L H1 _ ρ (Y n L H1 ν)) λb ξ ⟨H2,ι,β⟩=>?_);cases b with
 | true=>
   obtain⟨N,θ,β⟩:=β;rw[if_pos rfl];refine wpAny_passesOwn η (thn (hb pins ξ L H2 _ ι β) λf τ α=>?_);cases f with
   | next=>
     obtain⟨G,Z,ζ,δ⟩:=α;obtain⟨ε,hm,γ⟩:=θ G Z δ;exact⟨ε,hm,G,Z,ζ,γ⟩
   | cont=>
     obtain⟨G,Z,ζ,δ⟩:=α;obtain⟨ε,hm,γ⟩:=θ G Z δ;exact⟨ε,hm,G,Z,ζ,γ⟩
   | brk=>exact α
   | ret v=>exact α
 | false=>
   rw[if_neg Bool.false_ne_true];exact wpAny_execs_nil ⟨L,H2,ι,β⟩
end
structure It where
 go:Nat->Hp->Prop
 yld:Nat->Hp->V->Hp->Prop
 stop:Nat->Hp->Prop
def FpOk (X:Cx) (pins:List (Addr×Obj)) (H:Hp) (b:Addr):Prop:=
 H b=none/\b≠X.env.locals/\b∉X.fs/\(b∈X.ex∨X.s₀.heap.objs.size<=b)/\(∀x c,X.env.cells.lookup x=some c->c≠b)/\∀p∈X.pn++pins,p.1≠b
theorem Inv.fpOk {X:Cx} {pins:List (Addr×Obj)} {σ:St} {H H':Hp} {s:Shared} {b:Addr} (I:Inv X pins σ H s) (hb:s.heap.objs.size<=b) (hn:H' b=none):FpOk X pins H' b:=by
 refine⟨hn,ne_of_gt (lt_of_lt_of_le I.lt hb),I.nofs hb,.inr (le_trans I.sz hb),λx c e z=>?_,λp G z=>?_⟩
 ·obtain⟨v,q⟩:=I.cell x c e;exact absurd (lt_of_lt_of_le q.lt (by rw[z];exact hb)) (lt_irrefl _)
 ·exact absurd (lt_of_lt_of_le (Heap.lt_size (I.pin p G).1) (by rw[z];exact hb)) (lt_irrefl _)
structure Turn (P:Program) (w:World) (K:PySem.W.Frag) (tg:Expr) (J:It) (fp:List Addr) (it:Addr) (tn:Nat->Heap->Prop):Prop where
 mem:it∈fp
 obj:∀i h,tn i h->∀b∈fp,∃o,h.get? b=some o/\∀v,o.data≠.cell v
 keep:∀i h h',tn i h->(∀b∈fp,∀o,h.get? b=some o->h'.get? b=some o)->tn i h'
 item:∀(X:Cx),X.prog=P->X.w=w->X.K=K->X.calm=true->∀(i:Nat) (pins:List (Addr×Obj)) (s:Shared) (σ:St) (H:Hp) (E:Value->Shared->Prop),Inv X pins σ H s->(∀b∈fp,FpOk X pins H b)->tn i s.heap->J.go i H->
  wpAny (model P w) X.A (pyNext (.ref it)) (λr s1=>∃u,r=some u/\
   wpAny (model P w) X.A (letOwnedTupleGo tg (.ref it) u) (λ_ s2=>∃x H',Inv X pins σ H' s2/\RelV x u/\J.yld i H x H'/\tn (i + 1) s2.heap/\∀b∈fp,H' b=none) E s1) E s
 done:∀(X:Cx),X.prog=P->X.w=w->X.K=K->X.calm=true->∀(i:Nat) (pins:List (Addr×Obj)) (s:Shared) (σ:St) (H:Hp) (E:Value->Shared->Prop),Inv X pins σ H s->(∀b∈fp,FpOk X pins H b)->tn i s.heap->J.stop i H->
  wpAny (model P w) X.A (pyNext (.ref it)) (λr s1=>r=none/\Inv X pins σ H s1) E s
 self:∀(A:Around) (i:Nat) (s:Shared) (Q:Value->Shared->Prop) (E:Value->Shared->Prop),tn i s.heap->Q (.ref it) s->wpAny (model P w) A (pyIter (.ref it)) Q E s
noncomputable abbrev TI:=St->Hp->(It->Hp->Prop)->Prop
def PIE (X:Cx) (pins:List (Addr×Obj)) (σ:St) (tg:Expr) (R:It->Hp->Prop) (G:Value) (O:Shared):Prop:=
 ∃(Y:Addr) (fp:List Addr) (L:Nat->Heap->Prop) (J:It) (H':Hp),G= .ref Y/\Inv X pins σ H' O/\Turn X.prog X.w X.K tg J fp Y L/\L 0 O.heap/\(∀b∈fp,FpOk X pins H' b)/\R J H'
def PI (X:Cx) (tg iter:Expr) (G:TI):Prop:=
 ∀(pins:List (Addr×Obj)) (s:Shared) (σ:St) (H:Hp) (R:It->Hp->Prop),Inv X pins σ H s->G σ H R->
  wpAny (model X.prog X.w) X.A (eval iter X.env) (λv L=>wpAny (model X.prog X.w) X.A (pyIter v) (PIE X pins σ tg R) X.xe L) X.xe s
theorem JJ {M:Model} {A:Around} {E:Value->Shared->Prop} {s:Shared} {tg:Expr} {L:Addr} {u:Value} {o:Obj} {n:String} {vs:Array Value} {Q:Unit->Shared->Prop} (ho:s.heap.get? L=some o) (hc:o.cls= .type n) (hd:o.data= .fields vs)
  (hn:["enumerate","zip","dict_itemiterator","dict_reverseitemiterator","odict_iterator","itertools.zip_longest","itertools.pairwise"].contains n=false) (G:Q () s):wpAny M A (letOwnedTupleGo tg (.ref L) u) Q E s:=by
 unfold letOwnedTupleGo
 cases tg<;>first
  | exact wpAny_pure G
  | (cases u<;>first
    | exact wpAny_pure G
    | (refine wpAny_bind (wpAny_load ho ?_)
       rw[hc,hd];show wpAny M A (if (["enumerate","zip","dict_itemiterator","dict_reverseitemiterator","odict_iterator","itertools.zip_longest","itertools.pairwise"].contains n&&vs[0]? == some (rawInt _))=true then _ else _) Q E s;rw[if_neg (by intro h;rw[hn,Bool.false_and] at h;cases h)];exact wpAny_pure G))
noncomputable def Itl (K:PySem.W.Frag) (a:Addr):It:=
 ⟨λi H=>∃xs x,SqL K H a xs/\xs[i]? =some x,λi H x H'=>H'=H/\∀xs,SqL K H a xs->xs[i]? =some x,λi H=>∃xs,SqL K H a xs/\xs.length<=i⟩
noncomputable def Itt (K:PySem.W.Frag) (a:Addr):It:=
 ⟨λi H=>∃xs x,SqT K H a xs/\xs[i]? =some x,λi H x H'=>H'=H/\∀xs,SqT K H a xs->xs[i]? =some x,λi H=>∃xs,SqT K H a xs/\xs.length<=i⟩
noncomputable def Itr (lo:Int) (n:Nat):It:=⟨λi _=>i < n,λi H x H'=>H'=H/\x= .int (lo + i),λi _=>n<=i⟩
theorem yB {P:Program} {w:World} {K:PySem.W.Frag} {tg:Expr} (a G:Addr):Turn P w K tg (Itl K a) [G] G (λi h=>h.IsListIter G a i) where
 mem:=by simp
 obj:=λi h st b hb=>by
  have e:b=G:=by simpa using hb
  subst e;obtain⟨o,e,c,d⟩:=st;exact⟨o,e,λv z=>by rw[d] at z;cases z⟩
 keep:=λi h h' st k=>st.at λo e=>k G (by simp) o e
 item:=by
  intro X β hw γ ι i pins s σ H E I hf st α;subst β hw γ;obtain⟨xs,x,O,Z⟩:=α;obtain⟨its,Y,p,hz⟩:=I.list O;obtain⟨u,π,ξ⟩:=Y.get Z;obtain⟨θ,η,ρ,ζ,ε,δ⟩:=hf G (by simp);refine wpAny_pyNext_list_item st p.isList (x:=u) (by simpa using π) λh' L ν=>?_;have υ:Inv X pins σ H {s with heap:=h'}:=I.turned (t':=s.toks) (λb o hb e=>(ν.2 b hb).trans e) θ η ζ ε δ;obtain⟨o,e,c,d⟩:=id L;exact⟨u,rfl,JJ (s:={s with heap:=h'}) e c d (by decide) ⟨x,H,υ,ξ,⟨rfl,λys ο=>by rw[I.list_inj ο O];exact Z⟩,L,λb hb=>(hf b hb).1⟩⟩
 done:=by
  intro X β hw γ ι i pins s σ H E I hf st α;subst β hw γ;obtain⟨xs,O,Z⟩:=α;obtain⟨its,Y,p,hz⟩:=I.list O;obtain⟨θ,η,ρ,ζ,ε,δ⟩:=hf G (by simp);have hl:=Y.length;exact wpAny_pyNext_list_end (I.ok.hd ι) st p.isList (by simp;omega) λh' τ=>⟨rfl,I.turned (t':=s.toks) (λb o hb e=>τ b o hb e) θ η ζ ε δ⟩
 self:=λ_ _ _ _ _ st h=>wpAny_pyIter_listiter st h
theorem wy {P:Program} {w:World} {K:PySem.W.Frag} {tg:Expr} (a G:Addr):Turn P w K tg (Itt K a) [G] G (λi h=>h.IsTupleIter G a i) where
 mem:=by simp
 obj:=λi h st b hb=>by
  have e:b=G:=by simpa using hb
  subst e;obtain⟨o,e,c,d⟩:=st;exact⟨o,e,λv z=>by rw[d] at z;cases z⟩
 keep:=λi h h' st k=>st.at λo e=>k G (by simp) o e
 item:=by
  intro X β hw γ ι i pins s σ H E I hf st α;subst β hw γ;obtain⟨xs,x,O,Z⟩:=α;obtain⟨its,Y,p,hz⟩:=I.tuple O;obtain⟨u,π,ξ⟩:=Y.get Z;obtain⟨θ,η,ρ,ζ,ε,δ⟩:=hf G (by simp);refine wpAny_pyNext_tuple_item st (show s.heap.IsTuple a its.toArray from p) (x:=u) (by simpa using π) λh' L ν=>?_;have υ:Inv X pins σ H {s with heap:=h'}:=I.turned (t':=s.toks) (λb o hb e=>(ν.2 b hb).trans e) θ η ζ ε δ;obtain⟨o,e,c,d⟩:=id L;exact⟨u,rfl,JJ (s:={s with heap:=h'}) e c d (by decide) ⟨x,H,υ,ξ,⟨rfl,λys ο=>by rw[I.tuple_inj ο O];exact Z⟩,L,λb hb=>(hf b hb).1⟩⟩
 done:=by
  intro X β hw γ ι i pins s σ H E I hf st α;subst β hw γ;obtain⟨xs,O,Z⟩:=α;obtain⟨its,Y,p,hz⟩:=I.tuple O;obtain⟨θ,η,ρ,ζ,ε,δ⟩:=hf G (by simp);have hl:=Y.length;exact wpAny_pyNext_tuple_end (I.ok.hd ι) st (show s.heap.IsTuple a its.toArray from p) (by simp;omega) λh' τ=>⟨rfl,I.turned (t':=s.toks) (λb o hb e=>τ b o hb e) θ η ζ ε δ⟩
 self:=λ_ _ _ _ _ st h=>wpAny_pyIter_tupleiter st h
theorem Cm {P:Program} {w:World} {K:PySem.W.Frag} {tg:Expr} (G:Addr) (lo:Int) (n:Nat):Turn P w K tg (Itr lo n) [G] G (λi h=>IsRangeIter h G (lo + (i:Nat) * 1) ((n:Int) - (i:Nat)) 1) where
 mem:=by simp
 obj:=λi h st b hb=>by
  have e:b=G:=by simpa using hb
  subst e
  exact⟨_,st,λv z=>by
   have η:Data.fields _=Data.cell v:=z;cases η⟩
 keep:=λi h h' st k=>k G (by simp) _ st
 item:=by
  intro X Z hw α Y i pins s σ H E I hf st O;subst Z hw α;obtain⟨ζ,ε,ν,δ,γ,β⟩:=hf G (by simp);have W:=Walks.range (prog:=X.prog) (w:=X.w) (I.ok.hd Y) G lo 1 n;refine W.item i s _ _ O st λv h' tk ι L θ=>?_;obtain⟨t,rfl⟩:=ι;have ο:Inv X pins σ H {s with heap:=h',toks:=tk}:=I.turned (λb o hb e=>θ b o (by simpa using hb) e) ζ ε δ γ β;refine⟨_,rfl,JJ (s:={s with heap:=h',toks:=tk}) (n:="range_iterator") L rfl rfl (by decide) ⟨.int (lo + i),H,ο,⟨t,?_⟩,⟨rfl,rfl⟩,L,λb hb=>(hf b hb).1⟩⟩;rw[Int.mul_one]
 done:=by
  intro X Z hw α Y i pins s σ H E I hf st O;subst Z hw α;obtain⟨ζ,ε,ν,δ,γ,β⟩:=hf G (by simp);exact wpAny_pyNext_range_end (I.ok.hd Y) st (by have:n<=i:=O;omega) λh' ξ=>⟨rfl,I.turned (t':=s.toks) (λb o hb e=>ξ b o hb e) ζ ε δ γ β⟩
 self:=λ_ _ _ _ _ st h=>wpAny_pyIter_rangeiter st h
section
variable {X:Cx} {tg:Expr}
noncomputable def Mw (K:PySem.W.Frag) (tl:TE):TI:=fun σ H R=>tl σ H λx H1=>∃a,x= .ref a/\(∃xs,SqL K H1 a xs)/\R (Itl K a) H1
noncomputable def iTup (K:PySem.W.Frag) (tl:TE):TI:=fun σ H R=>tl σ H λx H1=>∃a,x= .ref a/\(∃xs,SqT K H1 a xs)/\R (Itt K a) H1
theorem L7 {l:Expr} {tl:TE} (hl:PE X l tl):PI X tg l (Mw X.K tl):=by
 intro pins s σ H R I h;refine thn (hl pins s σ H _ I h) λv G ⟨x,H1,I1,L,O⟩=>?_;obtain⟨a,e,⟨xs,Y⟩,q⟩:=O;subst e;cases L;obtain⟨its,Z,p,hz⟩:=I1.list Y;refine wpAny_pyIter_list p.isList ?_;refine⟨G.heap.objs.size,[G.heap.objs.size],_,_,H1,rfl,I1.kept (t':=G.toks) λb o e=>Heap.get?_push_of_some _ e,yB a _,⟨_,Heap.get?_push_size _ rfl,rfl,rfl⟩,λb hb=>?_,q⟩;have e:b=G.heap.objs.size:=by simpa using hb
 subst e;exact I1.fpOk (le_refl _) (I1.hok.fresh (le_refl _))
theorem Oz {l:Expr} {tl:TE} (hl:PE X l tl):PI X tg l (iTup X.K tl):=by
 intro pins s σ H R I h;refine thn (hl pins s σ H _ I h) λv G ⟨x,H1,I1,L,O⟩=>?_;obtain⟨a,e,⟨xs,Y⟩,q⟩:=O;subst e;cases L;obtain⟨its,Z,p,hz⟩:=I1.tuple Y;refine wpAny_pyIter_tuple (show G.heap.IsTuple a its.toArray from p) ?_;refine⟨G.heap.objs.size,[G.heap.objs.size],_,_,H1,rfl,I1.kept (t':=G.toks) λb o e=>Heap.get?_push_of_some _ e,wy a _,⟨_,Heap.get?_push_size _ rfl,rfl,rfl⟩,λb hb=>?_,q⟩;have e:b=G.heap.objs.size:=by simpa using hb
 subst e;exact I1.fpOk (le_refl _) (I1.hok.fresh (le_refl _))
theorem Jp {pins:List (Addr×Obj)} {σ:St} {H:Hp} {s:Shared} {R:It->Hp->Prop} {E:Value->Shared->Prop} {lo hi:Int} {t u v:Tok} {tk:Nat} (I:Inv X pins σ H s) (h1: -(2 ^ 62)<=lo) (h2:lo < 2 ^ 62) (L: -(2 ^ 62)<=hi) (G:hi < 2 ^ 62)
  (q:R (Itr lo (hi - lo).toNat) H):wpAny (model X.prog X.w) X.A (pyIter (.ref s.heap.objs.size)) (PIE X pins σ tg R) E {s with heap:=s.heap.push {cls:= .type "range",data:= .fields #[.int lo t,.int hi u,.int 1 v]},toks:=tk}:=by
 refine wpAny_pyIter_range (IsRange.new ..) (small_one h1 h2 L G) ?_;have I1:Inv X pins σ H {s with heap:=s.heap.push {cls:= .type "range",data:= .fields #[.int lo t,.int hi u,.int 1 v]},toks:=tk}:=I.kept λb o e=>Heap.get?_push_of_some _ e
 refine⟨(s.heap.push {cls:= .type "range",data:= .fields #[.int lo t,.int hi u,.int 1 v]}).objs.size,[(s.heap.push {cls:= .type "range",data:= .fields #[.int lo t,.int hi u,.int 1 v]}).objs.size],_,_,H,rfl,
  I1.kept (t':=tk) λb o e=>Heap.get?_push_of_some _ e,Cm _ lo (hi - lo).toNat,?_,λb hb=>?_,q⟩
 ·have Y:lo + ((0:Nat):Int) * 1=lo:=by simp
  have O:(((hi - lo).toNat:Nat):Int) - ((0:Nat):Int)=Builtin.Range.rangeSize lo hi 1:=by rw[rangeSize_one];split<;>omega
  show IsRangeIter _ _ (lo + ((0:Nat):Int) * 1) ((((hi - lo).toNat:Nat):Int) - ((0:Nat):Int)) 1;rw[Y,O];exact Heap.get?_push_size _ rfl
 ·have e:b=(s.heap.push {cls:= .type "range",data:= .fields #[.int lo t,.int hi u,.int 1 v]}).objs.size:=by simpa using hb
  subst e;exact I1.fpOk (le_refl _) (I1.hok.fresh (le_refl _))
noncomputable def O9 (ta:TA):TI:=fun σ H R=>ta σ H λvs H1=>∃j:Int,vs=[.int j]/\-(2 ^ 62)<=j/\j < 2 ^ 62/\R (Itr 0 j.toNat) H1
theorem cV {a:Expr} {ta:TA} {p pos:Pos} (Z:Gl X "range") (hm:X.mg "range"=none) (ha:PA X [a] ta) (hs:starEach [a] X.env=[(false,eval a X.env)]:=by rfl):PI X tg (.Call (.Name "range" p) [a] [] pos) (O9 ta):=by
 intro pins s σ H R I h;refine Call_ (rG I Z hm boot_range (PyProof.Rows.callWith_type1 (thn (ha pos pins s σ H _ I h) λus β ⟨vs,H1,α,O,G⟩=>?_) hs rfl));obtain⟨j,e,G,Y,q⟩:=G;subst e;cases O with
 | cons r L=>
   cases L;obtain⟨t,rfl⟩:=r;exact call_range_1 (Jp α (by omega) (by omega) G Y (by simpa using q))
noncomputable def tFor (O:TI) (g:TG) (tb:TS):TS:=λD σ H=>O σ H λJ H1=>∃W:Nat->Nat->St->Hp->Prop,(∃m,W 0 m σ H1)/\∀i m σ H,W i m σ H->
 (J.stop i H/\D.nx σ H)∨(J.go i H/\∃N:St->Hp->Prop,(∀σ' H',N σ' H'->∃L,L < m/\W (i + 1) L σ' H')/\∀x H',J.yld i H x H'->g x σ H' λG H2=>tb {D with nx:=N,ct:=N,bk:=D.nx} G H2)
noncomputable def yM (fp:List Addr) (h:Heap):List (Addr×Obj):=fp.filterMap λb=>(h.get? b).map λo=>(b,o)
theorem m7 {fp:List Addr} {h:Heap} {b:Addr} {o:Obj} (hb:b∈fp) (e:h.get? b=some o):(b,o)∈yM fp h:=List.mem_filterMap.mpr ⟨b,hb,by rw[e];rfl⟩
theorem Ge {fp:List Addr} {h:Heap} {p:Addr×Obj} (G:p∈yM fp h):p.1∈fp/\h.get? p.1=some p.2:=by
 obtain⟨b,hb,e⟩:=List.mem_filterMap.mp G;cases q:h.get? b with
 | none=>rw[q] at e;cases e
 | some o=>
   rw[q] at e;have L:(b,o)=p:=Option.some.inj e;subst L;exact⟨hb,q⟩
theorem Inv.pinned {pins:List (Addr×Obj)} {σ:St} {H:Hp} {s:Shared} {fp:List Addr} (I:Inv X pins σ H s) (hf:∀b∈fp,FpOk X pins H b) (ho:∀b∈fp,∃o,s.heap.get? b=some o/\∀v,o.data≠.cell v):Inv X (pins++yM fp s.heap) σ H s:=
 I.pins_of λp L=>(mem_append.mp L).elim (λz=>I.pin p (mem_append_right _ z)) λz=>by
  obtain⟨hb,e⟩:=Ge z;obtain⟨Z,Y,O,_⟩:=hf p.1 hb;obtain⟨o,G,d⟩:=ho p.1 hb;rw[e] at G;cases G;exact⟨e,Z,Y,O,d⟩
theorem Inv.unpinned {pins pl:List (Addr×Obj)} {σ:St} {H:Hp} {s:Shared} (I:Inv X (pins++pl) σ H s):Inv X pins σ H s:=I.pins_of λp G=>I.pin p (mem_append_right _ (mem_append_left _ G))
theorem dz {iter:Expr} {α:List Stmt} {τ:TI} {g:TG} {tb:TS} {pos:Pos} (ζ:PassesOwn (model X.prog X.w) X.A X.env X.xe) (hc:X.calm=true) (hi:PI X tg iter τ) (hg:PG X tg g) (hb:PSs X α tb)
  (hs:∀x,foldedSetIterable iter X.env x=pure x:=by intro _;rfl):PS X (.For tg iter α [] pos) (tFor τ g tb):=by
 intro pins s σ H D I h;refine wpAny_For (thn (hi pins s σ H _ I h) λv s1 h1=>thn h1 λa0 s2 h2=>?_) hs;obtain⟨it,fp,υ,J,H2,e,I2,T,ν,ψ,W,⟨m0,w0⟩,γ⟩:=h2;subst e;have O:∀{H':Hp},(∀b∈fp,H' b=none)->∀b∈fp,FpOk X pins H' b:=λhn b hb=>⟨hn b hb,(ψ b hb).2⟩;refine codeAny_forLoop_any (λn s'=>∃i σ' H',Inv X pins σ' H' s'/\υ i s'.heap/\(∀b∈fp,H' b=none)/\W i n σ' H') ?_ m0 ⟨0,σ,H2,I2,ν,λb hb=>(ψ b hb).1,w0⟩;rintro n χ ⟨i,L,θ,ω,δ,η,w3⟩;rcases γ i n L θ w3 with ⟨stop,qn⟩ | ⟨go,N,hN,step⟩
 ·refine wpAny_passesOwn ζ (thn (T.done X rfl rfl rfl hc i pins χ L θ X.xe ω (O η) δ stop) λr s4 ⟨ο,I4⟩=>?_);subst ο;exact wpAny_execs_nil ⟨L,θ,I4,qn⟩
 ·refine wpAny_passesOwn ζ (thn (T.item X rfl rfl rfl hc i pins χ L θ X.xe ω (O η) δ go) λr s4 ⟨u,ο,h4⟩=>?_);subst ο;refine wpAny_passesOwn ζ (thn h4 λ_ φ ⟨x,H5,I5,r5,y5,β,π⟩=>?_);have ρ:=I5.pinned (O π) (T.obj _ _ β);refine wpAny_passesOwn ζ (thn (hg _ φ L H5 x u _ ρ r5 (step x H5 y5)) λ_ s6 ⟨ι,H6,I6,q6⟩=>?_);refine wpAny_passesOwn ζ (thn (hb _ s6 ι H6 _ I6 q6) λf ξ Z=>?_)
  have again:∀{G:St} {Y:Hp},Inv X (pins++yM fp φ.heap) G Y ξ->N G Y->∃m,m < n/\∃i σ' H',Inv X pins σ' H' ξ/\υ i ξ.heap/\(∀b∈fp,H' b=none)/\W i m σ' H':=λ{G Y} I7 ε=>by
   obtain⟨m',hm,w7⟩:=hN G Y ε;refine⟨m',hm,i + 1,G,Y,I7.unpinned,T.keep _ _ _ β λb hb o e=>(I7.pin (b,o) (mem_append_right _ (mem_append_right _ (m7 hb e)))).1,λb hb=>?_,w7⟩;obtain⟨o,e,d⟩:=T.obj _ _ β b hb;exact(I7.pin (b,o) (mem_append_right _ (mem_append_right _ (m7 hb e)))).2.1
  cases f with
  | next=>obtain⟨G,Y,I7,ε⟩:=Z;exact again I7 ε
  | cont=>obtain⟨G,Y,I7,ε⟩:=Z;exact again I7 ε
  | brk=>obtain⟨G,Y,I7,Z⟩:=Z;exact⟨G,Y,I7.unpinned,Z⟩
  | ret v=>obtain⟨x7,G,Y,I7,r7,Z⟩:=Z;exact⟨x7,G,Y,I7.unpinned,r7,Z⟩
end
theorem gF {K:PySem.W.Frag} {a:Addr} {xs:List V} {g:TG} {tb:TS} {D:Ends} {σ:St} {H:Hp} (Pv:Nat->St->Hp->Prop) (h0:Pv 0 σ H) (hl:∀i σ H,i<=xs.length->Pv i σ H->SqL K H a xs)
  (hs:∀i x σ H,xs[i]? =some x->Pv i σ H->g x σ H λG H2=>tb {D with nx:=Pv (i + 1),ct:=Pv (i + 1),bk:=D.nx} G H2) (hd:∀σ H,Pv xs.length σ H->D.nx σ H):
  ∃W:Nat->Nat->St->Hp->Prop,(∃m,W 0 m σ H)/\∀i m σ H,W i m σ H->
    ((Itl K a).stop i H/\D.nx σ H)∨((Itl K a).go i H/\∃N:St->Hp->Prop,(∀σ' H',N σ' H'->∃O,O < m/\W (i + 1) O σ' H')/\∀x H',(Itl K a).yld i H x H'->g x σ H' λG H2=>tb {D with nx:=N,ct:=N,bk:=D.nx} G H2):=by
 refine⟨λi m σ H=>m=xs.length - i/\i<=xs.length/\Pv i σ H,⟨xs.length,by simp,zero_le _,h0⟩,?_⟩;rintro i m σ H ⟨rfl,hi,p⟩;have q:=hl i σ H hi p;by_cases L:i < xs.length
 ·refine .inr ⟨⟨xs,xs[i],q,by simp[L]⟩,Pv (i + 1),fun σ' H' Y=>⟨xs.length - (i + 1),by omega,rfl,L,Y⟩,λx H' y=>?_⟩;obtain⟨e,y⟩:=y;subst e;exact hs i x σ _ (y xs q) p
 ·have e:i=xs.length:=by omega
  subst e;exact .inl ⟨⟨xs,q,le_refl _⟩,hd σ H p⟩
theorem rp {K:PySem.W.Frag} {a:Addr} {xs:List V} {g:TG} {tb:TS} {D:Ends} {σ:St} {H:Hp} (Pv:Nat->St->Hp->Prop) (h0:Pv 0 σ H) (hl:∀i σ H,i<=xs.length->Pv i σ H->SqT K H a xs)
  (hs:∀i x σ H,xs[i]? =some x->Pv i σ H->g x σ H λG H2=>tb {D with nx:=Pv (i + 1),ct:=Pv (i + 1),bk:=D.nx} G H2) (hd:∀σ H,Pv xs.length σ H->D.nx σ H):
  ∃W:Nat->Nat->St->Hp->Prop,(∃m,W 0 m σ H)/\∀i m σ H,W i m σ H->
    ((Itt K a).stop i H/\D.nx σ H)∨((Itt K a).go i H/\∃N:St->Hp->Prop,(∀σ' H',N σ' H'->∃O,O < m/\W (i + 1) O σ' H')/\∀x H',(Itt K a).yld i H x H'->g x σ H' λG H2=>tb {D with nx:=N,ct:=N,bk:=D.nx} G H2):=by
 refine⟨λi m σ H=>m=xs.length - i/\i<=xs.length/\Pv i σ H,⟨xs.length,by simp,zero_le _,h0⟩,?_⟩;rintro i m σ H ⟨rfl,hi,p⟩;have q:=hl i σ H hi p;by_cases L:i < xs.length
 ·refine .inr ⟨⟨xs,xs[i],q,by simp[L]⟩,Pv (i + 1),fun σ' H' Y=>⟨xs.length - (i + 1),by omega,rfl,L,Y⟩,λx H' y=>?_⟩;obtain⟨e,y⟩:=y;subst e;exact hs i x σ _ (y xs q) p
 ·have e:i=xs.length:=by omega
  subst e;exact .inl ⟨⟨xs,q,le_refl _⟩,hd σ H p⟩
theorem km {lo:Int} {n:Nat} {g:TG} {tb:TS} {D:Ends} {σ:St} {H:Hp} (Pv:Nat->St->Hp->Prop) (h0:Pv 0 σ H)
  (hs:∀i σ H,i < n->Pv i σ H->g (.int (lo + i)) σ H λG H2=>tb {D with nx:=Pv (i + 1),ct:=Pv (i + 1),bk:=D.nx} G H2) (hd:∀σ H,Pv n σ H->D.nx σ H):
  ∃W:Nat->Nat->St->Hp->Prop,(∃m,W 0 m σ H)/\∀i m σ H,W i m σ H->
    ((Itr lo n).stop i H/\D.nx σ H)∨((Itr lo n).go i H/\∃N:St->Hp->Prop,(∀σ' H',N σ' H'->∃O,O < m/\W (i + 1) O σ' H')/\∀x H',(Itr lo n).yld i H x H'->g x σ H' λG H2=>tb {D with nx:=N,ct:=N,bk:=D.nx} G H2):=by
 refine⟨λi m σ H=>m=n - i/\i<=n/\Pv i σ H,⟨n,by simp,zero_le _,h0⟩,?_⟩;rintro i m σ H ⟨rfl,hi,p⟩;by_cases L:i < n
 ·refine .inr ⟨L,Pv (i + 1),fun σ' H' Y=>⟨n - (i + 1),by omega,rfl,L,Y⟩,λx H' y=>?_⟩;obtain⟨e,y⟩:=y;subst e y;exact hs i σ _ L p
 ·have e:i=n:=by omega
  subst e;exact .inl ⟨le_refl _,hd σ H p⟩
noncomputable abbrev R2:=V->V->Hp->VK->Prop
def OpR (X:Cx) (f:Value->Value->Sem Value) (r:R2):Prop:=
 ∀(pins:List (Addr×Obj)) (s:Shared) (σ:St) (H:Hp) (x y:V) (v u:Value) (Q:VK),Inv X pins σ H s->RelV x v->RelV y u->r x y H Q->
  wpAny (model X.prog X.w) X.A (f v u) (EP X pins σ Q) X.xe s
def UnR (X:Cx) (f:Value->Sem Value) (r:V->Hp->VK->Prop):Prop:=
 ∀(pins:List (Addr×Obj)) (s:Shared) (σ:St) (H:Hp) (x:V) (v:Value) (Q:VK),Inv X pins σ H s->RelV x v->r x H Q->
  wpAny (model X.prog X.w) X.A (f v) (EP X pins σ Q) X.xe s
def nP (X:Cx) (f:Value) (r:List V->Hp->VK->Prop):Prop:=
 ∀(pins:List (Addr×Obj)) (s:Shared) (σ:St) (H:Hp) (xs:List V) (us:List Value) (Q:VK),Inv X pins σ H s->Vals xs us->r xs H Q->
  wpAny (model X.prog X.w) X.A (call f us) (EP X pins σ Q) X.xe s
noncomputable def tOp (r:R2) (ta tb:TE):TE:=fun σ H Q=>ta σ H λx H1=>tb σ H1 λy H2=>r x y H2 Q
noncomputable def tUn (r:V->Hp->VK->Prop) (ta:TE):TE:=fun σ H Q=>ta σ H λx H1=>r x H1 Q
noncomputable def rI (C:Int->Int->Prop) (g:Int->Int->V):R2:=λx y H Q=>∃i j,x= .int i/\y= .int j/\C i j/\Q (g i j) H
noncomputable def rI0 (g:Int->Int->V):R2:=λx y H Q=>∃i j,x= .int i/\y= .int j/\Q (g i j) H
noncomputable def rU (g:Int->V):V->Hp->VK->Prop:=λx H Q=>∃i,x= .int i/\Q (g i) H
section
variable {X:Cx} {a b c:Expr} {ta tb tc:TE} {pos:Pos}
theorem binT (ha:PE X a ta) (hb:PE X b tb) {pins:List (Addr×Obj)} {s:Shared} {σ:St} {H:Hp} {R:V->V->Hp->Prop} (I:Inv X pins σ H s)
  (h:ta σ H λx H1=>tb σ H1 λy H2=>R x y H2) {Q:Value->Shared->Prop} {f:Value->Value->Sem Value}
  (hf:∀v u O x y H2,Inv X pins σ H2 O->RelV x v->RelV y u->R x y H2->wpAny (model X.prog X.w) X.A (f v u) Q X.xe O):
  wpAny (model X.prog X.w) X.A (eval a X.env) (λv L=>wpAny (model X.prog X.w) X.A (eval b X.env) (λu G=>wpAny (model X.prog X.w) X.A (f v u) Q X.xe G) X.xe L) X.xe s:=by
 refine thn (ha pins s σ H _ I h) λv Y ⟨x,H1,ε,α,γ⟩=>?_;refine thn (hb pins Y σ H1 _ ε γ) λu O ⟨y,H2,δ,Z,β⟩=>?_;exact hf v u O x y H2 δ α Z β
theorem au {G:Operator} {r:R2} (ho:OpR X (binaryOp G) r) (ha:PE X a ta) (hb:PE X b tb):PE X (.BinOp a G b pos) (tOp r ta tb):=by
 intro pins s σ H Q I h;exact wpAny_BinOp (binT ha hb I h λv u L x y H2 Z Y O q=>ho pins L σ H2 x y v u Q Z Y O q)
theorem vI {G:UnaryOp} {r:V->Hp->VK->Prop} (ho:UnR X (unaryOp G) r) (ha:PE X a ta):PE X (.UnaryOp G a pos) (tUn r ta):=by
 intro pins s σ H Q I h;exact UnaryOp_ (thn (ha pins s σ H _ I h) λv L ⟨x,H1,Z,O,Y⟩=>ho pins L σ H1 x v Q Z O Y)
theorem opI {f:Value->Value->Sem Value} {C:Int->Int->Prop} {g:Int->Int->Int}
  (rule:∀(i j:Int) (t u:Tok) (s:Shared) (Q:Value->Shared->Prop) (E:Value->Shared->Prop),C i j->Q (.int (g i j) s.toks) {s with toks:=s.toks + 1}->wpAny (model X.prog X.w) X.A (f (.int i t) (.int j u)) Q E s):
  OpR X f (rI C λi j=> .int (g i j)):=by
 intro pins s σ H x y v u Q I L G h;obtain⟨i,j,rfl,rfl,O,q⟩:=h;obtain⟨t,rfl⟩:=L;obtain⟨t',rfl⟩:=G;exact rule i j t t' s _ _ O ⟨.int (g i j),H,I.tok _,⟨_,rfl⟩,q⟩
theorem opI0 {f:Value->Value->Sem Value} {g:Int->Int->Int}
  (rule:∀(i j:Int) (t u:Tok) (s:Shared) (Q:Value->Shared->Prop) (E:Value->Shared->Prop),Q (.int (g i j) s.toks) {s with toks:=s.toks + 1}->wpAny (model X.prog X.w) X.A (f (.int i t) (.int j u)) Q E s):
  OpR X f (rI0 λi j=> .int (g i j)):=by
 intro pins s σ H x y v u Q I L G h;obtain⟨i,j,rfl,rfl,q⟩:=h;obtain⟨t,rfl⟩:=L;obtain⟨t',rfl⟩:=G;exact rule i j t t' s _ _ ⟨.int (g i j),H,I.tok _,⟨_,rfl⟩,q⟩
theorem opB0 {f:Value->Value->Sem Value} {g:Int->Int->Bool}
  (rule:∀(i j:Int) (t u:Tok) (s:Shared) (Q:Value->Shared->Prop) (E:Value->Shared->Prop),Q (.bool (g i j)) s->wpAny (model X.prog X.w) X.A (f (.int i t) (.int j u)) Q E s):
  OpR X f (rI0 λi j=> .bl (g i j)):=by
 intro pins s σ H x y v u Q I L G h;obtain⟨i,j,rfl,rfl,q⟩:=h;obtain⟨t,rfl⟩:=L;obtain⟨t',rfl⟩:=G;exact rule i j t t' s _ _ ⟨.bl (g i j),H,I,rfl,q⟩
def CDiv (i j:Int):Prop:=0 < j/\j < 1073741824
def QG (i j:Int):Prop:=j≠0/\j.natAbs < 1073741824
def CPow (i j:Int):Prop:=0<=j/\j<=1000000/\i.natAbs < 2 ^ 64
def CMul (i j:Int):Prop:=(-(2 ^ 64) < i/\i < 2 ^ 64)∨(-(2 ^ 64) < j/\j < 2 ^ 64)
theorem CMul.ok {i j:Int} (h:CMul i j):IntMulOk i j:=by
 rcases h with ⟨h1,h2⟩ | ⟨h1,h2⟩
 ·exact .of_left (intBits_le_64 h1 h2)
 ·exact .of_right (intBits_le_64 h1 h2)
theorem Ck (k:Nat):(0:Int)<=2 ^ k:=by
 rw[two_pow_cast];exact Int.natCast_nonneg _
theorem bY:OpR X (binaryOp .Add) (rI0 λi j=> .int (i + j)):=opI0 λ_ _ _ _ _ _ _ q=>add_int q
theorem rD:OpR X (binaryOp .Sub) (rI0 λi j=> .int (i - j)):=opI0 λ_ _ _ _ _ _ _ q=>sub_int q
theorem mw:OpR X (binaryOp .Mult) (rI CMul λi j=> .int (i * j)):=opI λ_ _ _ _ _ _ _ hc q=>mul_int q hc.ok
theorem uq:OpR X (binaryOp .FloorDiv) (rI CDiv λi j=> .int (i / j)):=opI λi j _ _ _ _ _ hc q=>by
 have h1:(0:Int) < j:=hc.1;have h2:j < 1073741824:=hc.2;exact floordiv_int (by omega) (by rw[Int.fdiv_eq_ediv_of_nonneg i (by omega)];exact q) (.inl (PyProof.noPylong_small (by omega)))
theorem cq:OpR X (binaryOp .Mod) (rI (λ_ j=>0 < j) λi j=> .int (i % j)):=opI λi j _ _ _ _ _ hc q=>by
 have h1:(0:Int) < j:=hc;exact mod_int' (by omega) (by rw[Int.fmod_eq_emod_of_nonneg i (by omega)];exact q)
theorem OG:OpR X (binaryOp .Pow) (rI CPow λi j=> .int (i ^ j.toNat)):=opI λ_ _ _ _ _ _ _ hc q=>pow_int_small hc.1 hc.2.1 hc.2.2 q
theorem jH:OpR X (binaryOp .LShift) (rI CPow λi j=> .int (i * 2 ^ j.toNat)):=opI λ_ _ _ _ _ _ _ hc q=>lshift_int_small hc.1 hc.2.1 hc.2.2 q
theorem yO:OpR X (binaryOp .RShift) (rI (λ_ j=>0<=j) λi j=> .int (i / 2 ^ j.toNat)):=opI λi j _ _ _ _ _ hc q=>
 rshift_int hc (by rw[Int.fdiv_eq_ediv_of_nonneg i (Ck _)];exact q)
theorem ly:OpR X (binaryOp .BitAnd) (rI0 λi j=> .int (Builtin.bitAnd i j)):=opI0 λ_ _ _ _ _ _ _ q=>and_int q
theorem i0:OpR X (binaryOp .BitXor) (rI0 λi j=> .int (Builtin.bitXor i j)):=opI0 λ_ _ _ _ _ _ _ q=>xor_int q
theorem unI {f:Value->Sem Value} {g:Int->Int}
  (rule:∀(i:Int) (t:Tok) (s:Shared) (Q:Value->Shared->Prop) (E:Value->Shared->Prop),Q (.int (g i) s.toks) {s with toks:=s.toks + 1}->wpAny (model X.prog X.w) X.A (f (.int i t)) Q E s):
  UnR X f (rU λi=> .int (g i)):=by
 intro pins s σ H x v Q I G h;obtain⟨i,rfl,q⟩:=h;obtain⟨t,rfl⟩:=G;exact rule i t s _ _ ⟨.int (g i),H,I.tok _,⟨_,rfl⟩,q⟩
theorem nR:UnR X (unaryOp .USub) (rU λi=> .int (-i)):=unI λ_ _ _ _ _ q=>neg_int q
end
noncomputable def scal:V->V->Bool
 | .non,.non=>true | .non,.int _=>true | .int _,.non=>true | .non,.bl _=>true | .bl _,.non=>true | .non,.str _=>true | .str _,.non=>true
 | .int _,.int _=>true | .bl _,.bl _=>true | .str _,.str _=>true | .byt _,.byt _=>true
 | .int _,.str _=>true | .str _,.int _=>true | .bl _,.str _=>true | .str _,.bl _=>true
 | _,_=>false
noncomputable def rEq:R2:=λx y H Q=>scal x y=true/\Q (.bl (decide (x=y))) H
noncomputable def rNe:R2:=λx y H Q=>scal x y=true/\Q (.bl (!decide (x=y))) H
theorem Hk {i j:Int}:decide (V.int i=V.int j)=(i == j):=by
 rw[Bool.eq_iff_iff];simp
theorem KL {i j:Bool}:decide (V.bl i=V.bl j)=(i == j):=by
 rw[Bool.eq_iff_iff];simp
theorem Hj {i j:Str}:decide (V.str i=V.str j)=(i == j):=by
 rw[Bool.eq_iff_iff];simp
theorem Hl {i j:Array UInt8}:decide (V.byt i=V.byt j)=(i.toList == j.toList):=by
 rw[Bool.eq_iff_iff];cases i;cases j;simp
section
variable {X:Cx} {a b c:Expr} {ta tb tc:TE} {pos:Pos}
theorem cO {pins:List (Addr×Obj)} {σ:St} {H:Hp} {s:Shared} {Q:VK} {k G:Bool} (I:Inv X pins σ H s) (q:Q (.bl k) H) (e:k=G):EP X pins σ Q (.bool G) s:=by
 subst e;exact⟨.bl k,H,I,rfl,q⟩
theorem fK:OpR X (compareOp .Eq) rEq:=by
 intro pins s σ H x y v u Q I L G h;obtain⟨hs,q⟩:=h;cases x with
 | non=>
   cases L;cases y with
   | non=>cases G;exact PySem.EqNone.eq_none_none (cO I q (by simp))
   | bl j=>cases G;exact PySem.EqNone.eq_none_bool (cO I q (by simp))
   | int j=>obtain⟨t',rfl⟩:=G;exact PySem.EqNone.eq_none_int (cO I q (by simp))
   | str j=>obtain⟨t',rfl⟩:=G;exact PySem.EqNone.eq_none_str (cO I q (by simp))
   | _=>exact absurd (show false=true from hs) Bool.false_ne_true
 | bl i=>
   cases L;cases y with
   | non=>cases G;exact PySem.EqNone.eq_bool_none (cO I q (by simp))
   | bl j=>cases G;exact eq_bool (cO I q KL)
   | str j=>obtain⟨t',rfl⟩:=G;exact PySem.EqMixed.eq_bool_str (cO I q (by simp))
   | _=>exact absurd (show false=true from hs) Bool.false_ne_true
 | int i=>
   obtain⟨t,rfl⟩:=L;cases y with
   | non=>cases G;exact PySem.EqNone.eq_int_none (cO I q (by simp))
   | int j=>obtain⟨t',rfl⟩:=G;exact eq_int (cO I q Hk)
   | str j=>obtain⟨t',rfl⟩:=G;exact PySem.EqMixed.eq_int_str (cO I q (by simp))
   | _=>exact absurd (show false=true from hs) Bool.false_ne_true
 | str i=>
   obtain⟨t,rfl⟩:=L;cases y with
   | non=>cases G;exact PySem.EqNone.eq_str_none (cO I q (by simp))
   | bl j=>cases G;exact PySem.EqMixed.eq_str_bool (cO I q (by simp))
   | int j=>obtain⟨t',rfl⟩:=G;exact PySem.EqMixed.eq_str_int (cO I q (by simp))
   | str j=>obtain⟨t',rfl⟩:=G;exact eq_str (cO I q Hj)
   | _=>exact absurd (show false=true from hs) Bool.false_ne_true
 | byt i=>
   obtain⟨t,rfl⟩:=L;cases y with
   | byt j=>obtain⟨t',rfl⟩:=G;exact PySem.W.eq_bytes (cO I q Hl)
   | _=>exact absurd (show false=true from hs) Bool.false_ne_true
 | _=>cases y<;>exact absurd (show false=true from hs) Bool.false_ne_true
theorem F7:OpR X (compareOp .NotEq) rNe:=by
 intro pins s σ H x y v u Q I L G h;obtain⟨hs,q⟩:=h;cases x with
 | non=>
   cases L;cases y with
   | non=>cases G;exact PySem.EqNone.ne_none_none (cO I q (by simp))
   | bl j=>cases G;exact PySem.EqNone.ne_none_bool (cO I q (by simp))
   | int j=>obtain⟨t',rfl⟩:=G;exact PySem.EqNone.ne_none_int (cO I q (by simp))
   | str j=>obtain⟨t',rfl⟩:=G;exact PySem.EqNone.ne_none_str (cO I q (by simp))
   | _=>exact absurd (show false=true from hs) Bool.false_ne_true
 | bl i=>
   cases L;cases y with
   | non=>cases G;exact PySem.EqNone.ne_bool_none (cO I q (by simp))
   | bl j=>cases G;exact ne_bool (cO I q (congrArg not KL))
   | str j=>obtain⟨t',rfl⟩:=G;exact PySem.EqMixed.ne_bool_str (cO I q (by simp))
   | _=>exact absurd (show false=true from hs) Bool.false_ne_true
 | int i=>
   obtain⟨t,rfl⟩:=L;cases y with
   | non=>cases G;exact PySem.EqNone.ne_int_none (cO I q (by simp))
   | int j=>obtain⟨t',rfl⟩:=G;exact ne_int (cO I q (congrArg not Hk))
   | str j=>obtain⟨t',rfl⟩:=G;exact PySem.EqMixed.ne_int_str (cO I q (by simp))
   | _=>exact absurd (show false=true from hs) Bool.false_ne_true
 | str i=>
   obtain⟨t,rfl⟩:=L;cases y with
   | non=>cases G;exact PySem.EqNone.ne_str_none (cO I q (by simp))
   | bl j=>cases G;exact PySem.EqMixed.ne_str_bool (cO I q (by simp))
   | int j=>obtain⟨t',rfl⟩:=G;exact PySem.EqMixed.ne_str_int (cO I q (by simp))
   | str j=>obtain⟨t',rfl⟩:=G;exact ne_str (cO I q (congrArg not Hj))
   | _=>exact absurd (show false=true from hs) Bool.false_ne_true
 | byt i=>
   obtain⟨t,rfl⟩:=L;cases y with
   | byt j=>obtain⟨t',rfl⟩:=G;exact PySem.W.ne_bytes (cO I q (congrArg not Hl))
   | _=>exact absurd (show false=true from hs) Bool.false_ne_true
 | _=>cases y<;>exact absurd (show false=true from hs) Bool.false_ne_true
theorem Da:OpR X (compareOp .Lt) (rI0 λi j=> .bl (decide (i < j))):=opB0 λ_ _ _ _ _ _ _ q=>lt_int q
theorem Qq:OpR X (compareOp .LtE) (rI0 λi j=> .bl (decide (i<=j))):=opB0 λ_ _ _ _ _ _ _ q=>le_int q
theorem oH:OpR X (compareOp .Gt) (rI0 λi j=> .bl (decide (j < i))):=opB0 λ_ _ _ _ _ _ _ q=>gt_int q
theorem Qr:OpR X (compareOp .GtE) (rI0 λi j=> .bl (decide (j<=i))):=opB0 λ_ _ _ _ _ _ _ q=>ge_int q
theorem yR:OpR X (compareOp .In) (λx y H Q=>∃i j,x= .str i/\y= .str j/\Q (.bl (!(Builtin.Str.occurrences j i 0 j.length 1).isEmpty)) H):=by
 intro pins s σ H x y v u Q I L G h;obtain⟨i,j,rfl,rfl,q⟩:=h;obtain⟨t,rfl⟩:=L;obtain⟨t',rfl⟩:=G;exact in_str (cO I q rfl)
theorem aQ (b:Expr) {G:CmpOp} (h:G≠.In:=by decide) (h2:G≠.NotIn:=by decide):behindInMarks G b=false:=by
 have O:(G == CmpOp.In)=false:=by cases G<;>first | rfl | exact absurd rfl h
 have L:(G == CmpOp.NotIn)=false:=by cases G<;>first | rfl | exact absurd rfl h2
 cases b<;>simp[behindInMarks,O,L]
theorem fF {G:CmpOp} {r:R2} (ho:OpR X (compareOp G) r) (ha:PE X a ta) (hb:PE X b tb) (hm:behindInMarks G b=false):PE X (.Compare a [G] [b] pos) (tOp r ta tb):=by
 intro pins s σ H Q I h;exact wpAny_Compare1 (binT ha hb I h λv u L x y H2 Z Y O q=>ho pins L σ H2 x y v u Q Z Y O q) hm
noncomputable def Ni (t:TE):TT:=fun σ H Q=>t σ H λx H'=>∃k,x= .bl k/\Q k H'
theorem aI {G:CmpOp} {r:R2} (ho:OpR X (compareOp G) r) (ha:PE X a ta) (hb:PE X b tb) (hm:behindInMarks G b=false):PT X (.Compare a [G] [b] pos) (Ni (tOp r ta tb)):=by
 intro pins s σ H Q I h
 refine wpAny_isTrue_Compare1 (thn (ha pins s σ H _ I h) λv O ⟨x,H1,η,α,δ⟩=>thn (hb pins O σ H1 _ η δ) λu L ⟨y,H2,ζ,Z,γ⟩=>
  thn (ho pins L σ H2 x y v u _ ζ α Z γ) λc ι ⟨z,θ,ε,Y,k,e,β⟩=>?_) hm
 subst e;cases Y;exact wpAny_truthy_bool ⟨θ,ε,β⟩
theorem BU:(sizeLine:Nat) < 2 ^ 63:=by rw[sizeLine_eq];decide
theorem mX:OpR X (binaryOp .Add) (λx y H Q=>∃i j,x= .str i/\y= .str j/\i.length + j.length<=sizeLine/\Q (.str (i++j)) H):=by
 intro pins s σ H x y v u Q I L G h;obtain⟨i,j,rfl,rfl,hz,q⟩:=h;obtain⟨t,rfl⟩:=L;obtain⟨t',rfl⟩:=G;exact add_str (λt' tk=>⟨.str (i++j),H,I.tok _,⟨_,rfl⟩,q⟩) hz
theorem tR {x:V} {us:List Value} (r:Vals [x] us):∃u,us=[u]/\RelV x u:=by
 cases r with
 | cons L G=>cases G;exact⟨_,rfl,L⟩
theorem K8 {x y:V} {us:List Value} (r:Vals [x,y] us):∃u G,us=[u,G]/\RelV x u/\RelV y G:=by
 cases r with
 | cons Z Y=>
   cases Y with
   | cons O L=>cases L;exact⟨_,_,rfl,Z,O⟩
theorem rP:nP X (.type "str") (λxs H Q=>∃i,xs=[.int i]/\i.natAbs.log2 < 1920/\Q (.str (toString i)) H):=by
 intro pins s σ H xs us Q I r h;obtain⟨i,rfl,hz,q⟩:=h;obtain⟨u,rfl,t,rfl⟩:=tR r;exact PySem.P.str_of_int hz ⟨.str _,H,I.tok _,⟨_,rfl⟩,q⟩
def LenV (K:PySem.W.Frag) (x:V) (H:Hp) (n:Nat):Prop:=
 match x with
 | .str y=>y.length<=sizeLine/\n=y.length
 | .byt y=>y.size<=sizeLine/\n=y.size
 | .ref p=>(∃xs,SqL K H p xs/\n=xs.length)∨∃xs,SqT K H p xs/\n=xs.length
 | _=>False
theorem J1:nP X (.builtin "len") (λxs H Q=>∃x n,xs=[x]/\LenV X.K x H n/\Q (.int n) H):=by
 intro pins s σ H xs us Q I r h;obtain⟨x,n,rfl,e,q⟩:=h;obtain⟨u,rfl,O⟩:=tR r;have hl:=BU;have hs:sizeLine=16777216:=sizeLine_eq;cases x with
 | str y=>
   obtain⟨t,rfl⟩:=O;obtain⟨Z,L⟩:y.length<=sizeLine/\n=y.length:=e;subst L;exact len_str (by omega) ⟨.int _,H,I.tok _,⟨_,rfl⟩,q⟩
 | byt y=>
   obtain⟨t,rfl⟩:=O;obtain⟨Z,L⟩:y.size<=sizeLine/\n=y.size:=e;subst L;exact PySem.W.len_bytes (by omega) ⟨.int _,H,I.tok _,⟨_,rfl⟩,q⟩
 | ref p=>
   cases O;have L:(∃xs,SqL X.K H p xs/\n=xs.length)∨∃xs,SqT X.K H p xs/\n=xs.length:=e;rcases L with ⟨xs,Y,L⟩ | ⟨xs,Y,L⟩
   ·subst L;obtain⟨its,r',pl,hz⟩:=I.list Y;have G:=r'.length;exact Calls.call_len_list pl.isList (by simp only[size_toArray];omega) ⟨.int xs.length,H,I.tok _,⟨_,by simp only[size_toArray];rw[G]⟩,q⟩
   ·subst L;obtain⟨its,r',pl,hz⟩:=I.tuple Y;have G:=r'.length;exact len_tuple pl (by simp only[size_toArray];omega) ⟨.int xs.length,H,I.tok _,⟨_,by simp only[size_toArray];rw[G]⟩,q⟩
 | _=>exact(show False from e).elim
end
structure ObjM (h:Heap) (x dx C:Addr) (mA:Str->Option Value):Prop where
 obj:h.get? x=some (PySem.W.instObj C dx)
 ns:h.Ns1 dx mA
 ne:dx≠x
theorem Gp {h:Heap} {dx:Addr} {mA:Str->Option Value} (n:h.Ns1 dx mA):∃od,h.get? dx=some od/\∀name,PySem.W.lookIn name od=some (mA name):=by
 obtain⟨o,es,ep,ho,hd,hk,_,hm⟩:=n;refine⟨o,ho,λname=>?_⟩;have e:=hm name;unfold nsFind findBy at e;rw[<-Array.find?_toList] at e;unfold PySem.W.lookIn;rw[hd];dsimp only;split
 ·rename_i y q;rw[q] at e;exact congrArg some e
 ·rename_i q;rw[q] at e
  have a:es.toList.any (·.refKey)=false:=by
   rw[List.any_eq_false];intro y L;obtain⟨z,t,G⟩:=hk y (Array.mem_toList_iff.mp L);simp[DictEntry.refKey,G]
  have O:¬es.toList.any (·.refKey)=true:=by rw[a];exact Bool.false_ne_true
  rw[if_neg O];exact congrArg some e
theorem ObjM.look {h:Heap} {x dx C:Addr} {mA:Str->Option Value} (I:ObjM h x dx C mA):∃od,PySem.W.InstAt h x (PySem.W.instObj C dx) C (some od)/\∀name,PySem.W.lookIn name od=some (mA name):=
 let ⟨od,ho,hl⟩:=Gp I.ns
 ⟨od,⟨I.obj,rfl,rfl,ho⟩,hl⟩
section
variable {prog:Program} {w:World} {A:Around} {E:Value->Shared->Prop} {s:Shared} {K:PySem.W.Frag} {x dx C f:Addr} {mA:Str->Option Value} {name:Str} {v:Value}
theorem aF {G:Bool} {Q:Value->Shared->Prop} (X:K.In s.heap) (I:ObjM s.heap x dx C mA) (Z:PySem.W.plainGet K C name=true) (Y:PySem.W.hasDictIn K C=true)
  (ha:PySem.W.findIn K (.ref C) name=some none) (O:mA name=some v) (L:PySem.W.handedIn v=true) (h:Q v {s with toks:=s.toks + 1}):
  wpAny (model prog w) A (getAttr (.ref x) name G) Q E s:=by
 obtain⟨od,J,hl⟩:=I.look;exact PySem.W.get_value X J (PySem.W.plainGet_of Z).1 (PySem.W.findObj_own Y ha rfl (by rw[hl,O])) L h
theorem JK {pl:Sem Bool} {Q:Value×List Value->Shared->Prop} (X:K.In s.heap) (I:ObjM s.heap x dx C mA) (G:PySem.W.plainGet K C name=true)
  (hf:PySem.W.findIn K (.ref C) name=some (some (.ref f))) (ht:PySem.W.isFn K (.ref f)=true) (L:mA name=none) (h:Q (.ref f,[.ref x]) s):
  wpAny (model prog w) A (getMethod (.ref x) name pl) Q E s:=by
 obtain⟨od,J,hl⟩:=I.look;exact PySem.W.method_fn X J (PySem.W.plainGet_of G).1 (PySem.W.plainGet_of G).2 hf (beq_iff_eq.mp ht) (by show(PySem.W.lookIn name od).map (·.isSome)=some false;rw[hl,L];rfl) h
theorem LD {ns:List Str} {Q:Unit->Shared->Prop} (X:K.In s.heap) (I:ObjM s.heap x dx C mA)
  (hs:PySem.W.findIn K (.ref C) "__setattr__"=some (some (.builtin "object.__setattr__"))) (γ:PySem.W.plainOver K C=true) (ht:PySem.W.takerIn K C name=some none) (δ:PySem.W.hasDictIn K C=true)
  (hw:PySem.Within mA ns) (hsz:ns.length<=sizeLine)
  (h:∀h',ObjM h' x dx C (λy=>if y=name then some v else mA y)->Heap.SameBut dx s.heap h'->Q () {s with heap:=h',toks:=s.toks + 2}):
  wpAny (model prog w) A (setAttr (.ref x) name v) Q E s:=by
 obtain⟨od,J,hl⟩:=I.look;refine PySem.W.set_plain X J hs (PySem.W.osa_open (s:={s with toks:=s.toks + 1}) (r:=none) X J γ ht λb=>?_);obtain⟨ι,ε,Z⟩:=PySem.W.any_some δ;have β:s.heap.get? x=some ⟨.ref C,some dx,.plain,#[]⟩:=I.obj;refine wpAny_bind (wpAny_pure (wpAny_bind (wpAny_bind (wpAny_loadPart β (wpAny_bind (PySem.W.Looks.here (s:={s with toks:=s.toks + 1}) (PySem.W.looks_clsIn X ε) ?_))))));rw[Z];refine wpAny_pure (a:=some dx) (wpAny_bind (wpAny_pure (wpAny_bind ?_)));refine wpAny_nsSet1 (s:={s with toks:=s.toks + 1}) I.ns λh' L G=>?_;obtain⟨θ,ζ,η,O,Y,α⟩:=L.count (PySem.Within.cons name v hw);refine wpAny_bind (wpAny_lookBehind O (by rw[Y];exact pastItsLine_dict (le_trans α (by rw[length_cons];omega))) ?_);exact wpAny_pure (h _ ⟨(G.2 _ (Ne.symm I.ne)).trans I.obj,L,I.ne⟩ G)
theorem JA {R:Result->Shared->Prop} {vs:List Value} {G:List (Str×Value)} (X:K.In s.heap) (hm:PySem.W.makesIn K C=true)
  (hi:PySem.W.findIn K (.ref C) "__init__"=some (some (.ref f))) (hf:PySem.W.typeIn K (.ref f)=some (.type "function"))
  (h:codeAny (model prog w) (A.under (.builtin "type.__call__" ⟨.ref C::vs,G⟩)) (.call (.ref f) ⟨.ref (s.heap.objs.size + 1)::vs,G⟩) (PySem.W.InitBack (s.heap.objs.size + 1) R)
   {s with heap:=(s.heap.push PySem.W.emptyDict).push (PySem.W.instObj C s.heap.objs.size)}):
  codeAny (model prog w) A (.call (.ref C) ⟨vs,G⟩) R s:=by
 obtain⟨L,g,d,t,os⟩:=s;exact PySem.W.make_core (PySem.W.makes_of X hm) (PySem.W.looks_findIn X hi) (λself=>PySem.W.bind_fn X self hf) (.inl rfl) h
end
noncomputable def putF (f:Str) (v:V):List (Str×V)->List (Str×V)
 | []=>[(f,v)]
 | (g,x)::r=>if g=f then (g,v)::r else (g,x)::putF f v r
theorem uR (f g:Str) (v:V):∀fs:List (Str×V),(putF f v fs).lookup g=if g=f then some v else fs.lookup g
 | []=>by
   show List.lookup g [(f,v)]=_;by_cases h:g=f
   ·have hb:(g == f)=true:=beq_iff_eq.mpr h;simp only[List.lookup,hb,if_pos h]
   ·have hb:(g == f)=false:=beq_eq_false_iff_ne.mpr h;simp only[List.lookup,hb,if_neg h]
 | (k,x)::r=>by
   have ih:=uR f g v r;rw[show putF f v ((k,x)::r)=(if k=f then (k,v)::r else (k,x)::putF f v r) from rfl];by_cases hk:k=f
   ·rw[if_pos hk];by_cases h:g=k
    ·have hb:(g == k)=true:=beq_iff_eq.mpr h;simp only[List.lookup,hb,if_pos (h.trans hk)]
    ·have hb:(g == k)=false:=beq_eq_false_iff_ne.mpr h;simp only[List.lookup,hb,if_neg (λe:g=f=>h (e.trans hk.symm))]
   ·rw[if_neg hk];by_cases h:g=k
    ·have hb:(g == k)=true:=beq_iff_eq.mpr h;simp only[List.lookup,hb,if_neg (λe:g=f=>hk (h.symm.trans e))]
    ·have hb:(g == k)=false:=beq_eq_false_iff_ne.mpr h;simp only[List.lookup,hb];exact ih
theorem va (f:Str) (v:V):∀fs:List (Str×V),f∈(putF f v fs).map (·.1)/\∀g,g∈fs.map (·.1)->g∈(putF f v fs).map (·.1)
 | []=>⟨by simp[putF],λg h=>by simp at h⟩
 | (k,x)::r=>by
   obtain⟨i1,i2⟩:=va f v r;rw[show putF f v ((k,x)::r)=(if k=f then (k,v)::r else (k,x)::putF f v r) from rfl];by_cases hk:k=f
   ·rw[if_pos hk];subst hk;exact⟨by simp,λg h=>by simpa using h⟩
   ·rw[if_neg hk];refine⟨?_,λg h=>?_⟩
    ·rw[map_cons];exact mem_cons_of_mem _ i1
    ·rw[map_cons] at h ⊢;rcases mem_cons.mp h with e | e
     ·exact mem_cons.mpr (.inl e)
     ·exact mem_cons_of_mem _ (i2 g e)
theorem uT (f:Str) (v:V):∀fs:List (Str×V),(putF f v fs).length<=fs.length + 1
 | []=>by simp[putF]
 | (k,x)::r=>by
   have ih:=uT f v r;rw[show putF f v ((k,x)::r)=(if k=f then (k,v)::r else (k,x)::putF f v r) from rfl];by_cases hk:k=f
   ·rw[if_pos hk,length_cons,length_cons];omega
   ·rw[if_neg hk,length_cons,length_cons];omega
theorem RelO.some_of {v:V} {o:Option Value} (r:RelO (some v) o):∃u,o=some u/\RelV v u:=by
 cases o with
 | none=>exact(show False from r).elim
 | some u=>exact⟨u,rfl,r⟩
theorem RelO.none_of {o:Option Value} (r:RelO none o):o=none:=by
 cases o with
 | none=>rfl
 | some u=>exact(show False from r).elim
theorem GP {v:V} {u:Value} (r:RelV v u):PySem.W.handedIn u=true:=by
 cases v with
 | non=>cases(show u=Value.none from r);rfl
 | bl b=>cases(show u=Value.bool b from r);rfl
 | int i=>obtain⟨t,e⟩:=(show ∃t,u=Value.int i t from r);cases e;rfl
 | str x=>obtain⟨t,e⟩:=(show ∃t,u=Value.str x t from r);cases e;rfl
 | byt b=>obtain⟨t,e⟩:=(show ∃t,u=Value.bytes b t from r);cases e;rfl
 | flt b=>obtain⟨t,e⟩:=(show ∃t,u=Value.float b t from r);cases e;rfl
 | ref a=>cases(show u=Value.ref a from r);rfl
 | ty n=>cases(show u=Value.type n from r);rfl
section
variable {P:Program} {w:World} {H H':Hp} {h h':Heap} {a C dx:Addr} {fs fs':List (Str×V)}
theorem A1 (hok:HOk P w H h) (e:H a=some (.ins C dx fs)):∃mA,ObjM h a dx C mA/\(∀f,RelO (fs.lookup f) (mA f))/\PySem.Within mA (fs.map (·.1))/\fs.length<=1000/\H dx=some (.own a):=by
 obtain⟨d,z,ne,ob,mA,n,r,q⟩:=(show gG P w H h a (.ins C dx fs) from hok a _ e);exact⟨mA,⟨ob,n,ne⟩,r,q,z,d⟩
end
structure Cls (K:PySem.W.Frag) (C:Addr):Prop where
 pg:PySem.W.plainGet K C Str.empty=true
 hd:PySem.W.hasDictIn K C=true
 po:PySem.W.plainOver K C=true
 sa:PySem.W.findIn K (.ref C) "__setattr__"=some (some (.builtin "object.__setattr__"))
theorem Cls.get {K:PySem.W.Frag} {C:Addr} (c:Cls K C) (f:Str):PySem.W.plainGet K C f=true:=c.pg
def cx (K:PySem.W.Frag) (C:Addr) (f:Str):Prop:=PySem.W.findIn K (.ref C) f=some none
theorem cx.taker {K:PySem.W.Frag} {C:Addr} {f:Str} (n:cx K C f):PySem.W.takerIn K C f=some none:=by
 unfold PySem.W.takerIn;rw[show PySem.W.findIn K (.ref C) f=some none from n];rfl
structure Con (K:PySem.W.Frag) (C:Addr) (f:Str) (v:V) (u:Value):Prop where
 at_:PySem.W.findIn K (.ref C) f=some (some u)
 rel:RelV v u
 get:PySem.W.specialIn K u "__get__"=some none
 cp:PySem.W.copiedNames.contains f=false
structure Meth (K:PySem.W.Frag) (C:Addr) (m:Str) (f:Addr):Prop where
 at_:PySem.W.findIn K (.ref C) m=some (some (.ref f))
 fn:PySem.W.isFn K (.ref f)=true
 kp:PySem.W.keepIn K (.ref f)=true
section
variable {X:Cx} {pins:List (Addr×Obj)} {σ:St} {H:Hp} {s:Shared} {a C dx:Addr} {fs:List (Str×V)} {f:Str} {v:V} {A:Around} {E:Value->Shared->Prop}
theorem DQ {b:Bool} {Q:Value->Shared->Prop} (I:Inv X pins σ H s) (e:H a=some (.ins C dx fs)) (c:Cls X.K C) (n:cx X.K C f) (l:fs.lookup f=some v)
  (h:∀u s',Inv X pins σ H s'->RelV v u->Q u s'):wpAny (model X.prog X.w) A (getAttr (.ref a) f b) Q E s:=by
 obtain⟨mA,O,r,_,_,_⟩:=A1 I.hok e;obtain⟨u,L,G⟩:=RelO.some_of (v:=v) (o:=mA f) (by rw[<-l];exact r f);exact aF I.kIn O (c.get f) c.hd n L (GP G) (h u _ (I.tok _) G)
theorem rj {m:Str} {g:Addr} {pl:Sem Bool} {Q:Value×List Value->Shared->Prop} (I:Inv X pins σ H s) (e:H a=some (.ins C dx fs)) (c:Cls X.K C) (k:Meth X.K C m g) (l:fs.lookup m=none)
  (h:Q (.ref g,[.ref a]) s):wpAny (model X.prog X.w) A (getMethod (.ref a) m pl) Q E s:=by
 obtain⟨mA,O,r,_,_,_⟩:=A1 I.hok e;have hn:mA m=none:=RelO.none_of (by rw[<-l];exact r m);exact JK I.kIn O (c.get m) k.at_ k.fn hn h
theorem CJ {y:V} {u:Value} {Q:Unit->Shared->Prop} (I:Inv X pins σ H s) (e:H a=some (.ins C dx fs)) (c:Cls X.K C) (n:cx X.K C f) (hl:fs.length < 1000) (Y:RelV y u)
  (h:∀s',Inv X pins σ (upd H a (.ins C dx (putF f y fs))) s'->Q () s'):wpAny (model X.prog X.w) A (setAttr (.ref a) f u) Q E s:=by
 obtain⟨mA,O,r,G,_,ho⟩:=A1 I.hok e;have hz:(fs.map (·.1)).length<=sizeLine:=by rw[length_map,sizeLine_eq];omega
 refine LD I.kIn O c.sa c.po n.taker c.hd G hz λh' O' L=>h _ ?_;have hd:∃o,h'.get? dx=some o:=let ⟨o,_,_,α,_⟩:=O'.ns;⟨o,α⟩
 refine I.write (x:=a) (e:=dx) (by rw[e];exact True.intro) (.inr ho) (λb q hb z=>(L.2 b hb).trans z) hd ?_;refine⟨by rw[aG O.ne];exact ho,?_,O.ne,O'.obj,_,O'.ns,λg=>?_,λg Z=>?_⟩
 ·have:=uT f y fs;omega
 ·show RelO ((putF f y fs).lookup g) (if g=f then some u else mA g);rw[uR];by_cases q:g=f
  ·rw[if_pos q,if_pos q];exact Y
  ·rw[if_neg q,if_neg q];exact r g
 ·by_cases q:g=f
  ·rw[q];exact(va f y fs).1
  ·refine(va f y fs).2 g (G g λz=>Z ?_);show(if g=f then some u else mA g)=none;rw[if_neg q];exact z
theorem Inv.made (I:Inv X pins σ H s):Inv X pins σ (upd (upd H s.heap.objs.size (.own (s.heap.objs.size + 1))) (s.heap.objs.size + 1) (.ins C s.heap.objs.size []))
  {s with heap:=(s.heap.push PySem.W.emptyDict).push (PySem.W.instObj C s.heap.objs.size)}:=by
 have G:(s.heap.push PySem.W.emptyDict).get? s.heap.objs.size=some PySem.W.emptyDict:=Heap.get?_push_size s.heap rfl
 have Y:((s.heap.push PySem.W.emptyDict).push (PySem.W.instObj C s.heap.objs.size)).get? (s.heap.objs.size + 1)=some (PySem.W.instObj C s.heap.objs.size):=by
  have:=Heap.get?_push_size (s.heap.push PySem.W.emptyDict) (o:=PySem.W.instObj C s.heap.objs.size) rfl;rwa [Heap.size_push] at this
 have O:(s.heap.push PySem.W.emptyDict).Ns s.heap.objs.size (λ_=>none):=⟨PySem.W.emptyDict,#[],_,G,rfl,(λe he=>absurd he (by simp)),λ_=>rfl⟩;have I1:=I.laid (a:=s.heap.objs.size) (o:= .own (s.heap.objs.size + 1)) (h':=s.heap.push PySem.W.emptyDict) (t':=s.toks) (λb u q=>Heap.get?_push_of_some _ q) (le_refl _) ⟨_,G⟩;refine I1.laid (a:=s.heap.objs.size + 1) (o:= .ins C s.heap.objs.size []) (t':=s.toks) (λb u q=>Heap.get?_push_of_some _ q) (Nat.le_of_eq (Heap.size_push _ _)) ?_;have ne:s.heap.objs.size≠s.heap.objs.size + 1:=ne_of_lt (lt_succ_self _);refine⟨by rw[aG ne,ay],zero_le _,ne,Y,λ_=>none,(Heap.Ns1.of_empty O).at λo q=>Heap.get?_push_of_some _ q,λ_=>True.intro,λy L=>absurd rfl L⟩
theorem ML {prog:Program} {w:World} {env:Env} {e:Expr} {f:Str} {pos:Pos} {s:Shared} {Q:Value->Shared->Prop} (hb:attributeBase e f env (eval e env)=eval e env)
  (h:wpAny (model prog w) A (eval e env) (λo G=>wpAny (model prog w) A (getAttr o f true) Q E G) E s):wpAny (model prog w) A (eval (.Attribute e f pos) env) Q E s:=
 Attribute_any_ h (by rw[arm_eval_Attribute,hb])
end
noncomputable def tFld (K:PySem.W.Frag) (ta:TE) (f:Str):TE:=fun σ H Q=>ta σ H λx H1=>∃a C dx fs v,x= .ref a/\H1 a=some (.ins C dx fs)/\Cls K C/\cx K C f/\fs.lookup f=some v/\Q v H1
noncomputable def sFld (K:PySem.W.Frag) (ta tv:TE) (f:Str):TS:=λD σ H=>tv σ H λy H1=>ta σ H1 λx H2=>∃a C dx fs,x= .ref a/\H2 a=some (.ins C dx fs)/\Cls K C/\cx K C f/\fs.length < 1000/\
 D.nx σ (upd H2 a (.ins C dx (putF f y fs)))
section
variable {X:Cx} {o e value:Expr} {f:Str} {pos pos' tpos:Pos} {ta tv:TE}
theorem OD (he:PE X e ta) (hb:attributeBase e f X.env (eval e X.env)=eval e X.env):PE X (.Attribute e f pos) (tFld X.K ta f):=by
 intro pins s σ H Q I h;refine ML hb (thn (he pins s σ H _ I h) λu β ⟨x,H1,Y,G,a,C,dx,fs,v,ex,ea,c,n,l,q⟩=>?_);subst ex;obtain rfl:u=Value.ref a:=G;exact DQ Y ea c n l λZ α O L=>⟨v,H1,O,L,q⟩
theorem Ox (ha:PE X o ta) (α:PE X value tv) (hs:swapsWith value (some (.Attribute o f pos')) pos.line X.env=pure false):PS X (.Assign [.Attribute o f pos'] value pos) (sFld X.K ta tv f):=by
 intro pins s σ H D I h;refine plainObj_wpAny_Assign_Attribute (thn (α pins s σ H _ I h) λu G ⟨y,H1,δ,L,q⟩=>thn (ha pins G σ H1 _ δ q) λZ ζ ⟨x,H2,γ,O,a,C,dx,fs,ex,ea,c,n,l,Y⟩=>?_) hs;subst ex;obtain rfl:Z=Value.ref a:=O;exact CJ γ ea c n l L fun ε β=>⟨σ,_,β,Y⟩
end
section
variable {X:Cx} {pins:List (Addr×Obj)} {σ:St} {H:Hp} {s:Shared} {A:Around} {E:Value->Shared->Prop} {Q:Value->Shared->Prop} {c:Value} {b:Bool}
inductive TyOf (K:PySem.W.Frag) (H:Hp):V->Value->Prop where
 | non:TyOf K H .non (.type "NoneType")
 | bl (x:Bool):TyOf K H (.bl x) (.type "bool")
 | int (i:Int):TyOf K H (.int i) (.type "int")
 | str (x:Str):TyOf K H (.str x) (.type "str")
 | flt (x:UInt64):TyOf K H (.flt x) (.type "float")
 | lst {a:Addr} {xs:List V} (e:H a=some (.lst xs)):TyOf K H (.ref a) (.type "list")
 | frz {a:Addr} {o:Obj} {xs:List V} (e:H a=some (.frz o (.lst xs))):TyOf K H (.ref a) (.type "list")
 | tup {a:Addr} {xs:List V} (e:H a=some (.tup xs)):TyOf K H (.ref a) (.type "tuple")
 | dK {a:Addr} {kvs:List (Key×V)} (e:H a=some (.dK kvs)):TyOf K H (.ref a) (.type "dict")
 | dT {a:Addr} {kvs:List (List Key×V)} (e:H a=some (.dT kvs)):TyOf K H (.ref a) (.type "dict")
 | ins {a C dx:Addr} {fs:List (Str×V)} (e:H a=some (.ins C dx fs)) (cl:Cls K C) (ha:PySem.W.findIn K (.ref C) "__class__"=some (some (.builtin "object.__class__")))
   (hn:PySem.W.specialIn K (.builtin "object.__class__") "__get__"=some (some (.builtin "getset_descriptor.__get__"))) (htk:PySem.W.takesIn K (.builtin "object.__class__")=some true)
   (hm:PySem.W.mroIn K C (.type "object")=some true):TyOf K H (.ref a) (.ref C)
end
structure Room (k:Nat) (A:Around):Prop where
 hd:A.handled=none
 dp:A.depth + 3 * k + 5 < recursionLimit
 un:A.units + 16 * k + 200 < cLine
theorem Room.mono {j k:Nat} {A:Around} (r:Room k A) (h:j<=k):Room j A:=⟨r.hd,by have:=r.dp;omega,by have:=r.un;omega⟩
theorem Room.deeper {k:Nat} {A:Around} (r:Room (k + 1) A) (env:Env):Room k (A.deeper env):=
 ⟨r.hd,by have:=r.dp;show A.depth + 1 + 3 * k + 5 < _;omega,by have:=r.un;show A.units + 3 + 16 * k + 200 < _;omega⟩
theorem DB {A:Around} {C:Addr} {us:List Value} {G:List (Str×Value)}:(A.under (.builtin "type.__call__" ⟨.ref C::us,G⟩)).depth=A.depth + 1:=by
 first | rfl | simp[Around.under,Code.weight,Code.isCreation,Code.isGuard,Code.isCaller,Code.frames,Code.isFrame,guardIds]
theorem DA {A:Around} {C:Addr} {us:List Value} {G:List (Str×Value)}:(A.under (.builtin "type.__call__" ⟨.ref C::us,G⟩)).units=A.units + 1:=by
 first | rfl | simp[Around.under,Code.cUnits,Code.frames,Code.isFrame]
theorem Room.make {k:Nat} {A:Around} (r:Room (k + 1) A) (C:Addr) (us:List Value) (G:List (Str×Value)):Room k (A.under (.builtin "type.__call__" ⟨.ref C::us,G⟩)):=
 ⟨r.hd,by have:=r.dp;rw[DB];omega,by have:=r.un;rw[DA];omega⟩
theorem Room.depth {k:Nat} {A:Around} (r:Room k A):A.depth < recursionLimit:=by have:=r.dp;omega
theorem Room.units {k:Nat} {A:Around} (r:Room k A):A.units + 64 < cLine:=by have:=r.un;omega
noncomputable def tNil:TA:=λ_ H Q=>Q [] H
noncomputable def Nr (ta:TE) (tr:TA):TA:=fun σ H Q=>ta σ H λx H1=>tr σ H1 λxs H2=>Q (x::xs) H2
section
variable {X:Cx} {e:Expr} {es:List Expr} {te:TE} {t:TA} {pos:Pos}
theorem ae:PA X [] tNil:=λ_ _ _ _ H Q I h=>Calls.spliced_nil ⟨[],H,I,.nil,h⟩
theorem aa (ha:PE X e te) (α:PA X es t) (hs:starEach (e::es) X.env=(false,eval e X.env)::starEach es X.env:=by rfl):PA X (e::es) (Nr te t):=by
 intro pos pins s σ H Q I h;rw[hs];show wpAny _ _ (spliced ((false,eval e X.env)::backTo pos (starEach es X.env))) _ _ s;refine Calls.spliced_cons (thn (ha pins s σ H _ I h) λu G ⟨x,H1,γ,O,Z⟩=>?_);exact thn (α pos pins G σ H1 _ γ Z) λus δ ⟨xs,H2,β,L,Y⟩=>⟨x::xs,H2,β,.cons O L,Y⟩
noncomputable def tTup (t:TA):TE:=fun σ H Q=>t σ H λxs H1=>xs.length<=sizeLine/\∀p,H1 p=none->Q (.ref p) (upd H1 p (.tup xs))
noncomputable def tLst (t:TA):TE:=fun σ H Q=>t σ H λxs H1=>xs.length<=sizeLine/\∀p,H1 p=none->Q (.ref p) (upd H1 p (.lst xs))
theorem dk {x1} (h:PA X es t):PE X (.Tuple es x1 pos) (tTup t):=by
 intro pins s σ H Q I L;refine wpAny_Tuple_spliced (thn (h pos pins s σ H _ I L) λus G ⟨xs,H1,I1,r,z,q⟩=>⟨by rw[<-r.length];exact z,?_⟩);have hf:H1 G.heap.objs.size=none:=I1.hok.fresh (le_refl _);refine⟨.ref G.heap.objs.size,upd H1 G.heap.objs.size (.tup xs),I1.laid (t':=G.toks) (λb u e=>Heap.get?_push_of_some _ e) (le_refl _) ?_,rfl,q _ hf⟩;exact⟨z,us,r,⟨_,Heap.get?_push_size _ rfl,rfl,_,rfl⟩⟩
theorem cw (h:PA X es t):PE X (.List es pos) (tLst t):=by
 intro pins s σ H Q I L;refine wpAny_List_spliced (thn (h pos pins s σ H _ I L) λus G ⟨xs,H1,I1,r,z,q⟩=>⟨by rw[<-r.length];exact z,?_⟩);have hf:H1 G.heap.objs.size=none:=I1.hok.fresh (le_refl _);refine⟨.ref G.heap.objs.size,upd H1 G.heap.objs.size (.lst xs),I1.laid (t':=G.toks) (λb u e=>Heap.get?_push_of_some _ e) (le_refl _) ?_,rfl,q _ hf⟩;exact⟨z,us,0,r,Heap.get?_push_size _ rfl⟩
end
noncomputable abbrev Sp:=List V->Hp->VK->XK->Prop
noncomputable abbrev CXT:=List Env->Hp->Shared->XK->Value->Shared->Prop
structure Env0 (P:Program) (w:World) (K:PySem.W.Frag) (mg:Str->Option Value) (base:Heap) (A:Around) (outer:List Env) (s:Shared) (H:Hp):Prop where
 frames:A.frames=some outer
 mod:Mod K mg base
 bs:∀b o,base.get? b=some o->s.heap.get? b=some o/\H b=none
 bsz:base.objs.size<=s.heap.objs.size
 funs:s.heap.FunFrames base outer
 frf:∀b∈frs outer,H b=none
 hok:HOk P w H s.heap
 bare:AllBare s.gens
def CE (outer:List Env) (P:Program) (w:World) (H:Hp) (s:Shared) (Q:VK) (u:Value) (s':Shared):Prop:=
 ∃v H',s'.os=s.os/\AllBare s'.gens/\Un (frs outer) [] H H' s.heap s'.heap/\HOk P w H' s'.heap/\RelV v u/\Q v H'
def CR (CX:CXT) (outer:List Env) (P:Program) (w:World) (H:Hp) (s:Shared) (Q:VK) (E:XK) (r:Result) (s':Shared):Prop:=
 match r with
 | .ok (.ret u)=>CE outer P w H s Q u s'
 | .ok _=>False
 | .error e=>CX outer H s E e s'
structure FnOk (P:Program) (w:World) (K:PySem.W.Frag) (mg:Str->Option Value) (base:Heap) (CX:CXT) (k:Nat) (f:Addr) (fd:FuncData) (ps:List Str) (sp:Sp):Prop where
 len:∀vs H Q E,sp vs H Q E->vs.length=ps.length
 run:∀(A:Around) (outer:List Env) (s:Shared) (H:Hp) (args:Args) (us:List Value) (vs:List V) (Q:VK) (E:XK),Room k A->Env0 P w K mg base A outer s H->BindsTo s fd args (ps.zip us)->Vals vs us->sp vs H Q E->
  codeAny (model P w) A (.call (.ref f) args) (CR CX outer P w H s Q E) s
theorem FnOk.imp {P:Program} {w:World} {K:PySem.W.Frag} {mg:Str->Option Value} {base:Heap} {CX:CXT} {k:Nat} {f:Addr} {fd:FuncData} {ps:List Str} {sp G:Sp} (F:FnOk P w K mg base CX k f fd ps sp)
  (h:∀vs H Q E,G vs H Q E->sp vs H Q E):FnOk P w K mg base CX k f fd ps G:=
 ⟨λvs H Q E q=>F.len vs H Q E (h _ _ _ _ q),λA outer s H args us vs Q E O he hb L hs=>F.run A outer s H args us vs Q E O he hb L (h _ _ _ _ hs)⟩
theorem Env0.make {P:Program} {w:World} {K:PySem.W.Frag} {mg:Str->Option Value} {base:Heap} {A:Around} {outer:List Env} {s:Shared} {H:Hp} (e:Env0 P w K mg base A outer s H) (C:Addr) (us:List Value) (G:List (Str×Value)):
  Env0 P w K mg base (A.under (.builtin "type.__call__" ⟨.ref C::us,G⟩)) outer s H:=⟨by first | exact e.frames | (simpa[Around.under,Code.envs,Code.isFrame,pushEnvs] using e.frames),e.mod,e.bs,e.bsz,e.funs,e.frf,e.hok,e.bare⟩
section
variable {X:Cx} {pins:List (Addr×Obj)} {σ:St} {H:Hp} {s s':Shared}
theorem Inv.env0 (I:Inv X pins σ H s):Env0 X.prog X.w X.K X.mg X.base X.A X.stack s H:=
 ⟨I.ok.frames,I.ok.mod,I.bs,le_trans I.ok.bsz I.sz,I.stack,I.stkFree,I.hok,I.bare⟩
theorem Inv.after {Q:VK} {u:Value} (I:Inv X pins σ H s) (h:CE X.stack X.prog X.w H s Q u s'):EP X pins σ Q u s':=by
 obtain⟨v,H',os,bare,un,hok,r,q⟩:=h;obtain⟨L,g,d,t,G⟩:=s';obtain rfl:G=s.os:=os;exact⟨v,H',I.call (h':=L) (g':=g) (d':=d) (t':=t) (ch:=[]) un hok bare (λb z=>absurd z (by simp)),r,q⟩
end
noncomputable def E6 (sp:Sp) (dvs:List V) (E:XK) (t:TA):TE:=fun σ H Q=>t σ H λvs H1=>sp (vs++dvs) H1 Q E
noncomputable def Le (C:Addr) (m:Str) (sp:Sp) (dvs:List V) (E:XK) (ta:TE) (t:TA):TE:=fun σ H Q=>ta σ H λx H1=>∃a dx fs,x= .ref a/\H1 a=some (.ins C dx fs)/\fs.lookup m=none/\
 t σ H1 λvs H2=>sp (x::(vs++dvs)) H2 Q E
noncomputable def Nn (C:Addr) (sp:Sp) (dvs:List V) (E:XK) (t:TA):TE:=fun σ H Q=>t σ H λvs H1=>∀x dx,H1 x=none->H1 dx=none->dx≠x->
 sp (.ref x::(vs++dvs)) (upd (upd H1 dx (.own x)) x (.ins C dx [])) (λv H2=>v= .non/\Q (.ref x) H2) E
def nQ (K:PySem.W.Frag) (fd:FuncData) (ps:List Str) (ds:List Value):Prop:=
 ∀(s:Shared) (us:List Value),K.In s.heap->(us++ds).length=ps.length->BindsTo s fd ⟨us,[]⟩ (ps.zip (us++ds))
theorem nQ.all {K:PySem.W.Frag} {fd:FuncData} {ps:List Str} (h:∀us:List Value,us.length=ps.length->bindArgs fd ⟨us,[]⟩=pure (ps.zip us)):nQ K fd ps []:=λs us _ hl=>by
 rw[append_nil] at hl ⊢;exact .of_eq (h us hl)
def p9 (CX:CXT) (X:Cx) (E:XK):Prop:=∀(pins:List (Addr×Obj)) (σ:St) (H:Hp) (s:Shared) (e:Value) (s':Shared),Inv X pins σ H s->CX X.stack H s E e s'->X.xe e s'
section
variable {X:Cx} {CX:CXT} {k:Nat} {f C:Addr} {fd:FuncData} {ps:List Str} {sp:Sp} {dvs:List V} {ds:List Value} {E:XK} {x m:Str} {p pos apos:Pos} {e o:Expr} {es:List Expr} {ta:TE} {t:TA}
theorem BC {pins:List (Addr×Obj)} {σ:St} {H:Hp} {s:Shared} {Q:VK} {us:List Value} {vs:List V} (F:FnOk X.prog X.w X.K X.mg X.base CX k f fd ps sp) (O:Room k X.A) (hb:nQ X.K fd ps ds) (hd:Vals dvs ds) (hx:p9 CX X E)
  (I:Inv X pins σ H s) (r:Vals vs us) (h:sp (vs++dvs) H Q E):wpAny (model X.prog X.w) X.A (call (.ref f) us) (EP X pins σ Q) X.xe s:=by
 have L:Vals (vs++dvs) (us++ds):=r.append hd;have hl:(us++ds).length=ps.length:=by rw[<-L.length];exact F.len _ _ _ _ h
 refine wpAny_call (codeAny_mono (F.run X.A X.stack s H ⟨us,[]⟩ (us++ds) (vs++dvs) Q E O I.env0 (hb s us I.kIn hl) L h) λr s' G=>?_);cases r with
 | error e=>exact hx pins σ H s e s' I G
 | ok Y=>
   cases Y with
   | ret u=>exact I.after G
   | next=>exact False.elim G
   | brk=>exact False.elim G
   | cont=>exact False.elim G
theorem L8 (F:FnOk X.prog X.w X.K X.mg X.base CX k f fd ps sp) (O:Room k X.A) (Y:Gl X x) (hm:X.mg x=some (.ref f)) (hk:PySem.W.keepIn X.K (.ref f)=true) (hb:nQ X.K fd ps ds) (hd:Vals dvs ds) (hx:p9 CX X E)
  (ha:PA X (e::es) t) (L:(x == ("__debug__":Str))=false:=by decide) (he:starEach (e::es) X.env=(false,eval e X.env)::starEach es X.env:=by rfl) (G:(backTo pos (starEach es X.env)).any (·.1)=false:=by rfl):
  PE X (.Call (.Name x p) (e::es) [] pos) (E6 sp dvs E t):=by
 intro pins s σ H Q I h;refine wpAny_Call_Name_kw (rf I Y hm ?_ L);refine PySem.W.callWith_K (h₀:=X.base) I.ok.mod.kin hk (thn (ha pos pins s σ H _ I h) λus Z ⟨vs,H1,I1,r,q⟩=>⟨I1.kIn,?_⟩) he G;exact BC F O hb hd hx I1 r q
theorem eh {pl:Sem Bool} (he:PE X o ta) (c:Cls X.K C) (hm:Meth X.K C m f) (F:FnOk X.prog X.w X.K X.mg X.base CX k f fd ps sp) (γ:Room k X.A) (hb:nQ X.K fd ps ds) (hd:Vals dvs ds) (hx:p9 CX X E) (ha:PA X (e::es) t)
  (G:starEach (e::es) X.env=(false,eval e X.env)::starEach es X.env:=by rfl) (L:(backTo pos (starEach es X.env)).any (·.1)=false:=by rfl)
  (ht:eval (.Call (.Attribute o m apos) (e::es) [] pos) X.env=(do
   let O <-eval o X.env
   standAt apos.atName
   let (f,first) <-holding [O] (getMethod O m pl)
   callWith pos f first (backTo pos (starEach (e::es) X.env)) (backToKw pos (keywordEach [] X.env))):=by rfl):
  PE X (.Call (.Attribute o m apos) (e::es) [] pos) (Le C m sp dvs E ta t):=by
 intro pins s σ H Q I h;refine PySem.W.methodCall_KW (pl:=pl) (thn (he pins s σ H _ I h) λu Z ⟨x,H1,Y,α,a,dx,fs,ex,ea,l,q⟩=>?_) ht;subst ex;obtain rfl:u=Value.ref a:=α;refine rj Y ea c hm l ?_;refine PySem.W.callWith_K (first:=[.ref a]) (h₀:=X.base) I.ok.mod.kin hm.kp (thn (ha pos pins Z σ H1 _ Y q) λus δ ⟨vs,H2,I2,r,β⟩=>⟨I2.kIn,?_⟩) G L;exact BC (us:= .ref a::us) (vs:= .ref a::vs) F γ hb hd hx I2 (.cons rfl r) β
theorem bf {pl:Sem Bool} (he:PE X o ta) (c:Cls X.K C) (hm:Meth X.K C m f) (F:FnOk X.prog X.w X.K X.mg X.base CX k f fd ps sp) (O:Room k X.A) (hb:nQ X.K fd ps ds) (hd:Vals dvs ds) (hx:p9 CX X E)
  (ht:eval (.Call (.Attribute o m apos) [] [] pos) X.env=(do
   let G <-eval o X.env
   standAt apos.atName
   let (f,first) <-holding [G] (getMethod G m pl)
   callWith pos f first (backTo pos (starEach [] X.env)) (backToKw pos (keywordEach [] X.env))):=by rfl):
  PE X (.Call (.Attribute o m apos) [] [] pos) (Le C m sp dvs E ta tNil):=by
 intro pins s σ H Q I h;refine PySem.W.methodCall_KW (pl:=pl) (thn (he pins s σ H _ I h) λu Y ⟨x,H1,I1,L,a,dx,fs,ex,ea,l,q⟩=>?_) ht;subst ex;obtain rfl:u=Value.ref a:=L;refine rj I1 ea c hm l ?_;exact PySem.W.callWith_K0 (first:=[.ref a]) I1.kIn hm.kp (BC (us:=[.ref a]) (vs:=[.ref a]) F O hb hd hx I1 (.cons rfl .nil) q)
structure Mk (K:PySem.W.Frag) (C f:Addr):Prop where
 makes:PySem.W.makesIn K C=true
 init:PySem.W.findIn K (.ref C) "__init__"=some (some (.ref f))
 fn:PySem.W.isFn K (.ref f)=true
 kp:PySem.W.keepIn K (.ref C)=true
theorem Jj {pins:List (Addr×Obj)} {σ:St} {H:Hp} {s:Shared} {Q:VK} {us:List Value} {vs:List V} (M:Mk X.K C f) (F:FnOk X.prog X.w X.K X.mg X.base CX k f fd ps sp) (β:Room (k + 1) X.A) (hb:nQ X.K fd ps ds) (hd:Vals dvs ds)
  (α:p9 CX X E) (I:Inv X pins σ H s) (r:Vals vs us)
  (h:∀x dx,H x=none->H dx=none->dx≠x->sp (.ref x::(vs++dvs)) (upd (upd H dx (.own x)) x (.ins C dx [])) (λv H2=>v= .non/\Q (.ref x) H2) E):
  wpAny (model X.prog X.w) X.A (call (.ref C) us) (EP X pins σ Q) X.xe s:=by
 have O:=h (s.heap.objs.size + 1) s.heap.objs.size (I.hok.fresh (le_succ _)) (I.hok.fresh (le_refl _)) (ne_of_lt (lt_succ_self _));have I2:=Inv.made (C:=C) I;have L:Vals (V.ref (s.heap.objs.size + 1)::(vs++dvs)) (Value.ref (s.heap.objs.size + 1)::(us++ds)):= .cons rfl (r.append hd)
 have hl:(Value.ref (s.heap.objs.size + 1)::us++ds).length=ps.length:=by
  have e:=L.length;rw[F.len _ _ _ _ O] at e;exact e.symm
 refine wpAny_call (JA (f:=f) I.kIn M.makes M.init (beq_iff_eq.mp M.fn) (codeAny_mono (F.run _ X.stack _ _ ⟨Value.ref (s.heap.objs.size + 1)::us,[]⟩ (Value.ref (s.heap.objs.size + 1)::(us++ds)) _ _ E (β.make C us [])
  (I2.env0.make C us []) (hb _ (Value.ref (s.heap.objs.size + 1)::us) I2.kIn hl) L O) λr s' G=>?_))
 cases r with
 | error e=>exact α pins σ _ _ e s' I2 G
 | ok γ=>
   cases γ with
   | ret u=>
     obtain⟨v,H',δ,Y,ev,Z⟩:=I2.after G;subst ev;exact⟨Y,⟨V.ref (s.heap.objs.size + 1),H',δ,rfl,Z⟩⟩
   | next=>exact False.elim G
   | brk=>exact False.elim G
   | cont=>exact False.elim G
theorem j5 (M:Mk X.K C f) (F:FnOk X.prog X.w X.K X.mg X.base CX k f fd ps sp) (O:Room (k + 1) X.A) (Y:Gl X x) (hm:X.mg x=some (.ref C)) (hb:nQ X.K fd ps ds) (hd:Vals dvs ds) (hx:p9 CX X E)
  (ha:PA X (e::es) t) (L:(x == ("__debug__":Str))=false:=by decide) (he:starEach (e::es) X.env=(false,eval e X.env)::starEach es X.env:=by rfl) (G:(backTo pos (starEach es X.env)).any (·.1)=false:=by rfl):
  PE X (.Call (.Name x p) (e::es) [] pos) (Nn C sp dvs E t):=by
 intro pins s σ H Q I h;refine wpAny_Call_Name_kw (rf I Y hm ?_ L);refine PySem.W.callWith_K (h₀:=X.base) I.ok.mod.kin M.kp (thn (ha pos pins s σ H _ I h) λus Z ⟨vs,H1,I1,r,q⟩=>⟨I1.kIn,?_⟩) he G;exact Jj M F O hb hd hx I1 r q
end
section
variable {X:Cx} {CX:CXT} {k:Nat} {f C:Addr} {fd:FuncData} {ps ks:List Str} {sp:Sp} {E:XK} {x m:Str} {p pos apos kpos:Pos} {e o:Expr} {es:List Expr} {kws:List Keyword} {te ta:TE} {t tk:TA} {nm:Option Str}
structure QH (K:PySem.W.Frag) (fd:FuncData) (ps ks:List Str) (g:List Value->List Value->List Value) (gV:List V->List V->List V):Prop where
 to:∀(s:Shared) (us ws:List Value),K.In s.heap->(g us ws).length=ps.length->BindsTo s fd ⟨us,ks.zip ws⟩ (ps.zip (g us ws))
 rel:∀{vs:List V} {us:List Value} {zs:List V} {ws:List Value},Vals vs us->Vals zs ws->Vals (gV vs zs) (g us ws)
variable {g:List Value->List Value->List Value} {gV:List V->List V->List V}
end
structure aq (N P:List Str) (sc:Scope):Prop where
 kind:sc.kind= .function
 co:sc.isCoroutine=false
 gen:sc.isGenerator=false
 nd:N.Nodup
 pre:N.take P.length=P
 par:∀x∈P,sc.names.lookup x=some .local∨sc.names.lookup x=some .cell
 nofree:∀y∈sc.names,y.2≠.free
theorem zU {kindOf:Str->Option NameKind} {x:Str}:∀{binds:List (Str×Value)} {m:Str->Option Value},(∀v,(x,v)∉binds)->bindL kindOf binds m x=m x
 | [],_,_=>rfl
 | (n,v)::r,m,h=>by
   unfold bindL;rw[zU λw hw=>h w (mem_cons_of_mem _ hw)];split
   ·have:x≠n:=by rintro rfl;exact h v mem_cons_self
    simp[this]
   ·rfl
theorem zW {kindOf:Str->Option NameKind} {x:Str}:∀{binds:List (Str×Value)} {m:Str->Option Value},(∀v,(x,v)∉binds)->bindC kindOf binds m x=m x
 | [],_,_=>rfl
 | (n,v)::r,m,h=>by
   unfold bindC;rw[zW λw hw=>h w (mem_cons_of_mem _ hw)];split
   ·rfl
   ·have:x≠n:=by rintro rfl;exact h v mem_cons_self
    simp[this]
theorem zV {kindOf:Str->Option NameKind} {x:Str} {v:Value}:∀{P:List Str} {vs:List Value} {i:Nat} {m:Str->Option Value},P.Nodup->P[i]? =some x->vs[i]? =some v->kindOf x=some .local->
  bindL kindOf (P.zip vs) m x=some v
 | [],_,_,_,_,h,_,_=>by simp at h
 | _::_,[],_,_,_,_,h,_=>by simp at h
 | p::P,w::vs,0,m,nd,h1,h2,hk=>by
   simp at h1 h2;subst h1;subst h2;show bindL kindOf ((p,w)::P.zip vs) m p=_;unfold bindL;rw[zU λv G=>(nodup_cons.mp nd).1 (of_mem_zip G).1,if_pos hk];simp
 | p::P,w::vs,i + 1,m,nd,h1,h2,hk=>by
   show bindL kindOf ((p,w)::P.zip vs) m x=_;unfold bindL;exact zV (i:=i) (nodup_cons.mp nd).2 (by simpa using h1) (by simpa using h2) hk
theorem zX {kindOf:Str->Option NameKind} {x:Str} {v:Value}:∀{P:List Str} {vs:List Value} {i:Nat} {m:Str->Option Value},P.Nodup->P[i]? =some x->vs[i]? =some v->kindOf x≠some .local->
  bindC kindOf (P.zip vs) m x=some v
 | [],_,_,_,_,h,_,_=>by simp at h
 | _::_,[],_,_,_,_,h,_=>by simp at h
 | p::P,w::vs,0,m,nd,h1,h2,hk=>by
   simp at h1 h2;subst h1;subst h2;show bindC kindOf ((p,w)::P.zip vs) m p=_;unfold bindC;rw[zW λv G=>(nodup_cons.mp nd).1 (of_mem_zip G).1,if_neg hk];simp
 | p::P,w::vs,i + 1,m,nd,h1,h2,hk=>by
   show bindC kindOf ((p,w)::P.zip vs) m x=_;unfold bindC;exact zX (i:=i) (nodup_cons.mp nd).2 (by simpa using h1) (by simpa using h2) hk
noncomputable def start (N:List Str) (vs:List V):St:=vs.map some++List.replicate (N.length - vs.length) none
noncomputable def cxOf (CX:CXT) (P:Program) (w:World) (K:PySem.W.Frag) (mg:Str->Option Value) (base:Heap) (N:List Str) (G:Str) (scope:Scope) (f:Addr) (O:Value) (A:Around) (outer:List Env) (s:Shared) (H:Hp) (E:XK):Cx where
 prog:=P
 w:=w
 K:=K
 mg:=mg
 base:=base
 A:=A.deeper (envOfC G scope s.heap.objs.size f O)
 N:=N
 s₀:=s
 H₀:=H
 env:=envOfC G scope s.heap.objs.size f O
 outer:=outer
 stack:=envOfC G scope s.heap.objs.size f O::outer
 ex:=[]
 calm:=true
 fn:=λ_=>true
 pn:=[]
 xe:=λe s'=>wpAny (model P w) (A.deeper (envOfC G scope s.heap.objs.size f O)) (leaving (envOfC G scope s.heap.objs.size f O) e) (λ_ L=>CX outer H s E e L) (λY L=>CX outer H s E Y L) s'
theorem Cb {sc:Scope} {n:Nat} {x:Str} (h:sc.names.lookup x=some .cell):∃c,(cellsFrom n sc.names []).lookup x=some c:=by
 have q:=PySem.W.cellsFrom_some sc.names n [] (.inl h);exact Option.isSome_iff_exists.mp q
theorem GL {CX:CXT} {P:Program} {w:World} {K:PySem.W.Frag} {mg:Str->Option Value} {base:Heap} {N ps:List Str} {G:Str} {scope:Scope} {f:Addr} {α:Value} {A:Around} {outer:List Env} {s β:Shared} {H:Hp} {E:XK} {us:List Value} {vs:List V}
  (S:aq N ps scope) (hd:A.handled=none) (L:Env0 P w K mg base A outer s H) (hl:vs.length=ps.length) (r:Vals vs us)
  (x:InCallC s s.heap.objs.size (bindL (envOfC G scope s.heap.objs.size f α).kindOf (ps.zip us) λ_=>none) (cellsFrom (s.heap.objs.size + 1) scope.names []) (bindC (envOfC G scope s.heap.objs.size f α).kindOf (ps.zip us) λ_=>none) β):
  Inv (cxOf CX P w K mg base N G scope f α A outer s H E) [] (start N vs) H β:=by
 have ε:ps.length<=N.length:=by have:=congrArg List.length S.pre;rw[length_take] at this;omega
 obtain⟨h1,tk,rfl,hk⟩:=x.done;have O:∀b:Addr,b∉(cxOf CX P w K mg base N G scope f α A outer s H E).ex:=λb z=>absurd (show b∈([]:List Addr) from z) (by simp)
 refine⟨⟨L.mod,S.kind,rfl,rfl,le_refl _,λy z c h1 h2=>?_,λy hy=>?_,λy c _ h=>?_,λ_=>hd,Around.frames_deeper L.frames,.inr ⟨rfl,rfl⟩,λb z=>absurd z (O b),L.bs,L.bsz,λb _ _=>O b,λb z=>absurd z (O b),L.funs,L.frf⟩,
  rfl,L.bare,Un.kept hk,⟨_,x.toInCall.ns,λi y v h1 h2 ζ=>?_⟩,λy c h=>⟨_,x.cell y c h⟩,L.hok.fresh (le_refl _),λy c h=>?_,λp Z=>absurd (show p∈([]:List (Addr×Obj)) from Z) (by simp),L.hok.kept hk,?_⟩
 ·exact name_of_addr x.apart (PySem.mem_of_lookup h1) (PySem.mem_of_lookup h2)
 ·have hy:scope.names.lookup y=some .cell∨scope.names.lookup y=some .free:=hy;rcases hy with hy | hy
  ·exact Cb hy
  ·exact absurd rfl (S.nofree _ (PySem.mem_of_lookup hy))
 ·exact le_of_lt (x.above y c (PySem.mem_of_lookup h))
 ·have hi:i < vs.length:=by
   unfold start at h2;by_cases hi:i < vs.length
   ·exact hi
   ·rw[getElem?_append_right (by simpa using hi)] at h2;rw[List.getElem?_replicate] at h2;split at h2<;>cases h2
  have ha:vs[i]? =some v:=by
   unfold start at h2;rw[getElem?_append_left (by simpa using hi),getElem?_map] at h2;cases e:vs[i]? with
   | none=>rw[e] at h2;cases h2
   | some a=>rw[e] at h2;cases h2;rfl
  obtain⟨u,γ,δ⟩:=r.get ha
  have Z:ps[i]? =some y:=by
   rw[<-S.pre,getElem?_take_of_lt (by omega)];exact h1
  have Y:ps.Nodup:=by rw[<-S.pre];exact S.nd.sublist (List.take_sublist _ _)
  refine⟨u,δ,?_⟩;rcases S.par y (mem_of_getElem? Z) with k | k
  ·exact .inl ⟨k,zV Y Z γ k⟩
  ·obtain⟨c,e⟩:=Cb (n:=s.heap.objs.size + 1) k;refine .inr ⟨.inl k,c,e,?_⟩;have q:=x.cell y c e;rw[zX Y Z γ (by show scope.names.lookup y≠_;rw[k];decide)] at q;exact q
 ·exact L.hok.fresh (le_of_lt (x.above y c (PySem.mem_of_lookup h)))
 ·unfold start;show _=N.length;rw[length_append,length_map,length_replicate];omega
theorem MF {CX:CXT} {P:Program} {w:World} {K:PySem.W.Frag} {mg:Str->Option Value} {base:Heap} {k:Nat} {f:Addr} {name G:Str} {O:Arguments} {Y:List Stmt} {scope:Scope} {dV kV δ ξ L ct π:Value} {an od:Option Addr}
  {ζ:Array (Option Value)} {N ps:List Str} {sp:Sp} (lk:K.lookup f=some ⟨π,od,.func (PySem.W.fnOf name G O Y scope dV kV δ ξ an L ct),ζ⟩) (ι:PySem.W.codeIn K L G=true) (S:aq N ps scope)
  (len:∀vs H Q E,sp vs H Q E->vs.length=ps.length)
  (α:∀(A:Around) (outer:List Env) (s:Shared) (H:Hp) (vs:List V) (Q:VK) (E:XK),Room k (A.deeper (envOfC G scope s.heap.objs.size f L))->sp vs H Q E->
   ∃t,PSs (cxOf CX P w K mg base N G scope f L A outer s H E) Y t/\t {nx:=λ_ H'=>Q .non H',rt:=Q} (start N vs) H):
  FnOk P w K mg base CX (k + 1) f (PySem.W.fnOf name G O Y scope dV kV δ ξ an L ct) ps sp:=by
 refine⟨len,λA outer s H args us vs Q E θ γ hb r β=>?_⟩;have hl:=len _ _ _ _ β;have ο:K.In s.heap:=γ.mod.kin.keeps λb o e=>(γ.bs b o e).1;have η:s.heap.NoLimit:=γ.mod.nolimit.keeps λb o e=>(γ.bs b o e).1
 have Z:∀y∈ps.zip us,scope.names.lookup y.1=some .local∨(scope.names.lookup y.1=some .cell/\((cellsFrom (s.heap.objs.size + 1) scope.names []).lookup y.1).isSome=true):=λ⟨n,v⟩ ρ=>by
  rcases S.par n (of_mem_zip ρ).1 with q | q
  ·exact .inl q
  ·exact .inr ⟨q,PySem.W.cellsFrom_some _ _ _ (.inl q)⟩
 refine codeAny_call_function θ.depth (ο _ _ lk) rfl S.co S.gen rfl (PySem.W.codeRec_of ο ι) (hb _ _ _ _ ?_);refine wpAny_newFunctionEnv_cells S.kind Z λenv he ν x=>?_;subst he;refine⟨η.keeps x.toInCall.keep,codeAny_func ?_⟩;obtain⟨t,ht,τ⟩:=α A outer s H vs Q E (θ.deeper _) β;have I:Inv (cxOf CX P w K mg base N G scope f L A outer s H E) [] (start N vs) H ν:=GL S θ.hd γ hl r x;refine wpAny_mono (ht [] ν (start N vs) H _ I τ) (fun υ s' hs=>?_) λe s' hs=>hs
 have fin:∀{σ':St} {H':Hp} {v:V} {u:Value},Inv (cxOf CX P w K mg base N G scope f L A outer s H E) [] σ' H' s'->RelV v u->Q v H'->CE outer P w H s Q u s':=
  λ{σ' H' v u} J ε q=>⟨v,H',J.os,J.bare,J.base,J.hok,ε,q⟩
 cases υ with
 | ret u=>
   obtain⟨v,σ',H',J,ε,q⟩:=hs;exact fin J ε q
 | next=>
   obtain⟨σ',H',J,q⟩:=hs;exact fin (v:=V.non) (u:=Value.none) J rfl q
 | brk=>
   obtain⟨_,_,_,q⟩:=hs;exact False.elim q
 | cont=>
   obtain⟨_,_,_,q⟩:=hs;exact False.elim q
section
variable {X:Cx} {x:Str} {p pos:Pos} {e:Expr} {es:List Expr} {t:TA} {id T:String} {r:List V->Hp->VK->Prop}
noncomputable def tCB (r:List V->Hp->VK->Prop) (t:TA):TE:=fun σ H Q=>t σ H λvs H1=>r vs H1 Q
theorem aH (hc:nP X (.builtin id) r) (β:Gl X x) (hm:X.mg x=none) (α:bootBuiltins x=some (.builtin id)) (ha:PA X (e::es) t) (hn:x≠"__name__":=by decide) (L:(x == ("__debug__":Str))=false:=by decide)
  (he:starEach (e::es) X.env=(false,eval e X.env)::starEach es X.env:=by rfl) (G:(backTo pos (starEach es X.env)).any (·.1)=false:=by rfl):PE X (.Call (.Name x p) (e::es) [] pos) (tCB r t):=by
 intro pins s σ H Q I h;refine wpAny_Call_Name_kw (rG I β hm α ?_ hn L);exact PyProof.Rows.callWith_builtin1 (thn (ha pos pins s σ H _ I h) λus O ⟨vs,H1,γ,Y,Z⟩=>hc pins O σ H1 vs us Q γ Y Z) he G
theorem bw (hc:nP X (.type T) r) (β:Gl X x) (hm:X.mg x=none) (α:bootBuiltins x=some (.type T)) (ha:PA X (e::es) t) (hn:x≠"__name__":=by decide) (L:(x == ("__debug__":Str))=false:=by decide)
  (he:starEach (e::es) X.env=(false,eval e X.env)::starEach es X.env:=by rfl) (G:(backTo pos (starEach es X.env)).any (·.1)=false:=by rfl):PE X (.Call (.Name x p) (e::es) [] pos) (tCB r t):=by
 intro pins s σ H Q I h;refine wpAny_Call_Name_kw (rG I β hm α ?_ hn L);exact PyProof.Rows.callWith_type1 (thn (ha pos pins s σ H _ I h) λus O ⟨vs,H1,γ,Y,Z⟩=>hc pins O σ H1 vs us Q γ Y Z) he G
end
end L2
namespace HT
open PySem PyProof.Rows
section
variable {prog:Program} {w:World} {A:Around} {E:Value->Shared->Prop} {s:Shared}
noncomputable def sIx (n d:Nat):Option Int->Nat
 | none=>d
 | some v=>if v < 0 then (v + (n:Int)).toNat else min v.toNat n
theorem sIx_none (n d:Nat):sIx n d none=d:=rfl
theorem sIx_nat (n d k:Nat):sIx n d (some (k:Int))=min k n:=by
 show(if (k:Int) < 0 then ((k:Int) + (n:Int)).toNat else min (k:Int).toNat n)=min k n;rw[if_neg (by omega),Int.toNat_natCast]
end
end HT
namespace L2
open PySem PySem.Spec PyProof.Rows
noncomputable abbrev TO:=St->Hp->(Option Int->Hp->Prop)->Prop
def PO (X:Cx) (e:Option Expr) (t:TO):Prop:=
 ∀(pins:List (Addr×Obj)) (s:Shared) (σ:St) (H:Hp) (Q:Option Int->Hp->Prop),Inv X pins σ H s->t σ H Q->
  wpAny (model X.prog X.w) X.A (evalPart e X.env) (λu s'=>∃o H',Inv X pins σ H' s'/\IsPart u o/\Q o H') X.xe s
noncomputable def E2:TO:=λ_ H Q=>Q none H
noncomputable def Nj (t:TE):TO:=fun σ H Q=>t σ H λx H1=>∃i,x= .int i/\Q (some i) H1
section
variable {X:Cx} {e:Expr} {te:TE} {lo hi:Option Expr} {tl th:TO} {pos p2:Pos}
theorem qz:PO X none E2:=by
 intro pins s σ H Q I h;rw[evalPart_none];exact wpAny_pure ⟨none,H,I,.none,h⟩
theorem mm (h:PE X e te):PO X (some e) (Nj te):=by
 intro pins s σ H Q I hw;rw[evalPart_some];refine thn (h pins s σ H _ I hw) λu Y ⟨x,H1,O,G,L⟩=>?_;obtain⟨i,rfl,q⟩:=L;obtain⟨t,rfl⟩:=G;exact⟨some i,H1,O,.int i t,q⟩
def SlR (X:Cx) (r:V->Option Int->Option Int->Hp->VK->Prop):Prop:=
 ∀(pins:List (Addr×Obj)) (s:Shared) (σ:St) (H:Hp) (x:V) (v L G:Value) (lo hi:Option Int) (O:Addr) (Q:VK),Inv X pins σ H s->RelV x v->s.heap.IsSliceOf O L G .none->IsPart L lo->IsPart G hi->r x lo hi H Q->
  ∃T id,typeLookup (.type T) "__getitem__"=pure (some (.builtin id))/\s.TypeIs v T/\wpAny (model X.prog X.w) X.A (getItem v (.ref O)) (EP X pins σ Q) X.xe s
noncomputable def tSl (r:V->Option Int->Option Int->Hp->VK->Prop) (te:TE) (tl th:TO):TE:=fun σ H Q=>te σ H λx H1=>tl σ H1 λl H2=>th σ H2 λu G=>r x l u G Q
theorem kT {r:V->Option Int->Option Int->Hp->VK->Prop} (η:SlR X r) (he:PE X e te) (hl:PO X lo tl) (hu:PO X hi th):PE X (.Subscript e (.Slice lo hi none p2) pos) (tSl r te tl th):=by
 intro pins s σ H Q I h;refine Subscript_ (thn (he pins s σ H _ I h) λv α ⟨x,H1,ξ,β,ε⟩=>?_);refine wpAny_Slice (thn (hl pins α σ H1 _ ξ ε) λO Z ⟨l,H2,ν,pl,δ⟩=>thn (hu pins Z σ H2 _ ν δ) λL G ⟨u,Y,I3,ζ,γ⟩=>?_);rw[evalPart_none];refine wpAny_pure ?_;have ι:Inv X pins σ Y {G with heap:=G.heap.push {cls:= .type "slice",data:= .fields #[O,L,.none]}}:=I3.kept (t':=G.toks) λb ob q=>Heap.get?_push_of_some _ q;obtain⟨T,id,hT,ht,θ⟩:=η pins {G with heap:=G.heap.push {cls:= .type "slice",data:= .fields #[O,L,.none]}} σ Y x v O L l u G.heap.objs.size Q ι β (Heap.IsSliceOf.new ..) pl ζ γ;show wpAny (model X.prog X.w) X.A (subscriptTail e (.Slice lo hi none p2) v (.ref G.heap.objs.size)) (EP X pins σ Q) X.xe {G with heap:=G.heap.push {cls:= .type "slice",data:= .fields #[O,L,.none]}};exact tail_any (ops:=[.ref G.heap.objs.size,v]) ht hT θ (by with_unfolding_all rfl)
noncomputable def cutV (xs:List V) (lo hi:Option Int):List V:=(xs.drop (HT.sIx xs.length 0 lo)).take (HT.sIx xs.length xs.length hi - HT.sIx xs.length 0 lo)
theorem Bb (xs:List V) (lo hi:Option Int):(cutV xs lo hi).length<=xs.length:=by
 unfold cutV;rw[length_take,length_drop];omega
end
noncomputable def ixN (n:Nat) (i:Int):Option Nat:=if 0<=i then (if i < n then some i.toNat else none) else if -(n:Int)<=i then some (i + n).toNat else none
noncomputable def atI {α:Type} (xs:List α) (i:Int):Option α:=(ixN xs.length i).bind λj=>xs[j]?
theorem Mu {n:Nat} {i:Int} {j:Nat} (h:ixN n i=some j):seqIndex? i n=some j/\j < n/\-(n:Int)<=i/\i < n:=by
 unfold ixN at h;by_cases G:0<=i
 ·rw[if_pos G] at h;by_cases h1:i < n
  ·rw[if_pos h1] at h;have e:i.toNat=j:=Option.some.inj h;exact⟨by rw[seqIndex_of G h1,e],by omega,by omega,h1⟩
  ·rw[if_neg h1] at h;cases h
 ·rw[if_neg G] at h;by_cases h1: -(n:Int)<=i
  ·rw[if_pos h1] at h;have e:(i + n).toNat=j:=Option.some.inj h;exact⟨by rw[seqIndex_neg (by omega) h1,e],by omega,h1,by omega⟩
  ·rw[if_neg h1] at h;cases h
theorem Be {α:Type} {xs:List α} {i:Int} {v:α} (h:atI xs i=some v):∃j,seqIndex? i xs.length=some j/\xs[j]? =some v/\j < xs.length/\-(xs.length:Int)<=i/\i < xs.length:=by
 unfold atI at h;cases e:ixN xs.length i with
 | none=>rw[e] at h;cases h
 | some j=>
   rw[e] at h;obtain⟨h1,h2,L,G⟩:=Mu e;exact⟨j,h1,h,h2,L,G⟩
theorem fI {α:Type} {xs:List α} {j:Nat} {v:α} (h:xs[j]? =some v):atI xs (j:Int)=some v:=by
 have G:j < xs.length:=(List.getElem?_eq_some_iff.mp h).1
 have e:ixN xs.length (j:Int)=some j:=by
  unfold ixN;rw[if_pos (by omega),if_pos (by omega)];simp
 unfold atI;rw[e];exact h
theorem Ce {α:Type} (xs:List α) (v:α):atI (xs++[v]) (-1)=some v:=by
 have hl:(xs++[v]).length=xs.length + 1:=by simp
 have e:ixN (xs++[v]).length (-1)=some xs.length:=by
  unfold ixN;rw[hl,if_neg (by decide),if_pos (by omega)];congr 1;omega
 unfold atI;rw[e];show(xs++[v])[xs.length]? =some v;simp
def MT (b:Expr):Prop:=∀o i,subscripted b false o i=operate [o,i] (getItem o i)
def IxR (X:Cx) (r:R2):Prop:=
 ∀(value G:Expr) (pins:List (Addr×Obj)) (s:Shared) (σ:St) (H:Hp) (x y:V) (v u:Value) (Q:VK),Inv X pins σ H s->RelV x v->RelV y u->r x y H Q->
  subscripted G false v u=operate [v,u] (getItem v u)->wpAny (model X.prog X.w) X.A (subscriptTail value G v u) (EP X pins σ Q) X.xe s
def MtR (X:Cx) (id:String) (r:V->List V->Hp->VK->Prop):Prop:=
 ∀(pins:List (Addr×Obj)) (s:Shared) (σ:St) (H:Hp) (x:V) (xs:List V) (v:Value) (us:List Value) (Q:VK),Inv X pins σ H s->RelV x v->Vals xs us->r x xs H Q->
  wpAny (model X.prog X.w) X.A (call (.builtin id) (v::us)) (EP X pins σ Q) X.xe s
section
variable {X:Cx} {a b:Expr} {ta tb:TE} {pos:Pos}
theorem aD {r:R2} (Y:IxR X r) (ha:PE X a ta) (hb:PE X b tb) (hs:MT b):PE X (.Subscript a b pos) (tOp r ta tb):=by
 intro pins s σ H Q I h;exact Subscript_ (binT ha hb I h λv u G x y H2 Z O L q=>Y a b pins G σ H2 x y v u Q Z O L q (hs _ _))
noncomputable def rIxL (K:PySem.W.Frag):R2:=λx y H Q=>∃p xs i v,x= .ref p/\y= .int i/\SqL K H p xs/\atI xs i=some v/\Q v H
noncomputable def rIxT (K:PySem.W.Frag):R2:=λx y H Q=>∃p xs i v,x= .ref p/\y= .int i/\SqT K H p xs/\atI xs i=some v/\Q v H
noncomputable def rIxS:R2:=λx y H Q=>∃z i c,x= .str z/\y= .int i/\z.length<=sizeLine/\atI z.cps.toList i=some c/\Q (.str ⟨#[c]⟩) H
theorem Mt:IxR X (rIxL X.K):=by
 intro value G pins s σ H x y v u Q I β α h hs;obtain⟨p,xs,i,z,rfl,rfl,γ,he,q⟩:=h;cases β;obtain⟨t,rfl⟩:=α;obtain⟨its,r,pl,hz⟩:=I.list γ;obtain⟨j,h1,h2,ζ,ε,δ⟩:=Be he;obtain⟨w,Z,L⟩:=r.get h2;have hl:=r.length;have hn:=BU;have fin:EP X pins σ Q w s:=⟨z,H,I,L,q⟩;by_cases Y:0<=i
 ·have O:i.toNat=j:=by
   rw[seqIndex_of Y δ] at h1;exact Option.some.inj h1
  exact item_listR pl.isList Y (by omega) (by rw[O];simpa using Z) fin hs
 ·have O:(i + (its.toArray.size:Int)).toNat=j:=by
   rw[seqIndex_neg (by omega) ε] at h1;rw[size_toArray,<-hl];exact Option.some.inj h1
  exact subscriptTail_builtinR (x:=w) pl.isList.typeIs slot_list_getitem.lookup
   (wpAny_getItem_list_neg (Q:=λr s'=>r=w/\EP X pins σ Q r s') pl.isList (by omega) (by rw[size_toArray]<;>omega) (by omega) (by rw[O];simpa using Z) ⟨rfl,fin⟩) hs
theorem O8:IxR X (rIxT X.K):=by
 intro value G pins s σ H x y v u Q I Y O h hs;obtain⟨p,xs,i,z,rfl,rfl,Z,he,q⟩:=h;cases Y;obtain⟨t,rfl⟩:=O;obtain⟨its,r,pl,hz⟩:=I.tuple Z;obtain⟨j,h1,h2,δ,γ,β⟩:=Be he;obtain⟨w,α,L⟩:=r.get h2;have hl:=r.length;have hn:=BU;have fin:EP X pins σ Q w s:=⟨z,H,I,L,q⟩
 exact subscriptTail_builtinR (x:=w) pl.typeIs slot_tuple_getitem.lookup
  (getItem_tuple (j:=j) (Q:=λr s'=>r=w/\EP X pins σ Q r s') pl (by omega) (by omega) (by rw[size_toArray,<-hl];exact h1) (by simpa using α) ⟨rfl,fin⟩) hs
theorem GJ:IxR X rIxS:=by
 intro value G pins s σ H x y v u Q I O L h hs;obtain⟨z,i,c,rfl,rfl,hz,he,q⟩:=h;obtain⟨t,rfl⟩:=O;obtain⟨t',rfl⟩:=L;obtain⟨j,h1,h2,γ,Z,Y⟩:=Be he;have hl:z.cps.toList.length=z.length:=by simp[Str.length]
 rw[hl] at h1 Z Y;have hn:=BU
 exact tail_any (typeIs_str s z t) slot_str_getitem.lookup (getItem_str (c:=c) (by
  have β:decide (i < -(2 ^ 63:Int))=false:=decide_eq_false (by omega);have α:decide (i≥2 ^ 63)=false:=decide_eq_false (by omega);rw[β,α,Bool.or_false]) (by rw[h1];simpa using h2) ⟨.str ⟨#[c]⟩,H,I.tok _,⟨_,rfl⟩,q⟩) hs
theorem yD (lo hi:Option Int) (n:Nat):(sliceBounds lo hi none n).1=((HT.sIx n 0 lo:Nat):Int)/\(sliceBounds lo hi none n).2.1=((HT.sIx n n hi:Nat):Int)/\(sliceBounds lo hi none n).2.2=1:=by
 refine⟨?_,?_,rfl⟩
 ·cases lo with
  | none=>simp[sliceBounds,HT.sIx]
  | some i=>
    simp only[sliceBounds,HT.sIx,getD_none,show(1:Int) > 0 by decide,if_true];by_cases h:i < 0
    ·simp only[h,if_true]<;>omega
    ·simp only[h,if_false]<;>omega
 ·cases hi with
  | none=>simp[sliceBounds,HT.sIx]
  | some i=>
    simp only[sliceBounds,HT.sIx,getD_none,show(1:Int) > 0 by decide,if_true];by_cases h:i < 0
    ·simp only[h,if_true]<;>omega
    ·simp only[h,if_false]<;>omega
theorem xj (its:List Value) (lo hi:Option Int):slicePick its.toArray lo hi none=((its.drop (HT.sIx its.length 0 lo)).take (HT.sIx its.length its.length hi - HT.sIx its.length 0 lo)).toArray:=by
 obtain⟨h1,h2,G⟩:=yD lo hi its.toArray.size;unfold slicePick;rw[h1,h2,G];simp only[sliceRange_one,pick_run,size_toArray]<;>rfl
noncomputable def rSlL (K:PySem.W.Frag):V->Option Int->Option Int->Hp->VK->Prop:=λx lo hi H Q=>∃a xs,x= .ref a/\SqL K H a xs/\∀p,H p=none->Q (.ref p) (upd H p (.lst (cutV xs lo hi)))
theorem LB:SlR X (rSlL X.K):=by
 intro pins s σ H x v α Z lo hi β Q I L hs pl O h;obtain⟨a,xs,rfl,Y,q⟩:=h;cases L;obtain⟨its,r,ht,hz⟩:=I.list Y;have G:=r.length;refine⟨"list",_,slot_list_getitem.lookup,ht.isList.typeIs,?_⟩;refine wpAny_getItem_list_slice ht.isList hs pl O .none (by simp) ?_ (by rw[size_toArray]<;>omega);rw[xj,<-G];refine⟨.ref s.heap.objs.size,_,I.laid (t':=s.toks) (o:= .lst (cutV xs lo hi)) (λb ob q=>Heap.get?_push_of_some _ q) (le_refl _) ?_,rfl,q _ (I.hok.fresh (le_refl _))⟩;exact⟨le_trans (Bb xs lo hi) hz,_,0,(r.drop (HT.sIx xs.length 0 lo)).take (HT.sIx xs.length xs.length hi - HT.sIx xs.length 0 lo),Heap.get?_push_size _ rfl⟩
noncomputable def nL:V->Bool
 | .non=>true
 | .bl _=>true
 | .int _=>true
 | .str _=>true
 | _=>false
noncomputable def eqV:V->V->Bool
 | .non,.non=>true
 | .bl a,.bl b=>a == b
 | .bl a,.int b=>(if a then 1 else 0) == b
 | .int a,.bl b=>a == (if b then 1 else 0)
 | .int a,.int b=>a == b
 | .str a,.str b=>a == b
 | _,_=>false
theorem KJ {A:Around} {s:Shared} {y x:V} {u v:Value} (L:RelV y u) (G:RelV x v) (O:nL y=true) (fx:nL x=true):SeqAt.EqAt A s u v (eqV y x):=by
 cases y with
 | non=>
   cases L;cases x with
   | non=>cases G;exact SeqAt.EqAt.same _
   | bl b=>cases G;exact SeqAt.EqAt.none_bool b
   | int b=>obtain⟨t,rfl⟩:=G;exact SeqAt.EqAt.none_int b t
   | str b=>obtain⟨t,rfl⟩:=G;exact SeqAt.EqAt.none_str b t
   | _=>exact absurd (show false=true from fx) Bool.false_ne_true
 | bl a=>
   cases L;cases x with
   | non=>cases G;exact SeqAt.EqAt.bool_none a
   | bl b=>cases G;exact SeqAt.EqAt.bool_bool a b
   | int b=>obtain⟨t,rfl⟩:=G;exact SeqAt.EqAt.bool_int a b t
   | str b=>obtain⟨t,rfl⟩:=G;exact SeqAt.EqAt.bool_str a b t
   | _=>exact absurd (show false=true from fx) Bool.false_ne_true
 | int a=>
   obtain⟨t',rfl⟩:=L;cases x with
   | non=>cases G;exact SeqAt.EqAt.int_none a t'
   | bl b=>cases G;exact SeqAt.EqAt.int_bool a t' b
   | int b=>obtain⟨t,rfl⟩:=G;exact SeqAt.EqAt.int_int a t' b t
   | str b=>obtain⟨t,rfl⟩:=G;exact SeqAt.EqAt.int_str a t' b t
   | _=>exact absurd (show false=true from fx) Bool.false_ne_true
 | str a=>
   obtain⟨t',rfl⟩:=L;cases x with
   | non=>cases G;exact SeqAt.EqAt.str_none a t'
   | bl b=>cases G;exact SeqAt.EqAt.str_bool a t' b
   | int b=>obtain⟨t,rfl⟩:=G;exact SeqAt.EqAt.str_int a t' b t
   | str b=>obtain⟨t,rfl⟩:=G;exact SeqAt.EqAt.str_str a t' b t
   | _=>exact absurd (show false=true from fx) Bool.false_ne_true
 | _=>exact absurd (show false=true from O) Bool.false_ne_true
noncomputable def eqU (x:V) (u:Value):Bool:=match u with
 | .none=>eqV .non x
 | .bool b=>eqV (.bl b) x
 | .int i _=>eqV (.int i) x
 | .str z _=>eqV (.str z) x
 | _=>false
theorem KH {x y:V} {u:Value} (r:RelV y u) (f:nL y=true):eqU x u=eqV y x:=by
 cases y with
 | non=>cases r;rfl
 | bl b=>cases r;rfl
 | int i=>obtain⟨t,rfl⟩:=r;rfl
 | str z=>obtain⟨t,rfl⟩:=r;rfl
 | _=>exact absurd (show false=true from f) Bool.false_ne_true
theorem vA {x:V}:∀{xs:List V} {us:List Value},Vals xs us->xs.all nL=true->us.any (eqU x)=xs.any λy=>eqV y x
 | _,_,.nil,_=>rfl
 | y::xs,u::us,.cons r t,f=>by
   rw[all_cons,Bool.and_eq_true] at f;rw[any_cons,any_cons,KH r f.1,vA t f.2]
theorem pK {A:Around} {s:Shared} {x:V} {v:Value} (G:RelV x v) (fx:nL x=true):∀{xs:List V} {us:List Value},Vals xs us->xs.all nL=true->∀u∈us,SeqAt.EqAt A s u v (eqU x u)
 | _,_,.nil,_=>λu hu=>by cases hu
 | y::xs,u::us,.cons r t,f=>λL hu=>by
   rw[all_cons,Bool.and_eq_true] at f;rcases mem_cons.mp hu with rfl | hu
   ·rw[KH r f.1];exact KJ r G f.1 fx
   ·exact pK G fx t f.2 L hu
noncomputable def inV (x:V) (xs:List V):Bool:=xs.any λy=>eqV y x
noncomputable def rIn (K:PySem.W.Frag) (neg:Bool):R2:=λx y H Q=>∃p xs,y= .ref p/\(SqL K H p xs∨SqT K H p xs)/\nL x=true/\xs.all nL=true/\Q (.bl (if neg then !inV x xs else inV x xs)) H
theorem F9:OpR X (compareOp .In) (rIn X.K false):=by
 intro pins s σ H x y v u Q I G L h;obtain⟨p,xs,rfl,hq,fx,fs,q⟩:=h;cases L;rcases hq with hq | hq
 ·obtain⟨its,r,pl,hz⟩:=I.list hq;refine SeqAt.in_listAt (eqU x) pl.isList (λw hw=>pK G fx r fs w (by simpa using hw)) ⟨.bl _,H,I,rfl,?_⟩;rw[show its.toArray.any (eqU x)=its.any (eqU x) by simp,vA r fs];exact q
 ·obtain⟨its,r,pl,hz⟩:=I.tuple hq;refine SeqAt.in_tupleAt (eqU x) pl (λw hw=>pK G fx r fs w (by simpa using hw)) ⟨.bl _,H,I,rfl,?_⟩;rw[show its.toArray.any (eqU x)=its.any (eqU x) by simp,vA r fs];exact q
theorem yP:OpR X (compareOp .NotIn) (rIn X.K true):=by
 intro pins s σ H x y v u Q I G L h;obtain⟨p,xs,rfl,hq,fx,fs,q⟩:=h;cases L;rcases hq with hq | hq
 ·obtain⟨its,r,pl,hz⟩:=I.list hq;refine SeqAt.notIn_listAt (eqU x) pl.isList (λw hw=>pK G fx r fs w (by simpa using hw)) ⟨.bl _,H,I,rfl,?_⟩;rw[show its.toArray.any (eqU x)=its.any (eqU x) by simp,vA r fs];exact q
 ·obtain⟨its,r,pl,hz⟩:=I.tuple hq;refine SeqAt.notIn_tupleAt (eqU x) pl (λw hw=>pK G fx r fs w (by simpa using hw)) ⟨.bl _,H,I,rfl,?_⟩;rw[show its.toArray.any (eqU x)=its.any (eqU x) by simp,vA r fs];exact q
theorem zQ:nP X (.type "list") (λxs H Q=>∃p ys,xs=[.ref p]/\(SqL X.K H p ys∨SqT X.K H p ys)/\∀l,H l=none->Q (.ref l) (upd H l (.lst ys))):=by
 intro pins s σ H xs us Q I r h;obtain⟨p,ys,rfl,hq,q⟩:=h;obtain⟨u,rfl,Y⟩:=tR r;cases Y
 have fin:∀(its:List Value),Vals ys its->ys.length<=sizeLine->∀(h':Heap) (G:Nat),(∀b o',s.heap.get? b=some o'->h'.get? b=some o')->
   h'.get? s.heap.objs.size=some {cls:= .type "list",dict:=none,data:= .seq its.toArray G,slots:=#[]}->EP X pins σ Q (.ref s.heap.objs.size) {s with heap:=h'}:=λits r' hz h' G kp e=>
  ⟨.ref s.heap.objs.size,_,I.laid (t':=s.toks) kp (le_refl _) (show gG X.prog X.w _ h' _ (.lst ys) from⟨hz,its,G,r',e⟩),rfl,q _ (I.hok.fresh (le_refl _))⟩
 rcases hq with hq | hq
 ·obtain⟨its,r',pl,hz⟩:=I.list hq;have L:=r'.length;obtain⟨o,ho,O,n,hd⟩:=pl.isList;exact call_list_seq p (.inl rfl) ho O hd (λh' G kp e=>fin its r' hz h' G kp e) (by simp only[size_toArray]<;>omega)
 ·obtain⟨its,r',pl,hz⟩:=I.tuple hq;have L:=r'.length;obtain⟨o,ho,O,n,hd⟩:=pl;exact call_list_seq p (.inr rfl) ho O hd (λh' G kp e=>fin its r' hz h' G kp e) (by simp only[size_toArray]<;>omega)
theorem yk:nP X (.type "tuple") (λxs H Q=>∃p ys,xs=[.ref p]/\((SqL X.K H p ys/\∀l,H l=none->Q (.ref l) (upd H l (.tup ys)))∨(SqT X.K H p ys/\Q (.ref p) H))):=by
 intro pins s σ H xs us Q I r h;obtain⟨p,ys,rfl,h⟩:=h;obtain⟨u,rfl,O⟩:=tR r;cases O;rcases h with ⟨G,q⟩ | ⟨G,q⟩
 ·obtain⟨its,r',pl,hz⟩:=I.list G;have L:=r'.length;refine call_tuple_list pl.isList (λh' kp=>?_) (by simp only[size_toArray]<;>omega);have I1:Inv X pins σ H {s with heap:=h'}:=I.kept (t':=s.toks) kp
  have Y:Inv X pins σ (upd H h'.objs.size (.tup ys)) {s with heap:=h'.push {cls:= .type "tuple",data:= .seq its.toArray}}:=
   I1.laid (t':=s.toks) (λb o e=>Heap.get?_push_of_some _ e) (le_refl _) (show gG X.prog X.w _ _ _ (.tup ys) from⟨hz,its,r',IsTup.new _ _⟩)
  exact⟨.ref h'.objs.size,_,Y,rfl,q _ (I1.hok.fresh (le_refl _))⟩
 ·obtain⟨its,r',pl,hz⟩:=I.tuple G;exact call_tuple_same pl ⟨.ref p,H,I,rfl,q⟩
def tyV (K:PySem.W.Frag) (T:String) (x:V) (H:Hp):Prop:=match x with
 | .str _=>T="str"
 | .int _=>T="int"
 | .ref p=>(T="list"/\∃xs,SqL K H p xs)∨(T="tuple"/\∃o,K.lookup p=some o/\o.cls= .type "tuple"/\o.dict=none)∨
   (T="dict"/\((∃kvs,H p=some (.dK kvs))∨∃kvs,H p=some (.dT kvs)))∨(T="set"/\∃S n,H p=some (.set S n))
 | _=>False
theorem Kd {pins:List (Addr×Obj)} {σ:St} {H:Hp} {s:Shared} {T:String} {x:V} {v:Value} (I:Inv X pins σ H s) (r:RelV x v) (ty:tyV X.K T x H):
  s.TypeIs v T/\∀a,v= .ref a->∃ob,s.heap.get? a=some ob/\ob.dict=none:=by
 cases x with
 | str z=>
   obtain⟨t,rfl⟩:=r;cases(show T="str" from ty);exact⟨typeIs_str s z t,λ_ e=>nomatch e⟩
 | int i=>
   obtain⟨t,rfl⟩:=r;cases(show T="int" from ty);exact⟨typeIs_int s i t,λ_ e=>nomatch e⟩
 | ref p=>
   cases r;rcases ty with ⟨rfl,xs,L⟩ | ⟨rfl,o,hk,O,hd⟩ | ⟨rfl,hk⟩ | ⟨rfl,S,n,hk⟩
   ·obtain⟨its,_,pl,_⟩:=I.list L;refine⟨pl.isList.typeIs,λa e=>?_⟩;cases e;obtain⟨o,n,e,c,hd,_⟩:=pl;exact⟨o,e,hd⟩
   ·refine⟨⟨o,I.kIn p o hk,O⟩,λa e=>?_⟩;cases e;exact⟨o,I.kIn _ o hk,hd⟩
   ·have z:∃o,s.heap.get? p=some o/\o.ExactDict:=by
     rcases hk with ⟨kvs,hk⟩ | ⟨kvs,hk⟩
     ·obtain⟨_,_,_,_,o,_,_,e,ex,_⟩:=I.hok p _ hk;exact⟨o,e,ex⟩
     ·obtain⟨_,_,_,_,o,_,_,e,ex,_⟩:=I.hok p _ hk;exact⟨o,e,ex⟩
    obtain⟨o,e,ex⟩:=z;refine⟨⟨o,e,ex.1⟩,λa G=>?_⟩;cases G;exact⟨o,e,ex.2.1⟩
   ·obtain⟨o,_,_,_,e,ex,_⟩:=I.hok p _ hk;refine⟨⟨o,e,ex.1⟩,λa G=>?_⟩;cases G;exact⟨o,e,ex.2.1⟩
 | _=>exact False.elim ty
noncomputable def tBM0 (K:PySem.W.Frag) (T:String) (r:V->List V->Hp->VK->Prop) (to:TE):TE:=fun σ H Q=>to σ H λx H1=>tyV K T x H1/\r x [] H1 Q
noncomputable def tBM (K:PySem.W.Frag) (T:String) (r:V->List V->Hp->VK->Prop) (to:TE) (t:TA):TE:=fun σ H Q=>to σ H λx H1=>tyV K T x H1/\t σ H1 λxs H2=>r x xs H2 Q
variable {o e:Expr} {es:List Expr} {to:TE} {t:TA} {name:Str} {apos cpos:Pos} {T id:String} {r:V->List V->Hp->VK->Prop}
theorem OF (γ:PlainAttrs T) (slot:Slot T name id) (O:typeOf (.builtin id)=pure (.type "method_descriptor")) (hm:MtR X id r) (ho:PE X o to)
  (L:attributeBase o name X.env (eval o X.env)=eval o X.env:=by rfl) (G:(apos.endLine == cpos.line)=true:=by rfl):PE X (.Call (.Attribute o name apos) [] [] cpos) (tBM0 X.K T r to):=by
 intro pins s σ H Q I h;refine wpAny_Call_method0_late L G (thn (ho pins s σ H _ I h) λv α ⟨x,H1,Z,Y,ty,β⟩=>?_);obtain⟨h1,h2⟩:=Kd Z Y ty;exact⟨T,id,γ,slot,O,h1,h2,Calls.callWith_builtin rfl (PySem.evalArgs_none (hm pins α σ H1 x [] v [] Q Z Y .nil β))⟩
theorem Qn (ι:PlainAttrs T) (slot:Slot T name id) (Z:typeOf (.builtin id)=pure (.type "method_descriptor")) (hm:MtR X id r) (ho:PE X o to) (ha:PA X (e::es) t)
  (O:attributeBase o name X.env (eval o X.env)=eval o X.env:=by rfl)
  (Y:((backTo cpos (starEach (e::es) X.env)).all (λx=> !x.1)&&(backToKw cpos (keywordEach [] X.env)).all (λx=>x.1.isSome)
   &&decide ((e::es).length + ([]:List Keyword).length + (if ([]:List Keyword).isEmpty then 0 else 1) < 30))=true:=by rfl)
  (L:(apos.endLine == cpos.line)=true:=by rfl) (hs:starEach (e::es) X.env=(false,eval e X.env)::starEach es X.env:=by rfl) (G:(backTo cpos (starEach es X.env)).any (·.1)=false:=by rfl):
  PE X (.Call (.Attribute o name apos) (e::es) [] cpos) (tBM X.K T r to t):=by
 intro pins s σ H Q I h;refine wpAny_Call_method_late O Y L rfl (thn (ho pins s σ H _ I h) λv ε ⟨x,H1,γ,α,ty,θ⟩=>?_);obtain⟨h1,h2⟩:=Kd γ α ty;refine⟨T,id,ι,slot,Z,h1,h2,?_⟩;have β:=ha cpos pins ε σ H1 _ γ θ;rw[hs] at β ⊢;refine Calls.callWith_builtin (by show(false||(backTo cpos (starEach es X.env)).any (·.1))=false;rw[G]<;>rfl) (Calls.evalArgs_plain ?_);exact thn β λus δ ⟨vs,H2,ν,ζ,η⟩=>hm pins δ σ H2 x vs v us Q ν α ζ η
end
def MtM (X:Cx) (id:String) (r:V->List V->Hp->VK->Prop):Prop:=
 ∀(pins:List (Addr×Obj)) (s:Shared) (σ:St) (H:Hp) (x:V) (xs:List V) (v:Value) (us:List Value) (Q:VK),Inv X pins σ H s->RelV x v->Vals xs us->r x xs H Q->
  wpAny (model X.prog X.w) X.A (call (.builtin id) (v::us)) (EP X pins σ Q) X.xe s
theorem Vals.one:∀{x:V} {us:List Value},Vals [x] us->∃u,us=[u]/\RelV x u
 | _,_,.cons r .nil=>⟨_,rfl,r⟩
theorem Vals.two:∀{x y:V} {us:List Value},Vals [x,y] us->∃u v,us=[u,v]/\RelV x u/\RelV y v
 | _,_,_,.cons r (.cons q .nil)=>⟨_,_,rfl,r,q⟩
theorem Vals.reverse {xs:List V} {us:List Value} (h:Vals xs us):Vals xs.reverse us.reverse:=by
 induction h with
 | nil=>exact .nil
 | cons r t ih=>rw[reverse_cons,reverse_cons];exact Vals.append ih (.cons r .nil)
theorem Vals.rep {xs:List V} {us:List Value} (h:Vals xs us):∀k:Nat,Vals (List.replicate k xs).flatten (List.replicate k us).flatten
 | 0=> .nil
 | k + 1=>by
   rw[replicate_succ,replicate_succ,flatten_cons,flatten_cons];exact Vals.append h (Vals.rep h k)
theorem zu (its:List Value):∀(k:Nat) (G:List Value),
  List.foldl (λx1 x2=>x1++x2) G.toArray (List.replicate k its.toArray)=(G++(List.replicate k its).flatten).toArray
 | 0,G=>by simp
 | k + 1,G=>by
   have e:G.toArray++its.toArray=(G++its).toArray:=by simp
   have L:(G++its)++(List.replicate k its).flatten=G++(List.replicate (k + 1) its).flatten:=by
    rw[replicate_succ,flatten_cons,append_assoc]
   rw[<-L,<-zu its k (G++its),<-e,replicate_succ,List.foldl_cons]
section
variable {X:Cx} {pins:List (Addr×Obj)} {σ:St} {H:Hp} {s:Shared} {l b:Addr} {xs ys zs:List V}
theorem Inv.lset {its its':List Value} {n:Nat} {f:Array Value->Array Value} {t':Nat} (I:Inv X pins σ H s) (O:H l=some (.lst xs))
  (e:s.heap.get? l=some {cls:= .type "list",data:= .seq its.toArray n}) (hf:f its.toArray=its'.toArray) (G:Vals ys its') (hz:ys.length<=sizeLine):
  Inv X pins σ (upd H l (.lst ys)) {s with heap:=s.heap.update l (Obj.mapSeq f),toks:=t'}:=by
 have q:=PySem.IsL.update e f;rw[hf] at q;refine I.write (x:=l) (e:=l) (by rw[O];exact trivial) (.inl rfl) (λY u hb L=>(Heap.get?_update_other s.heap (Obj.mapSeq f) (Ne.symm hb)).trans L) ⟨_,q⟩ ?_;exact⟨hz,its',_,G,q⟩
theorem Inv.lnew {its:List Value} {t':Nat} (I:Inv X pins σ H s) (G:Vals ys its) (hz:ys.length<=sizeLine):
  Inv X pins σ (upd H s.heap.objs.size (.lst ys)) {s with heap:=s.heap.push {cls:= .type "list",data:= .seq its.toArray},toks:=t'}:=
 I.laid (λ_ _ q=>Heap.get?_push_of_some _ q) (le_refl _) ⟨hz,its,0,G,Heap.get?_push_size _ rfl⟩
theorem Inv.fresh (I:Inv X pins σ H s):H s.heap.objs.size=none:=I.hok.fresh (le_refl _)
theorem Inv.lstM (I:Inv X pins σ H s) (G:H l=some (.lst xs)):xs.length<=sizeLine/\∃(its:List Value) (n:Nat),Vals xs its/\xs.length=its.length/\s.heap.get? l=some {cls:= .type "list",data:= .seq its.toArray n}:=by
 obtain⟨z,its,n,r,e⟩:=I.hok l _ G;exact⟨z,its,n,r,r.length,e⟩
theorem BO {n:Nat} (h:n<=sizeLine):Builtin.List.listTooLong n=false:=by
 unfold Builtin.List.listTooLong;exact decide_eq_false (by omega)
end
section
variable {X:Cx}
noncomputable def FV:V->List V->Hp->VK->Prop:=λx vs H Q=>∃l xs y,x= .ref l/\vs=[y]/\H l=some (.lst xs)/\xs.length < sizeLine/\Q .non (upd H l (.lst (xs++[y])))
theorem cW:MtM X "list.append" FV:=by
 intro pins s σ H x vs v us Q I L O h;obtain⟨l,xs,y,rfl,rfl,G,hz,q⟩:=h;cases L;obtain⟨u,rfl,Y⟩:=O.one;obtain⟨z,its,n,r,hl,e⟩:=I.lstM G;refine call_meets F.slot_list_append ⟨_,e,rfl⟩ F.entry_list_append (F.args_list_append_2 _ _) (PySem.list_append l its.toArray n u (by rw[size_toArray];omega)) ⟨e,?_⟩;refine⟨.non,_,I.lset (its':=its++[u]) G e (by simp) (r.append (.cons Y .nil)) ?_,rfl,q⟩;rw[length_append,length_singleton];omega
noncomputable def FU:V->List V->Hp->VK->Prop:=λx vs H Q=>∃l b xs zs,x= .ref l/\vs=[.ref b]/\H l=some (.lst xs)/\H b=some (.lst zs)/\xs.length + zs.length<=sizeLine/\Q .non (upd H l (.lst (xs++zs)))
theorem kj:MtM X "list.extend" FU:=by
 intro pins s σ H x vs v us Q I Y Z h;obtain⟨l,b,xs,zs,rfl,rfl,O,δ,hz,q⟩:=h;cases Y;obtain⟨u,rfl,α⟩:=Z.one;cases α;obtain⟨z,its,n,r,hl,e⟩:=I.lstM O;obtain⟨ζ,G,γ,β,hl2,ε⟩:=I.lstM δ;have hsz:its.toArray.size + G.toArray.size<=sizeLine:=by rw[size_toArray,size_toArray];omega
 have L:¬(!its.toArray.isEmpty&&Builtin.List.listTooLong (its.toArray.size + G.toArray.size))=true:=by
  rw[BO hsz,Bool.and_false];exact Bool.false_ne_true
 refine call_meets F.slot_list_extend ⟨_,e,rfl⟩ F.entry_list_extend (F.args_list_extend_2 _ _)
  (AutoSeq1.list_extend_list_list_0 l its.toArray n b G.toArray γ L (by rw[size_toArray];omega) (by omega)) ⟨e,ε,?_⟩
 refine⟨.non,_,I.lset (its':=its++G) O e (by simp) (r.append β) ?_,rfl,q⟩;rw[length_append];omega
noncomputable def rCat:R2:=λx y H Q=>∃l b xs zs,x= .ref l/\y= .ref b/\H l=some (.lst xs)/\H b=some (.lst zs)/\xs.length + zs.length<=sizeLine/\∀p,H p=none->Q (.ref p) (upd H p (.lst (xs++zs)))
theorem i5:OpR X (binaryOp .Add) rCat:=by
 intro pins s σ H x y v u Q I O L h;obtain⟨l,b,xs,zs,rfl,rfl,Z,α,hz,q⟩:=h;cases O;cases L;obtain⟨z,its,n,r,hl,e⟩:=I.lstM Z;obtain⟨γ,G,δ,Y,hl2,β⟩:=I.lstM α;refine PySem.P.add_list e β ?_ (by rw[size_toArray,size_toArray];omega);have ea:its.toArray++G.toArray=(its++G).toArray:=by simp
 rw[ea];exact⟨.ref _,_,I.lnew (t':=s.toks) (r.append Y) (by rw[length_append];omega),rfl,q _ I.fresh⟩
noncomputable def rRep:R2:=λx y H Q=>∃l k xs,x= .ref l/\y= .int k/\H l=some (.lst xs)/\-(2 ^ 63)<=k/\k < 2 ^ 63/\xs.length * k.toNat<=sizeLine/\
 ∀p,H p=none->Q (.ref p) (upd H p (.lst (List.replicate k.toNat xs).flatten))
theorem Mo {α:Type} (xs:List α) (k:Nat):(List.replicate k xs).flatten.length=k * xs.length:=by
 induction k with
 | zero=>simp
 | succ k ih=>rw[replicate_succ,flatten_cons,length_append,ih,Nat.succ_mul,add_comm]
theorem Kw:OpR X (binaryOp .Mult) rRep:=by
 intro pins s σ H x y v u Q I β α h;obtain⟨l,k,xs,rfl,rfl,γ,h1,h2,hz,q⟩:=h;cases β;obtain⟨t,rfl⟩:=α;obtain⟨z,its,n,r,hl,e⟩:=I.lstM γ;have O:its.toArray.size * k.toNat<=sizeLine:=by rw[size_toArray,<-hl];exact hz
 have Z:¬its.toArray.size * k.toNat > (2 ^ 63 - 1) / 8:=by
  have:(sizeLine:Nat)<=(2 ^ 63 - 1) / 8:=by decide
  omega
 have Y:¬(!Builtin.List.listFitsIndex k)=true:=by
  rw[fitsIndex_both h1 h2];exact Bool.false_ne_true
 have G:¬Builtin.List.listTooLong (its.toArray.size * k.toNat)=true:=by
  rw[BO O];exact Bool.false_ne_true
 have L:List.foldl (λx1 x2=>x1++x2) #[] (List.replicate (if its.toArray.isEmpty=true then 0 else k.toNat) its.toArray)=(List.replicate k.toNat its).flatten.toArray:=by
  have δ:∀m:Nat,List.foldl (λx1 x2=>x1++x2) #[] (List.replicate m its.toArray)=(List.replicate m its).flatten.toArray:=λm=>by
   have:=zu its m [];rw[List.nil_append] at this;exact this
  rw[δ];cases its with
  | nil=>simp
  | cons a r'=>rw[if_neg (by simp)]
 refine wpAny_binaryOp_repeat_ref (T:="list") (U:="int") (by decide) ⟨_,e,rfl⟩ (λs'=>typeIs_int s' k t) noFill_list_mul F.fills_int_mul F.slot_int_rmul repeat_list F.slot_int_index.lookup
  (call_meets F.slot_int_rmul (typeIs_int s k t) F.entry_int_rmul (F.args_int_rmul_2 _ _) (int___rmul___int_list k t l its.toArray n)
   ⟨e,rfl,⟨_,e,rfl⟩,call_meets F.slot_list_mul ⟨_,e,rfl⟩ F.entry_list_mul (F.args_list_mul_2 _ _) (AutoListH.list___mul___list_int_3 l its.toArray n k t Y Z G) ⟨e,?_⟩⟩)
 rw[L];exact⟨.ref _,_,I.lnew (t':=s.toks) (r.rep k.toNat) (by rw[Mo,Nat.mul_comm];exact hz),rfl,q _ I.fresh⟩
end
end L2
namespace Att
open PySem PySem.W PySem.Calls PyProof.Rows
theorem vb {P:Params} {h:Heap}:∀(ns:List Int) (vs:List Value),WellAll P h vs (ns.map WData.int)->IntsAre vs ns:=by
 intro ns
 induction ns with
 | nil=>
   intro vs w;rw[map_nil] at w;cases w;exact .nil
 | cons n ns ih=>
   intro vs w;rw[map_cons] at w;cases w with
   | cons a b=>
     cases a;exact .cons _ _ (ih _ b)
theorem FA {l:OpenLaw} {n:Nat} (hn:l.most=some n) {P:Params} {h:Heap} {args:List WData} {G:List Value}
  (L:l.row.toRowW.claim.pre args=true) (β:WellAll P h G args):
  ∃a vs ns,G=[Value.ref a]/\args=[WData.list (ns.map WData.int)]/\h.get? a=some {cls:= .type "list",data:= .seq vs.toArray}/\IntsAre vs ns/\ns.length<=n:=by
 have γ:WShape.hasAll [] args [.list .int]=true:=(pre_splitW L).1;have δ:l.pre.holds [] {args:=args}=true:=(pre_splitW L).2;obtain⟨d,r,rfl,h1,h2⟩:=hasAllW_cons γ;obtain rfl:=hasAllW_nil h2;obtain⟨xs,rfl,θ⟩:=hasW_list h1;obtain⟨ns,rfl⟩:=items_int θ
 have O:ns.length<=n:=by
  unfold OpenLaw.pre at δ
  have α:(WTm.not (.lt (.lit (.int (n:Int))) (.len (.arg 0)))).holds [] {args:=[.list (ns.map .int)]}=true:=by
   have α:=(holds_andW δ).1;rw[hn] at α;exact α
  have Z:=condW_of α (w_not (w_lt w_lit (w_len_list (w_arg rfl))));rw[length_map] at Z;refine Nat.le_of_not_lt λq=>?_;have η:(n:Int) < ((ns.length:Nat):Int):=by omega
  first
   | (rw[decide_eq_true η] at Z;exact absurd Z (by decide))
   | (simp at Z;omega)
 cases β with
 | cons ζ ε=>
   cases ε;cases ζ with
   | list ho Y=>exact⟨_,_,ns,rfl,rfl,ho,vb ns _ Y,O⟩
theorem F4 (l:OpenLaw) (args:List WData):l.row.toRowW.claim.post args (.bool true) args=true:=
 postW_of (r:=l.row.toRowW) (X:=(true == true))
  (show WShape.has [] (.bool true) .bool=true by first | rfl | decide | simp[WShape.has,WShape.arms,WShape.armsAll])
  (show(WTm.eq .res (.lit (.bool true))).value [] {args:=args,res:=some (.bool true),after:=args}=some (.bool (true == true)) from w_eq_bool (w_res rfl) w_lit) rfl
theorem attach_call {l:OpenLaw} {n:Nat} {q:Program} {O:List Str} {φ:(Str->Option Value)->Heap->Prop} {υ:World->Heap->Prop} {d:DefRec}
  (hn:l.most=some n) (ξ:d.params.defaults=[])
  (call:∀(w:World) (s₀ L:Shared) (mg θ:Str->Option Value) (ε:Addr) (o:Obj) (η ζ α:Value) (a:Addr) (vs:List Value) (ns:List Int),
   Ground q O [] φ w s₀ mg θ L.heap->υ w L.heap->
   L.heap.get? ε=some o->o.data= .func (docDef d.name d.params d.body d.scope η ζ α)->L.heap.CodeRec ζ d.name->mg d.name=some (.ref ε)->
   L.heap.get? a=some {cls:= .type "list",data:= .seq vs.toArray}->IntsAre vs ns->ns.length<=n->L.gens=#[]->
   codeAny (model l.prog w) callerA (.call (.ref ε) ⟨[.ref a],[]⟩) (λr s'=>r= .ok (.ret (.bool true))/\OldK L.heap s'.heap/\s'.os=L.os/\AllBare s'.gens) L):
  WalkO q O φ υ l.row.toRowW d [] (λf vs=>PySem.call f vs):=by
 intro w s₀ L mg θ G Y ε o η ζ α dV kV ho hd ο τ ν hg args π as β ρ χ ι ω;obtain rfl:dV= .none:=Dflts.none τ ξ;obtain rfl:kV= .none:=Dflts.noKw τ;obtain⟨a,vs,ns,rfl,rfl,γ,Z,δ⟩:=FA hn β ι;refine enter_call (codeAny_mono (call w s₀ L mg θ ε o η ζ α a vs ns G Y ho (fd_plain hd) ο ν γ Z δ hg) λr s' ψ=>?_);obtain⟨rfl,h2,h3,h4⟩:=ψ;exact⟨.inl ⟨.bool true,.bool true,[],rfl,λ_=>rfl,.bool true,F4 l _,λ_=>⟨List.Pairwise.nil,λ_ hm=>(nomatch hm)⟩⟩,h2,h3,h4⟩
end Att
namespace L2
open PySem PySem.Spec PyProof.Rows
theorem tQ:∀{vs:List Value} {ns:List Int},IntsAre vs ns->Vals (ns.map V.int) vs
 | _,_,.nil=> .nil
 | _,_,.cons n t h=> .cons ⟨t,rfl⟩ (tQ h)
def Only (H:Hp):Prop:=∀b,H b=none∨∃o xs,H b=some (.frz o (.lst xs))
theorem JC {P:Program} {w:World} {K:PySem.W.Frag} {mg θ:Str->Option Value} {CX:CXT} {k:Nat} {ο a:Addr} {fd:FuncData} {x:Str} {sp:Sp} {G:Shared} {vs:List Value} {ns:List Int}
  (φ:K.In G.heap) (δ:G.heap.Ns mainGlobals mg) (hb:G.heap.Ns builtinsNs θ) (ν:∀x:Str,x≠"__name__"->θ x=bootBuiltins x) (ε:G.heap.NoLimit) (hg:G.gens=#[])
  (ha:G.heap.get? a=some {cls:= .type "list",data:= .seq vs.toArray}) (hi:IntsAre vs ns) (hl:ns.length<=sizeLine) (hr:Room k callerA)
  (F:∀base:Heap,K.In base->base.Ns mainGlobals mg->FnOk P w K mg base CX k ο fd [x] sp) (Z:∀(s:Shared) (u:Value),BindsTo s fd ⟨[u],[]⟩ [(x,u)])
  (ι:∀H:Hp,Only H->SqL K H a (ns.map V.int)->sp [.ref a] H (λv _=>v= .bl true) λ_ _ _=>False)
  (ξ:∀H e s',CX [] H G (λ_ _ _=>False) e s'->False):
  codeAny (model P w) callerA (.call (.ref ο) ⟨[.ref a],[]⟩) (λr s'=>r= .ok (.ret (.bool true))/\OldK G.heap s'.heap/\s'.os=G.os/\AllBare s'.gens) G:=by
 have ρ:=tQ hi;have β:=hi.length
 have Y:∀H:Hp,Only H->SqL K H a (ns.map V.int)->HOk P w H G.heap->(∀b,H b≠none->b=a)->(H a≠none->K.lookup a=none)->
   codeAny (model P w) callerA (.call (.ref ο) ⟨[.ref a],[]⟩) (λr s'=>r= .ok (.ret (.bool true))/\OldK G.heap s'.heap/\s'.os=G.os/\AllBare s'.gens) G:=by
  intro H hO hS hok τ hK;have L:∀{b:Addr} {o:Obj},G.heap.get? b=some o->H b=none->(hidT G.heap H).get? b=some o:=λe n=>JH e n
  have η:∀{b:Addr} {o:Obj} {es:Array DictEntry} {ep:Nat},G.heap.get? b=some o->o.data= .dict es ep->H b=none:=λ{b o es ep} e d=>by
   cases q:H b with
   | none=>rfl
   | some u=>
     have π:b=a:=τ b (by rw[q];simp);subst π;rw[ha] at e;cases e;have d':Data.seq vs.toArray _=Data.dict es ep:=d;cases d'
  have O:∀{b:Addr} {m:Str->Option Value},G.heap.Ns b m->(hidT G.heap H).Ns b m:=λ{b m} ⟨o,es,ep,e,d,r⟩=>⟨o,es,ep,L e (η e d),d,r⟩
  have ζ:K.In (hidT G.heap H):=λb o e=>L (φ b o e) (by
   cases q:H b with
   | none=>rfl
   | some u=>
     have π:b=a:=τ b (by rw[q];simp);subst π;rw[hK (by rw[q];simp)] at e;cases e)
  have hM:Mod K mg (hidT G.heap H):=⟨ζ,O δ,⟨θ,O hb,ν⟩,let ⟨ω,h1,h2⟩:=ε;⟨ω,O h1,h2⟩⟩;have e0:Env0 P w K mg (hidT G.heap H) callerA [] G H:=⟨rfl,hM,λb o e=>Mb e,Nat.le_of_eq (GO _ _),trivial,λb hb=>absurd (show b∈([]:List Addr) from hb) (by simp),hok,.of_eq hg⟩;refine codeAny_mono ((F _ ζ (O δ)).run callerA [] G H ⟨[.ref a],[]⟩ [.ref a] [.ref a] _ _ hr e0 (Z G (.ref a)) (.cons rfl .nil) (ι H hO hS)) λr s' h=>?_;cases r with
  | error e=>exact(ξ H e s' h).elim
  | ok fl=>
    cases fl with
    | next=>exact False.elim h
    | brk=>exact False.elim h
    | cont=>exact False.elim h
    | ret u=>
      obtain⟨v,H',os,bare,un,γ,r',q⟩:=h;have ψ:v= .bl true:=q;subst ψ;obtain rfl:u=Value.bool true:=r';refine⟨rfl,OldK.of_keep λb o e=>?_,os,bare⟩;cases q:H b with
      | none=>exact un.keep b o e q (by intro z;exact absurd (show b∈([]:List Addr) from z) (by simp)) (by simp)
      | some u=>
        rcases hO b with z | ⟨ob,xs,z⟩
        ·rw[q] at z;cases z
        ·have χ:=un.frzs b ob _ z;obtain⟨υ,_⟩:=hok b _ z;obtain⟨e2,_⟩:=γ b _ χ;rw[e] at υ;cases υ;exact e2
 cases hk:K.lookup a with
 | some o=>
   have e:=φ a o hk;rw[ha] at e;cases e;refine Y (λ_=>none) (λ_=> .inl rfl) (.inr ⟨_,vs.toArray,_,hk,rfl,rfl,rfl,by rw[size_toArray,β];exact hl,by simpa using ρ⟩) (λb u z=>by have α:(none:Option HO)=some u:=z;cases α) (λb z=>absurd rfl z) λz=>absurd rfl z
 | none=>
   refine Y (λb=>if b=a then some (.frz {cls:= .type "list",data:= .seq vs.toArray} (.lst (ns.map V.int))) else none) (λb=>?_) (.inl (.inr ⟨{cls:= .type "list",data:= .seq vs.toArray},if_pos rfl⟩)) (λb u z=>?_) (λb z=>?_) λ_=>hk
   ·by_cases hb:b=a
    ·exact .inr ⟨_,_,if_pos hb⟩
    ·exact .inl (if_neg hb)
   ·by_cases hb:b=a
    ·have α:=(if_pos hb).symm.trans z;cases α;subst hb;exact⟨ha,by rw[length_map];exact hl,vs,_,ρ,ha⟩
    ·have α:=(if_neg hb).symm.trans z;cases α
   ·by_cases hb:b=a
    ·exact hb
    ·exact absurd (if_neg hb) z
theorem walk_of {l:PySem.W.OpenLaw} {n k:Nat} {q:Program} {O:List Str} {χ:(Str->Option Value)->Heap->Prop} {ι:World->Heap->Prop} {d:DefRec} {K:Params->PySem.W.Frag} {CX:World->CXT} {sp:World->Sp} {x:Str}
  (hn:l.most=some n) (ε:n<=sizeLine) (η:d.params.defaults=[]) (ξ:Room k callerA)
  (ρ:∀(w:World) (h:Heap),ι w h->(K w.params).In h)
  (F:∀(w:World) (mg:Str->Option Value) (γ:Addr) (h:Heap),(K w.params).In h->h.Ns mainGlobals mg->mg d.name=some (.ref γ)->
   ∃fd:FuncData,(∀(s:Shared) (u:Value),BindsTo s fd ⟨[u],[]⟩ [(x,u)])/\
     ∀base:Heap,(K w.params).In base->base.Ns mainGlobals mg->FnOk l.prog w (K w.params) mg base (CX w) k γ fd [x] (sp w))
  (δ:∀(w:World) (H:Hp) (a:Addr) (ns:List Int),ns.length<=n->Only H->SqL (K w.params) H a (ns.map V.int)->sp w [.ref a] H (λv _=>v= .bl true) λ_ _ _=>False)
  (θ:∀(w:World) (H:Hp) (s:Shared) (e:Value) (s':Shared),CX w [] H s (λ_ _ _=>False) e s'->False):
  PySem.W.WalkO q O χ ι l.row.toRowW d [] (λf vs=>PySem.call f vs):=by
 refine Att.attach_call hn η λw s₀ α mg ω γ o ψ cd φ a vs ns G Y ho hd π ζ β Z L ο=>?_;have ν:=ρ w _ Y;obtain⟨fd,hb,υ⟩:=F w mg γ _ ν G.T.g ζ;exact JC ν G.T.g G.T.b G.T.builtins G.T.nolimit ο β Z (le_trans L ε) ξ υ hb (λH hO τ=>δ w H a ns L hO τ) λH e s'=>θ w H α e s'
noncomputable def bC (s:Stmt) (j:Nat):Stmt:=match s with
 | .ClassDef _ _ _ G _ _ _ _ _ _ _=>G.getD j (.Pass ⟨0,0,0,0⟩)
 | _=> .Pass ⟨0,0,0,0⟩
noncomputable def g6 (s:Stmt):Arguments:=match s with
 | .FunctionDef _ a _ _ _ _ _ _ _ _=>a
 | _=>{posonlyargs:=[],args:=[],vararg:=none,kwonlyargs:=[],kw_defaults:=[],kwarg:=none,defaults:=[]}
noncomputable def eT (s:Stmt):List Stmt:=match s with
 | .FunctionDef _ _ b _ _ _ _ _ _ _=>b
 | _=>[]
noncomputable def ah (s:Stmt):Scope:=match s with
 | .FunctionDef _ _ _ _ _ _ G _ _ _=>G
 | _=>{kind:= .function,names:=[],isGenerator:=false,isCoroutine:=false}
noncomputable abbrev CX0:CXT:=λ_ _ _ _ _ _=>False
noncomputable abbrev E0:XK:=λ_ _ _=>False
theorem bO {X:Cx}:p9 CX0 X E0:=λ_ _ _ _ _ _ _ h=>h.elim
structure Fun (K:PySem.W.Frag) (x qual:Str) (st:Stmt) (f:Addr) (fd:FuncData):Prop where
 ex:∃(oc:Value) (od:Option Addr) (kV doc pm:Value) (an:Option Addr) (cdv ct:Value) (osl:Array (Option Value)),
  fd=PySem.W.fnOf x qual (g6 st) (eT st) (ah st) .none kV doc pm an cdv ct/\K.lookup f=some ⟨oc,od,.func fd,osl⟩/\PySem.W.codeIn K cdv qual=true
 kp:PySem.W.keepIn K (.ref f)=true
section
variable {P:Program} {w:World} {K:PySem.W.Frag} {mg:Str->Option Value} {base:Heap}
theorem Fun.ok {x G:Str} {st:Stmt} {f:Addr} {fd:FuncData} {N ps:List Str} {k:Nat} {sp:Sp} (F:Fun K x G st f fd) (S:aq N ps (ah st)) (len:∀vs H Q E,sp vs H Q E->vs.length=ps.length)
  (O:∀(L:Value) (A:Around) (outer:List Env) (s:Shared) (H:Hp) (vs:List V) (Q:VK) (E:XK),Room k (A.deeper (envOfC G (ah st) s.heap.objs.size f L))->sp vs H Q E->
   ∃t,PSs (cxOf CX0 P w K mg base N G (ah st) f L A outer s H E).nox (eT st) t/\t {nx:=λ_ H'=>Q .non H',rt:=Q} (start N vs) H):FnOk P w K mg base CX0 (k + 1) f fd ps sp:=by
 obtain⟨ε,od,kV,γ,δ,an,L,ct,α,rfl,lk,Z⟩:=F.ex;refine MF lk Z S len λA outer s H vs Q E β Y=>?_;obtain⟨t,h,q⟩:=O L A outer s H vs Q E β Y;exact⟨t,h.nox,q⟩
theorem Fun.okA {x G:Str} {st:Stmt} {f:Addr} {fd:FuncData} {N ps:List Str} {k:Nat} {sp:Sp} (F:Fun K x G st f fd) (S:aq N ps (ah st))
  (L:∀(O:Value) (A:Around) (outer:List Env) (s:Shared) (H:Hp) (vs:List V) (Q:VK) (E:XK),Room k (A.deeper (envOfC G (ah st) s.heap.objs.size f O))->sp vs H Q E->
   ∃t,PSs (cxOf CX0 P w K mg base N G (ah st) f O A outer s H E).nox (eT st) t/\t {nx:=λ_ H'=>Q .non H',rt:=Q} (start N vs) H) (len:∀vs H Q E,sp vs H Q E->vs.length=ps.length:=by walk_at "n"):FnOk P w K mg base CX0 (k + 1) f fd ps sp:=F.ok S len L
theorem Fun.binds {x G:Str} {st:Stmt} {f:Addr} {fd:FuncData} {ps:List Str} (F:Fun K x G st f fd)
  (h:∀(kV L Y:Value) (an:Option Addr) (O ct:Value) (us:List Value),us.length=ps.length->bindArgs (PySem.W.fnOf x G (g6 st) (eT st) (ah st) .none kV L Y an O ct) ⟨us,[]⟩=pure (ps.zip us)):nQ K fd ps []:=by
 obtain⟨β,od,kV,L,Y,an,O,ct,Z,rfl,lk,α⟩:=F.ex;exact .all (h kV L Y an O ct)
theorem KD {x G:Str} {st:Stmt} {f:Addr} {α:Value} {od an:Option Addr} {Y:Array (Option Value)} {kV O Z L ct:Value} (l:K.lookup f=some ⟨α,od,.func (PySem.W.fnOf x G (g6 st) (eT st) (ah st) .none kV O Z an L ct),Y⟩)
  (c:PySem.W.codeIn K L G=true) (k:PySem.W.keepIn K (.ref f)=true):Fun K x G st f (PySem.W.fnOf x G (g6 st) (eT st) (ah st) .none kV O Z an L ct):=⟨⟨α,od,kV,O,Z,an,L,ct,Y,rfl,l,c⟩,k⟩
end
theorem oR {A:Around} {k:Nat} (G:Room k A):A.units + 1 < cLine:=lt_of_le_of_lt (Nat.add_le_add_left (by decide:1<=64) _) G.units
theorem aE {n:Nat} (h:n<=1000):n < sizeLine:=lt_of_le_of_lt h (by decide)
section
variable {X:Cx}
theorem pv (i:Nat) {x:Str} {pos:Pos} (O:X.N[i]? =some x:=by rfl) (L:Vis X.env.scope x:=by first | exact Or.inl rfl | exact Or.inr (Or.inl rfl) | exact Or.inr (Or.inr rfl)) (hd:(x == ("__debug__":Str))=false:=by decide)
  (G:(x == ("__classdict__":Str))=false:=by decide):PE X (.Name x pos) (tVar i):=OB O L hd G
end
theorem ite2 {c A B:Prop} [Decidable c] (h1:c->A) (h2:¬c->B):if c then A else B:=by
 by_cases h:c
 ·rw[if_pos h];exact h1 h
 ·rw[if_neg h];exact h2 h
def Same (H H':Hp):Prop:=∀b o,H b=some o->H' b=some o
theorem Same.refl (H:Hp):Same H H:=λ_ _ h=>h
theorem Same.trans {H H1 H2:Hp} (a:Same H H1) (b:Same H1 H2):Same H H2:=λc o h=>b c o (a c o h)
theorem Same.free {H H':Hp} (e:Same H H') {l:Addr} (h:H' l=Option.none):H l=Option.none:=by
 cases q:H l with
 | none=>rfl
 | some o=>
   rw[e l o q] at h;cases h
theorem Same.seq {K:PySem.W.Frag} {H H':Hp} {a:Addr} {xs:List V} (e:Same H H') (h:SqL K H a xs):SqL K H' a xs:=by
 rcases h with (h | ⟨o,h⟩) | h
 ·exact .inl (.inl (e _ _ h))
 ·exact .inl (.inr ⟨o,e _ _ h⟩)
 ·exact .inr h
section
variable {κ:Type} [DecidableEq κ]
noncomputable def valV (kvs:List (κ×V)) (k:κ):Option V:=(kvs.find? λG=>decide (G.1=k)).map (·.2)
noncomputable def putK (kvs:List (κ×V)) (k:κ) (v:V):List (κ×V):=
 if (kvs.any λG=>decide (G.1=k))=true then kvs.map (λG=>if G.1=k then (G.1,v) else G) else kvs++[(k,v)]
theorem kD {p:κ×V} {r:List (κ×V)} {k:κ} (e:p.1=k):valV (p::r) k=some p.2:=by simp[valV,find?_cons,e]
theorem kE {p:κ×V} {r:List (κ×V)} {k:κ} (e:¬p.1=k):valV (p::r) k=valV r k:=by simp[valV,find?_cons,e]
theorem o3 (k:κ):∀kvs:List (κ×V),(kvs.any λG=>decide (G.1=k))=(valV kvs k).isSome
 | []=>rfl
 | p::r=>by
   rw[any_cons];by_cases e:p.1=k
   ·simp only[kD e,decide_eq_true e,Bool.true_or,Option.isSome_some]
   ·rw[kE e,decide_eq_false e,Bool.false_or];exact o3 k r
theorem uS (kvs:List (κ×V)) (k:κ) (v:V):(putK kvs k v).length<=kvs.length + 1:=by
 unfold putK;split
 ·rw[length_map];omega
 ·rw[length_append,length_cons,List.length_nil];omega
theorem RelO.isSome_eq {o:Option V} {u:Option Value} (r:RelO o u):o.isSome=u.isSome:=by
 cases o with
 | none=>cases u with
   | none=>rfl
   | some _=>exact(show False from r).elim
 | some _=>cases u with
   | none=>exact(show False from r).elim
   | some _=>rfl
theorem KV.val {kvs:List (κ×V)} {vs:List (κ×Value)} (r:KV kvs vs) (k:κ):RelO (valV kvs k) (valueAt vs k):=by
 unfold KV at r
 induction r with
 | nil=>exact True.intro
 | @cons p q ps qs h t ih=>
   obtain⟨h1,h2⟩:=h;by_cases e:p.1=k
   ·have G:q.1=k:=h1.symm.trans e;have b:valueAt (q::qs) k=some q.2:=by simp[valueAt,find?_cons,G]
    rw[kD e,b];exact h2
   ·have G:¬q.1=k:=λz=>e (h1.trans z);have b:valueAt (q::qs) k=valueAt qs k:=by simp[valueAt,find?_cons,G]
    rw[kE e,b];exact ih
theorem KV.any {kvs:List (κ×V)} {vs:List (κ×Value)} (r:KV kvs vs) (k:κ):(kvs.any λG=>decide (G.1=k))=vs.any λG=>decide (G.1=k):=by
 unfold KV at r
 induction r with
 | nil=>rfl
 | cons h t ih=>rw[any_cons,any_cons,ih,h.1]
theorem KV.repl {kvs:List (κ×V)} {vs:List (κ×Value)} (r:KV kvs vs) (k:κ) {y:V} {u:Value} (L:RelV y u):
  KV (kvs.map λG=>if G.1=k then (G.1,y) else G) (vs.map λG=>if G.1=k then (G.1,u) else G):=by
 unfold KV at r ⊢
 induction r with
 | nil=>exact .nil
 | @cons p q ps qs h t ih=>
   rw[map_cons,map_cons];refine .cons ?_ ih;obtain⟨h1,h2⟩:=h;by_cases e:p.1=k
   ·rw[if_pos e,if_pos (h1.symm.trans e)];exact⟨h1,L⟩
   ·rw[if_neg e,if_neg (λz=>e (h1.trans z))];exact⟨h1,h2⟩
theorem KV.put {kvs:List (κ×V)} {vs:List (κ×Value)} (r:KV kvs vs) (k:κ) {y:V} {u:Value} (G:RelV y u):KV (putK kvs k y) (stored vs k u):=by
 unfold putK stored;rw[r.any k];by_cases e:(vs.any λL=>decide (L.1=k))=true
 ·rw[if_pos e,if_pos e];exact r.repl k G
 ·rw[if_neg e,if_neg e];exact Paired.snoc r ⟨rfl,G⟩
theorem KV.keys {kvs:List (κ×V)} {vs:List (κ×Value)} (r:KV kvs vs):kvs.map (·.1)=vs.map (·.1):=by
 unfold KV at r
 induction r with
 | nil=>rfl
 | cons h t ih=>rw[map_cons,map_cons,ih,h.1]
theorem KV.length {kvs:List (κ×V)} {vs:List (κ×Value)} (r:KV kvs vs):kvs.length=vs.length:=Paired.length r
end
theorem DP {P:Program} {w:World} {k:Key} {u:Value} (r:RelV (kV k) u):(c9 P w).is k u=true:=by
 cases k with
 | inl i=>obtain⟨t,e⟩:=(show ∃t,u=Value.int i t from r);subst e;exact AL P w i t
 | inr x=>obtain⟨t,e⟩:=(show ∃t,u=Value.str x t from r);subst e;exact AK P w x t
theorem zd {P:Program} {w:World}:∀{ks:List Key} {us:List Value},Vals (ks.map kV) us->ItemsAre (c9 P w) ks us
 | [],_,r=>by rw[map_nil] at r;cases r;exact .nil
 | k::ks,_,r=>by
   rw[map_cons] at r;cases r with
   | cons h t=>exact .cons (DP h) (zd t)
noncomputable abbrev KT (H:Hp):List (List Key×V)->List (List Key×Addr×Value)->Prop:=Paired λp q=>p.1=q.1/\H q.2.1=some (.tup (p.1.map kV))/\RelV p.2 q.2.2
theorem KT.val {H:Hp} {kvs:List (List Key×V)} {xs:List (List Key×Addr×Value)} (r:KT H kvs xs) (k:List Key):RelO (valV kvs k) ((atKey xs k).map (·.2)):=by
 induction r with
 | nil=>exact True.intro
 | @cons p q ps qs h t ih=>
   obtain⟨h1,_,h2⟩:=h;by_cases e:p.1=k
   ·have G:q.1=k:=h1.symm.trans e;have b:atKey (q::qs) k=some q.2:=by simp[atKey,find?_cons,G]
    rw[kD e,b];exact h2
   ·have G:¬q.1=k:=λz=>e (h1.trans z);have b:atKey (q::qs) k=atKey qs k:=by simp[atKey,find?_cons,G]
    rw[kE e,b];exact ih
theorem KT.repl {H:Hp} {kvs:List (List Key×V)} {xs:List (List Key×Addr×Value)} (r:KT H kvs xs) (k:List Key) {y:V} {u:Value} (L:RelV y u):
  KT H (kvs.map λG=>if G.1=k then (G.1,y) else G) (xs.map (putAt k u)):=by
 induction r with
 | nil=>exact .nil
 | @cons p q ps qs h t ih=>
   rw[map_cons,map_cons];refine .cons ?_ ih;obtain⟨h1,h2,O⟩:=h;unfold putAt;by_cases e:p.1=k
   ·rw[if_pos e,if_pos (h1.symm.trans e)];exact⟨h1,h2,L⟩
   ·rw[if_neg e,if_neg (λz=>e (h1.trans z))];exact⟨h1,h2,O⟩
theorem KT.put {H:Hp} {kvs:List (List Key×V)} {xs:List (List Key×Addr×Value)} (r:KT H kvs xs) (k:List Key) {b:Addr} {y:V} {u:Value} (hb:H b=some (.tup (k.map kV))) (G:RelV y u):
  KT H (putK kvs k y) (storedH xs k b u):=by
 have e:(kvs.any λL=>decide (L.1=k))=(atKey xs k).isSome:=by
  rw[o3,(r.val k).isSome_eq,isSome_map]
 unfold putK storedH;rw[e];by_cases q:(atKey xs k).isSome=true
 ·rw[if_pos q,if_pos q];exact r.repl k G
 ·rw[if_neg q,if_neg q];exact Paired.snoc r ⟨rfl,hb,G⟩
theorem KT.keeps {H H':Hp} {kvs:List (List Key×V)} {xs:List (List Key×Addr×Value)} (r:KT H kvs xs) (ht:∀b ys,H b=some (.tup ys)->H' b=some (.tup ys)):KT H' kvs xs:=
 Paired.mapP r λ_ _ z=>⟨z.1,ht _ _ z.2.1,z.2.2⟩
section
variable {P:Program} {w:World} {H:Hp} {h:Heap} {a:Addr}
theorem Oh {u:HO} (ok:HOk P w H h) (e:Rd H a u):gG P w H h a u:=e.ok ok
theorem Hh {kvs:List (Key×V)} (ok:HOk P w H h) (e:Rd H a (.dK kvs)):kvs.length<=sizeLine/\(a == sysModules)=false/\∃vs,KV kvs vs/\h.DictOf (c9 P w) a vs:=
 show gG P w H h a (.dK kvs) from Oh ok e
theorem MG {kvs:List (Key×V)} (ok:HOk P w H h) (e:H a=some (.dK kvs)):kvs.length<=sizeLine/\(a == sysModules)=false/\∃vs,KV kvs vs/\h.DictOf (c9 P w) a vs:=Hh ok (.inl e)
theorem zb {ks:List Key} (ok:HOk P w H h) (e:H a=some (.tup (ks.map kV))):(tupleKind (c9 P w)).is h ks a:=by
 obtain⟨_,its,r,o,h1,h2,n,G⟩:=(show gG P w H h a (.tup (ks.map kV)) from ok a _ e);exact⟨o,its.toArray,n,h1,h2,G,by simpa using zd r⟩
theorem Hg {kvs:List (List Key×V)} (ok:HOk P w H h) (e:Rd H a (.dT kvs)):kvs.length<=sizeLine/\(a == sysModules)=false/\
  ∃xs,KT H kvs xs/\h.DictOfH (tupleKind (c9 P w)) a xs:=by
 obtain⟨z,y,xs,r,o,es,ep,h1,h2,Y,O,L⟩:=(show gG P w H h a (.dT kvs) from Oh ok e);refine⟨z,y,xs,r,o,es,ep,h1,h2,Y,O,λx hx=>?_,L⟩
 have all:∀{l:List (List Key×V)} {m:List (List Key×Addr×Value)},KT H l m->∀x∈m,(tupleKind (c9 P w)).is h x.1 x.2.1:=by
  intro l m q
  induction q with
  | nil=>intro x hx;exact nomatch hx
  | @cons p q ps qs G t ih=>
    intro x hx;rcases mem_cons.mp hx with e | hx
    ·subst e;exact zb ok (by rw[<-G.1];exact G.2.1)
    ·exact ih x hx
 exact all r x hx
theorem Qy {kvs:List (List Key×V)} (ok:HOk P w H h) (e:H a=some (.dT kvs)):kvs.length<=sizeLine/\(a == sysModules)=false/\
  ∃xs,KT H kvs xs/\h.DictOfH (tupleKind (c9 P w)) a xs:=Hg ok (.inl e)
end
def DGet (H:Hp) (a:Addr) (y:V) (r:Option V):Prop:=
 (∃kvs k,Rd H a (.dK kvs)/\y=kV k/\r=valV kvs k)∨∃kvs k b,Rd H a (.dT kvs)/\y= .ref b/\H b=some (.tup (k.map kV))/\r=valV kvs k
def DPut (H:Hp) (a:Addr) (y v:V) (H':Hp):Prop:=
 (∃kvs k,H a=some (.dK kvs)/\y=kV k/\kvs.length < sizeLine/\H'=upd H a (.dK (putK kvs k v)))∨
 ∃kvs k b,H a=some (.dT kvs)/\y= .ref b/\H b=some (.tup (k.map kV))/\kvs.length < sizeLine/\H'=upd H a (.dT (putK kvs k v))
theorem DGet.k {H:Hp} {a:Addr} {kvs:List (Key×V)} {k:Key} (e:H a=some (.dK kvs)):DGet H a (kV k) (valV kvs k):= .inl ⟨kvs,k,.inl e,rfl,rfl⟩
theorem DPut.k {H:Hp} {a:Addr} {kvs:List (Key×V)} {k:Key} {v:V} (e:H a=some (.dK kvs)) (hl:kvs.length < sizeLine):DPut H a (kV k) v (upd H a (.dK (putK kvs k v))):= .inl ⟨kvs,k,e,rfl,hl,rfl⟩
section
variable {X:Cx} {pins:List (Addr×Obj)} {σ:St} {H:Hp} {s:Shared} {a:Addr} {y v:V} {u r:Value} {o:Option V} {A:Around} {E:Value->Shared->Prop}
theorem Inv.big (I:Inv X pins σ H s):sysModules < s.heap.objs.size:=by
 have h:mainGlobals < s.heap.objs.size:=(I.mod.glob.keeps I.bk).lt;exact lt_trans (by decide) h
theorem Hs {Q:Value->Shared->Prop} (hu:A.units + 1 < cLine) (I:Inv X pins σ H s) (g:DGet H a y (some v)) (Y:RelV y u) (h:∀L s',Inv X pins σ H s'->RelV v L->Q L s'):
  wpAny (model X.prog X.w) A (getItem (.ref a) u) Q E s:=by
 rcases g with ⟨kvs,k,e,ey,l⟩ | ⟨kvs,k,b,e,ey,α,l⟩
 ·subst ey;obtain⟨z,hd,vs,rel,dd⟩:=Hh I.hok e;obtain⟨L,hw,G⟩:=RelO.some_of (v:=v) (o:=valueAt vs k) (by rw[l];exact rel.val k);exact wpAny_getItem_of (DP Y) dd.mapOf hw (h L _ (I.tok _) G)
 ·subst ey;cases(show u=Value.ref b from Y);obtain⟨z,hd,xs,rel,dd⟩:=Hg I.hok e;obtain⟨L,hw,G⟩:=RelO.some_of (v:=v) (o:=(atKey xs k).map (·.2)) (by rw[l];exact rel.val k);obtain⟨p,Z,O⟩:=map_eq_some_iff.mp hw;refine wpAny_getItem_heap (tupleKind_room_in1 hu) (zb I.hok α) dd Z ?_;rw[O];exact h L _ (I.tok _) G
theorem d_in {Q:Value->Shared->Prop} (hu:A.units + 1 < cLine) (I:Inv X pins σ H s) (g:DGet H a y o) (G:RelV y u) (h:∀s',Inv X pins σ H s'->Q (.bool o.isSome) s'):
  wpAny (model X.prog X.w) A (compareOp .In u (.ref a)) Q E s:=by
 rcases g with ⟨kvs,k,e,ey,l⟩ | ⟨kvs,k,b,e,ey,L,l⟩
 ·subst ey;obtain⟨z,hd,vs,rel,dd⟩:=Hh I.hok e;refine wpAny_in_of (DP G) hd dd.mapOf ?_;rw[<-(rel.val k).isSome_eq,<-l];exact h _ (I.tok _)
 ·subst ey;cases(show u=Value.ref b from G);obtain⟨z,hd,xs,rel,dd⟩:=Hg I.hok e;refine wpAny_in_heap (tupleKind_room_in1 hu) (zb I.hok L) hd dd ?_;have q:=(rel.val k).isSome_eq;rw[isSome_map] at q;rw[<-q,<-l];exact h _ (I.tok _)
theorem MI {Q:Value->Shared->Prop} (hu:A.units + 1 < cLine) (I:Inv X pins σ H s) (g:DGet H a y o) (G:RelV y u) (h:∀s',Inv X pins σ H s'->Q (.bool (!o.isSome)) s'):
  wpAny (model X.prog X.w) A (compareOp .NotIn u (.ref a)) Q E s:=by
 rcases g with ⟨kvs,k,e,ey,l⟩ | ⟨kvs,k,b,e,ey,L,l⟩
 ·subst ey;obtain⟨z,hd,vs,rel,dd⟩:=Hh I.hok e;refine wpAny_notIn_of (DP G) hd dd.mapOf ?_;rw[<-(rel.val k).isSome_eq,<-l];exact h _ (I.tok _)
 ·subst ey;cases(show u=Value.ref b from G);obtain⟨z,hd,xs,rel,dd⟩:=Hg I.hok e;refine wpAny_notIn_heap (tupleKind_room_in1 hu) (zb I.hok L) hd dd ?_;have q:=(rel.val k).isSome_eq;rw[isSome_map] at q;rw[<-q,<-l];exact h _ (I.tok _)
theorem Hm {h':Heap} {t':Nat} {ob:HO} (I:Inv X pins σ H s) (L:Mut (H a)) (hs:Heap.SameBut a s.heap h') (he:∃q,h'.get? a=some q) (G:gG X.prog X.w (upd H a ob) h' a ob):
  Inv X pins σ (upd H a ob) {s with heap:=h',toks:=t'}:=
 I.write (x:=a) (e:=a) L (.inl rfl) (λb q hb z=>(hs.2 b hb).trans z) he G
theorem Pm {P:Program} {w:World} {H':Hp} {h':Heap} {kvs:List (Key×V)} {vs:List (Key×Value)} (z:kvs.length<=sizeLine) (hd:(a == sysModules)=false) (rel:KV kvs vs) (dd:h'.DictOf (c9 P w) a vs):
  gG P w H' h' a (.dK kvs):=⟨z,hd,vs,rel,dd⟩
theorem Ho {H':Hp} {Q:Unit->Shared->Prop} (hu:A.units + 1 < cLine) (I:Inv X pins σ H s) (g:DPut H a y v H') (Y:RelV y u) (Z:RelV v r) (h:∀s',Inv X pins σ H' s'->Q () s'):
  wpAny (model X.prog X.w) A (setItem (.ref a) u r) Q E s:=by
 rcases g with ⟨kvs,k,e,ey,l,O⟩ | ⟨kvs,k,b,e,ey,β,l,O⟩
 ·subst ey O;obtain⟨z,hd,vs,rel,dd⟩:=MG I.hok e;have hz:vs.length<=sizeLine:=by rw[<-rel.length];exact z
  have hl:(putK kvs k v).length<=sizeLine:=by have:=uS kvs k v;omega
  refine wpAny_setItem_pairs (hsz:=hz) (DP Y) dd λh' G hs=>h _ ?_;have he:∃q,h'.get? a=some q:=let ⟨q,_,_,L,_⟩:=G;⟨q,L⟩
  exact Hm I (by rw[e];exact True.intro) hs he (Pm hl hd (rel.put k Z) G)
 ·subst ey O;cases(show u=Value.ref b from Y);obtain⟨z,hd,xs,rel,dd⟩:=Qy I.hok e;have hz:xs.length<=sizeLine:=by rw[<-Paired.length rel];exact z
  have hl:(putK kvs k v).length<=sizeLine:=by have:=uS kvs k v;omega
  refine wpAny_setItem_heap (hsz:=hz) (tupleKind_room_in1 hu) (zb I.hok β) dd λh' G hs=>h _ ?_;obtain⟨q,es,ep,L,h2,ε,δ,_,γ⟩:=G;refine Hm I (by rw[e];exact True.intro) hs ⟨q,L⟩ ⟨hl,hd,_,(rel.put k β Z).keeps λc ys α=>?_,q,es,ep,L,h2,ε,δ,γ⟩;rw[aG (b4 α e (λz=>nomatch z))];exact α
end
def NoSl (i:Expr):Prop:=∀G L,subscripted i false G L=operate [G,L] (getItem G L)
theorem Lf {prog:Program} {w:World} {A:Around} {E:Value->Shared->Prop} {s:Shared} {env:Env} {value G:Expr} {pos:Pos} {T id:String} {Q:Value->Shared->Prop}
  (hl:typeLookup (.type T) "__getitem__"=pure (some (.builtin id))) (hs:NoSl G)
  (h:wpAny (model prog w) A (eval value env) (λo Z=>wpAny (model prog w) A (eval G env) (λi L=>L.TypeIs o T/\wpAny (model prog w) A (getItem o i) Q E L) E Z) E s):
  wpAny (model prog w) A (eval (.Subscript value G pos) env) Q E s:=by
 refine Subscript_ (wpAny_mono h (λo Z β=>wpAny_mono β (λi L O=>?_) λ_ _ x=>x) λ_ _ x=>x);obtain⟨hT,O⟩:=O;unfold subscriptTail;refine wpAny_bind ?_;rw[getitemInPython_of_ne hT.not_modules];refine wpAny_bind (wpAny_specialOf hT hl ?_)
 have fin:wpAny (model prog w) A (subscripted G false o i) (λr Y=>wpAny (model prog w) A (letTemporaryGo value o r >>=λ_=>pure r) Q E Y) E L:=by
  rw[hs o i];exact wpAny_operating (wpAny_mono O (λr Y α=>wpAny_bind (wpAny_letTemporaryGo (wpAny_pure α))) λ_ _ x=>x)
 first
  | exact wpAny_pure (wpAny_bind fin)
  | exact wpAny_bind (wpAny_pure (wpAny_bind fin))
  | exact wpAny_bind fin
theorem A9 {X:Cx} {pins:List (Addr×Obj)} {σ:St} {H:Hp} {s:Shared} {a:Addr} {y:V} {o:Option V} (I:Inv X pins σ H s) (g:DGet H a y o):s.TypeIs (.ref a) "dict":=by
 rcases g with ⟨kvs,k,e,_,_⟩ | ⟨kvs,k,b,e,_,_,_⟩
 ·obtain⟨_,_,vs,_,dd⟩:=Hh I.hok e;exact dd.typeIs
 ·obtain⟨_,_,xs,_,dd⟩:=Hg I.hok e;exact dd.typeIs
noncomputable def Nq (td ty:TE):TE:=fun σ H Q=>td σ H λx H1=>ty σ H1 λy H2=>∃a v,x= .ref a/\DGet H2 a y (some v)/\Q v H2
noncomputable def tDIn (ty td:TE):TE:=fun σ H Q=>ty σ H λy H1=>td σ H1 λx H2=>∃a o,x= .ref a/\DGet H2 a y o/\Q (.bl o.isSome) H2
noncomputable def E3 (ty td:TE):TE:=fun σ H Q=>ty σ H λy H1=>td σ H1 λx H2=>∃a o,x= .ref a/\DGet H2 a y o/\Q (.bl (!o.isSome)) H2
noncomputable def Oe (td ty tv:TE):TS:=λD σ H=>tv σ H λv H1=>td σ H1 λx H2=>ty σ H2 λy L=>∃a G,x= .ref a/\DPut L a y v G/\D.nx σ G
section
variable {X:Cx} {o i e value:Expr} {pos pos' tpos:Pos} {td ty tv:TE}
theorem mq (hu:X.A.units + 1 < cLine) (ho:PE X o td) (hi:PE X i ty) (hs:NoSl i):PE X (.Subscript o i pos) (Nq td ty):=by
 intro pins s σ H Q I h;refine Lf PySem.F.slot_dict_getitem.lookup hs (thn (ho pins s σ H _ I h) λu O ⟨x,H1,δ,Z,β⟩=>thn (hi pins O σ H1 _ δ β) fun θ η ⟨y,H2,L,Y,a,v,ex,g,α⟩=>?_);subst ex;obtain rfl:u=Value.ref a:=Z;exact⟨A9 L g,Hs hu L g Y fun ε ζ γ G=>⟨v,H2,γ,G,α⟩⟩
theorem F6 (hu:X.A.units + 1 < cLine) (hi:PE X i ty) (ho:PE X o td):PC X .In i o (tDIn ty td):=by
 intro pins s σ H Q I h;refine thn (hi pins s σ H _ I h) fun η G ⟨y,H1,δ,L,Z⟩=>thn (ho pins G σ H1 _ δ Z) λu ζ ⟨x,H2,γ,O,a,α,ex,g,Y⟩=>?_;subst ex;obtain rfl:u=Value.ref a:=O;exact d_in hu γ g L fun ε β=>⟨.bl α.isSome,H2,β,rfl,Y⟩
theorem F5 (hu:X.A.units + 1 < cLine) (hi:PE X i ty) (ho:PE X o td):PC X .NotIn i o (E3 ty td):=by
 intro pins s σ H Q I h;refine thn (hi pins s σ H _ I h) fun η G ⟨y,H1,δ,L,Z⟩=>thn (ho pins G σ H1 _ δ Z) λu ζ ⟨x,H2,γ,O,a,α,ex,g,Y⟩=>?_;subst ex;obtain rfl:u=Value.ref a:=O;exact MI hu γ g L fun ε β=>⟨.bl (!α.isSome),H2,β,rfl,Y⟩
theorem xy (hu:X.A.units + 1 < cLine) (ho:PE X o td) (hi:PE X i ty) (δ:PE X value tv) (hs:swapsWith value (some (.Subscript o i pos')) pos.line X.env=pure false):
  PS X (.Assign [.Subscript o i pos'] value pos) (Oe td ty tv):=by
 intro pins s σ H D I h;refine wpAny_Assign_Subscript (thn (δ pins s σ H _ I h) λr L ⟨v,H1,θ,Z,γ⟩=>thn (ho pins L σ H1 _ θ γ) λu G ⟨x,H2,η,Y,β⟩=>thn (hi pins G σ H2 _ η β) fun ο ξ ⟨y,π,ζ,O,a,ι,ex,g,α⟩=>?_) hs;subst ex;obtain rfl:u=Value.ref a:=Y;exact Ho hu ζ g O Z fun ν ε=>⟨σ,ι,ε,α⟩
end
theorem JX {P:Program} {w:World} {H:Hp} (h:Heap) (hb:sysModules < h.objs.size):gG P w H (h.push {cls:= .type "dict",data:= .dict #[]}) h.objs.size (.dK []):=
 ⟨zero_le _,beq_eq_false_iff_ne.mpr (Ne.symm (ne_of_lt hb)),[],.nil,Heap.DictOf.new h⟩
noncomputable def Kh:TE:=λ_ H Q=>∀p,H p=none->Q (.ref p) (upd H p (.dK []))
section
variable {X:Cx} {pos:Pos}
theorem pq:PE X (.Dict [] [] pos) Kh:=λpins s σ H Q I h=>
 wpAny_Dict_empty ⟨.ref s.heap.objs.size,_,I.laid (a:=s.heap.objs.size) (o:= .dK []) (t':=s.toks) (λ_ _ q=>Heap.get?_push_of_some _ q) (le_refl _) (JX s.heap I.big),rfl,h _ (I.hok.fresh (le_refl _))⟩
end
structure M1 (X:Cx) (o:Expr) (m:Str) (apos:Pos) (e:Expr) (cpos:Pos):Prop where
 base:attributeBase o m X.env (eval o X.env)=eval o X.env
 few:((backTo cpos (starEach [e] X.env)).all (λx=> !x.1)&&(backToKw cpos (keywordEach [] X.env)).all (λx=>x.1.isSome)
  &&decide (([e]:List Expr).length + ([]:List Keyword).length + (if ([]:List Keyword).isEmpty then 0 else 1) < 30))=true
 line:(apos.endLine == cpos.line)=true
 trees:backTo cpos (starEach [e] X.env)=[(false,eval e X.env)]
structure M2 (X:Cx) (o:Expr) (m:Str) (apos:Pos) (e f:Expr) (cpos:Pos):Prop where
 base:attributeBase o m X.env (eval o X.env)=eval o X.env
 few:((backTo cpos (starEach [e,f] X.env)).all (λx=> !x.1)&&(backToKw cpos (keywordEach [] X.env)).all (λx=>x.1.isSome)
  &&decide (([e,f]:List Expr).length + ([]:List Keyword).length + (if ([]:List Keyword).isEmpty then 0 else 1) < 30))=true
 line:(apos.endLine == cpos.line)=true
 trees:backTo cpos (starEach [e,f] X.env)=[(false,eval e X.env),(false,eval f X.env)]
section
variable {κ:Type} [DecidableEq κ]
theorem Iv {kvs:List (κ×V)} {k:κ} (h:valV kvs k=none):¬k∈kvs.map (·.1):=by
 intro m;obtain⟨p,L,e⟩:=mem_map.mp m;have q:(kvs.any λG=>decide (G.1=k))=true:=any_eq_true.mpr ⟨p,L,decide_eq_true e⟩;rw[o3,h] at q;exact absurd q (by simp)
theorem K9 {kvs:List (κ×V)} {k:κ} {v:V} (h:valV kvs k=some v):k∈kvs.map (·.1):=by
 have q:(kvs.any λG=>decide (G.1=k))=true:=by
  rw[o3,h]
  all_goals rfl
 obtain⟨p,L,e⟩:=any_eq_true.mp q;exact mem_map.mpr ⟨p,L,of_decide_eq_true e⟩
end
end L2
set_option maxHeartbeats 4000000
namespace L2
open PySem PySem.Spec PyProof.Rows
section
variable {P0:Program} {w0:World} {A0:Around} {R0:Result->Shared->Prop} {t0:Shared}
theorem Ei {ζ tg iter:Expr} {ε:List Expr} {sc:Scope} {pos:Pos} {ρ θ:Value} {η:Env} (J:Nat->Shared->Prop)
  (ι:∀n s,J n s->wpAny (model P0 w0) A0 (pyNext ρ) (λr L=>match r with
   | none=>R0 (.ok .next) L
   | some v=>wpAny (model P0 w0) A0 (letOwnedTupleGo tg ρ v) (λ_ γ=>wpAny (model P0 w0) A0 (assign tg η v) (λ_ β=>
     wpAny (model P0 w0) A0 (forIn ε true λc r=>if r=true then do let ok <-isTrue c η (eval c η);pure (ForInStep.yield ok) else pure (ForInStep.yield r)) (λok G=>
      if ok=true then wpAny (model P0 w0) A0 (eval ζ η) (λx Z=>
       wpAny (model P0 w0) A0 (call (.builtin "list.append") [θ,x]) (λ_ Y=>∃m,m < n/\J m Y) (λ_ _=>False) Z) (λ_ _=>False) G
      else ∃m,m < n/\J m G) (λ_ _=>False) β) (λ_ _=>False) γ) (λ_ _=>False) L) (λ_ _=>False) s)
  (n:Nat) (h:J n t0):
  codeAny (model P0 w0) A0 (.compLoop (.ListComp ζ [⟨tg,iter,ε,0⟩] sc pos) 0 ρ θ η) R0 t0:=by
 have no:∀{α:Type} {t:Sem α} {Q:α->Shared->Prop} {E:Value->Shared->Prop} {s:Shared},wpAny (model P0 w0) A0 t Q (λ_ _=>False) s->wpAny (model P0 w0) A0 t Q E s:=
  λh=>wpAny_mono h (λ_ _ q=>q) λ_ _ z=>z.elim
 refine codeAny_loop rfl J (λn s τ=>?_) n h;show wpAny _ A0 ((compTurn (.ListComp ζ [⟨tg,iter,ε,0⟩] sc pos) 0 ρ θ η).onRaise (λx=>do noteFrame x η;theTreesLotGoes x)) _ _ s;refine wpAny_noted ?_;rw[compTurn_list];refine wpAny_bind (wpAny_standAt (wpAny_bind (thn (no (ι n s τ)) λr L δ=>?_)));cases r with
 | none=>exact wpAny_pure δ
 | some v=>
   refine wpAny_bind (thn (no δ) λ_ γ π=>?_);refine wpAny_bind (thn (no π) λ_ β ο=>wpAny_bind (thn (no ο) λok G O=>?_));cases ok with
   | false=>exact wpAny_pure ⟨rfl,O⟩
   | true=>
     rw[if_pos rfl] at O;refine wpAny_bind (wpAny_bind (thn (no O) λx Z ξ=>?_));refine wpAny_bind (thn (no ξ) λ_ Y ν=>?_);exact wpAny_pure (wpAny_pure ⟨rfl,ν⟩)
end
theorem rz (env:Env):∀(l:List (Str×NameKind)) (L:List (Str×Addr)),(∀y∈l,y.2= .free->∃c,env.cells.lookup y.1=some c)->
  ∃r:List (Str×Addr),(forIn l L (λ(x:Str×NameKind) (r:List (Str×Addr))=>if x.2 == NameKind.free then (do let c <-cellOf env x.1;pure (ForInStep.yield ((x.1,c)::r))) else pure (ForInStep.yield r)):Sem (List (Str×Addr)))=pure r/\
   (∀p∈r,p∈L∨env.cells.lookup p.1=some p.2)/\(∀p∈L,p∈r)/\(∀y∈l,y.2= .free->∃c,(y.1,c)∈r)
 | [],L,_=>⟨L,rfl,λp O=> .inl O,λp O=>O,λy G=>nomatch G⟩
 | (x,k)::l,L,h=>by
   by_cases hk:k= .free
   ·subst hk;obtain⟨c,Z⟩:=h (x,.free) mem_cons_self rfl;obtain⟨r,e,h1,h2,Y⟩:=rz env l ((x,c)::L) λy G=>h y (mem_cons_of_mem _ G);refine⟨r,?_,λp O=>?_,λp O=>h2 p (mem_cons_of_mem _ O),λy G hf=>?_⟩
    ·rw[List.forIn_cons];have α:cellOf env x=pure c:=by unfold cellOf;rw[Z]
     simp only[beq_self_eq_true,if_true,α,pure_bind];exact e
    ·rcases h1 p O with q | q
     ·rcases mem_cons.mp q with z | z
      ·subst z;exact .inr Z
      ·exact .inl z
     ·exact .inr q
    ·rcases mem_cons.mp G with z | z
     ·subst z;exact⟨c,h2 _ mem_cons_self⟩
     ·exact Y y z hf
   ·obtain⟨r,e,h1,h2,Y⟩:=rz env l L λy G=>h y (mem_cons_of_mem _ G);refine⟨r,?_,h1,h2,λy G hf=>?_⟩
    ·rw[List.forIn_cons];have hb:(k == NameKind.free)=false:=by cases k<;>first | rfl | exact absurd rfl hk
     simp only[hb,Bool.false_eq_true,if_false,pure_bind];exact e
    ·rcases mem_cons.mp G with z | z
     ·subst z;exact absurd hf hk
     ·exact Y y z hf
theorem w9 (sc:Scope) (env:Env) (h:∀y∈sc.names,y.2= .free->∃c,env.cells.lookup y.1=some c):
  ∃G,closureFor sc env=pure G/\(∀p∈G,env.cells.lookup p.1=some p.2)/\∀y∈sc.names,y.2= .free->∃c,(y.1,c)∈G:=by
 obtain⟨r,e,h1,h2,O⟩:=rz env sc.names [] h;refine⟨r,?_,λp L=>(h1 p L).resolve_left (λz=>nomatch z),O⟩;unfold closureFor;have:=e;simp only[bind_pure] at *
 exact e
theorem xP {κ β:Type} [BEq κ] [LawfulBEq κ]:∀{l:List (κ×β)} {x:κ} {c:β},(x,c)∈l->∃G,l.lookup x=some G
 | [],_,_,h=>nomatch h
 | (y,d)::l,x,c,h=>by
   by_cases e:x=y
   ·subst e;exact⟨d,by simp[lookup_cons]⟩
   ·have hb:(x == y)=false:=beq_eq_false_iff_ne.mpr e;rcases mem_cons.mp h with z | z
    ·exact absurd (congrArg Prod.fst z) e
    ·obtain⟨G,q⟩:=xP z;exact⟨G,by rw[lookup_cons,hb];exact q⟩
theorem pd {env:Env}:∀{names:List (Str×NameKind)} {x:Str} {L:NameKind},
  (names.map λ(n,k)=>if (k == NameKind.free&&env.scope.kind == .function&&env.kindOf n == some .cell) then (n,NameKind.cell) else (n,k)).lookup x=some L->∃k,(x,k)∈names/\(L=k∨k= .free)
 | [],_,_,h=>by cases h
 | (y,k)::l,x,L,h=>by
   rw[map_cons,lookup_cons] at h;by_cases e:x=y
   ·subst e;by_cases G:(k == NameKind.free&&env.scope.kind == .function&&env.kindOf x == some .cell)=true
    ·refine⟨k,mem_cons_self,.inr ?_⟩;rw[Bool.and_eq_true,Bool.and_eq_true] at G;exact eq_of_beq G.1.1
    ·refine⟨k,mem_cons_self,.inl ?_⟩;simp only[if_neg G,beq_self_eq_true] at h;exact(Option.some.inj h).symm
   ·have hb:(x == y)=false:=beq_eq_false_iff_ne.mpr e
    have h':(l.map λ(n,k)=>if (k == NameKind.free&&env.scope.kind == .function&&env.kindOf n == some .cell) then (n,NameKind.cell) else (n,k)).lookup x=some L:=by
     by_cases G:(k == NameKind.free&&env.scope.kind == .function&&env.kindOf y == some .cell)=true
     ·simp only[if_pos G,hb] at h;exact h
     ·simp only[if_neg G,hb] at h;exact h
    obtain⟨q,hm,z⟩:=pd h';exact⟨q,mem_cons_of_mem _ hm,z⟩
theorem rC {env:Env}:∀{names:List (Str×NameKind)} {x:Str},names.lookup x=some .free->
  (names.map λ(n,k)=>if (k == NameKind.free&&env.scope.kind == .function&&env.kindOf n == some .cell) then (n,NameKind.cell) else (n,k)).lookup x=some .cell∨
  (names.map λ(n,k)=>if (k == NameKind.free&&env.scope.kind == .function&&env.kindOf n == some .cell) then (n,NameKind.cell) else (n,k)).lookup x=some .free
 | [],_,h=>by cases h
 | (y,k)::l,x,h=>by
   rw[lookup_cons] at h;rw[map_cons,lookup_cons];by_cases e:x=y
   ·subst e;simp only[beq_self_eq_true] at h;cases h;by_cases G:(NameKind.free == NameKind.free&&env.scope.kind == .function&&env.kindOf x == some .cell)=true
    ·refine .inl ?_;rw[if_pos G];simp only[beq_self_eq_true]
    ·refine .inr ?_;rw[if_neg G];simp only[beq_self_eq_true]
   ·have hb:(x == y)=false:=beq_eq_false_iff_ne.mpr e;simp only[hb] at h;have q:=rC (env:=env) h;by_cases G:(k == NameKind.free&&env.scope.kind == .function&&env.kindOf y == some .cell)=true
    ·simp only[if_pos G,hb];exact q
    ·simp only[if_neg G,hb];exact q
structure kC (osc:Scope) (ON N:List Str) (n:Nat) (fx:List Nat) (sc:Scope):Prop where
 kind:sc.kind= .function
 noc:∀y∈sc.names,y.2≠.cell
 own:∀y∈sc.names,y.2= .local->sc.names.lookup y.1=some .local
 fre:∀y∈sc.names,y.2= .free->osc.names.lookup y.1=some .cell∨osc.names.lookup y.1=some .free
 len:N.length=n + fx.length
 frn:∀k,k < fx.length->∃x j,N[n + k]? =some x/\fx[k]? =some j/\ON[j]? =some x/\sc.names.lookup x=some .free
noncomputable def JP (ON:List Str) (G:Scope):List Str->List Nat->Bool
 | [],[]=>true
 | x::xs,j::js=>decide (ON[j]? =some x)&&decide (G.names.lookup x=some .free)&&JP ON G xs js
 | _,_=>false
theorem zr {ON:List Str} {sc:Scope}:∀{xs:List Str} {G:List Nat},JP ON sc xs G=true->xs.length=G.length/\∀k,k < G.length->∃x j,xs[k]? =some x/\G[k]? =some j/\ON[j]? =some x/\sc.names.lookup x=some .free
 | [],[],_=>⟨rfl,λk h=>absurd h (not_lt_zero k)⟩
 | [],_::_,h=>by cases h
 | _::_,[],h=>by cases h
 | x::xs,j::G,h=>by
   simp only[JP,Bool.and_eq_true,decide_eq_true_eq] at h;obtain⟨l,q⟩:=zr h.2;refine⟨congrArg Nat.succ l,λk hk=>?_⟩;cases k with
   | zero=>exact⟨x,j,rfl,rfl,h.1.1,h.1.2⟩
   | succ k=>
     obtain⟨L,O,a,b,c⟩:=q k (Nat.lt_of_succ_lt_succ hk);exact⟨L,O,by simpa using a,by simpa using b,c⟩
noncomputable def Ca (osc:Scope) (ON N:List Str) (n:Nat) (fx:List Nat) (G:Scope):Bool:=
 decide (G.kind= .function)&&decide (∀y∈G.names,y.2≠.cell)&&decide (∀y∈G.names,y.2= .local->G.names.lookup y.1=some .local)&&
 decide (∀y∈G.names,y.2= .free->osc.names.lookup y.1=some .cell∨osc.names.lookup y.1=some .free)&&decide (n<=N.length)&&JP ON G (N.drop n) fx
theorem kC.of {osc:Scope} {ON N:List Str} {n:Nat} {fx:List Nat} {sc:Scope} (h:Ca osc ON N n fx sc=true):kC osc ON N n fx sc:=by
 simp only[Ca,Bool.and_eq_true,decide_eq_true_eq] at h;obtain⟨⟨⟨⟨⟨h1,h2⟩,O⟩,L⟩,Y⟩,G⟩:=h;obtain⟨l,q⟩:=zr G;refine⟨h1,h2,O,L,?_,λk hk=>?_⟩
 ·rw[length_drop] at l;omega
 ·obtain⟨x,j,a,b⟩:=q k hk;exact⟨x,j,by rw[getElem?_drop] at a;exact a,b⟩
noncomputable def lP (X:Cx) (N:List Str) (G:Scope) (L:List (Str×Addr)) (C:Addr) (fp:List Addr) (s:Shared) (H:Hp):Cx where
 prog:=X.prog
 w:=X.w
 K:=X.K
 mg:=X.mg
 base:=X.base
 A:=X.A
 N:=N
 s₀:=s
 H₀:=H
 env:=compEnvC G L C X.env
 outer:=X.stack
 stack:=X.stack
 ex:=fp
 fn:=λ_=>false
 calm:=X.calm
 pn:=[]
 xe:=λ_ _=>False
noncomputable def eA (n:Nat) (fx:List Nat) (σ:St):St:=List.replicate n none++fx.map λj=>(σ[j]?).join
def EF (n:Nat) (g:TG):Prop:=∀v σ H (Q G:St->Hp->Prop),(∀σ' H',Q σ' H'->σ'.drop n=σ.drop n->σ'.length=σ.length->G σ' H')->g v σ H Q->g v σ H G
def Cf (n:Nat) (g:TGs):Prop:=∀vs σ H (Q G:St->Hp->Prop),(∀σ' H',Q σ' H'->σ'.drop n=σ.drop n->σ'.length=σ.length->G σ' H')->g vs σ H Q->g vs σ H G
theorem aS {n i:Nat} (h:i < n):EF n (G3 i):=λv σ H Q G k q=>k _ _ q (by rw[List.drop_set_of_lt h]) (by rw[List.length_set])
theorem yb {n:Nat}:Cf n gNil:=λvs σ H Q G k ⟨e,q⟩=>⟨e,k _ _ q rfl rfl⟩
theorem jL {n:Nat} {t:TG} {u:TGs} (ht:EF n t) (hu:Cf n u):Cf n (MC t u):=λvs σ H Q δ k ⟨v,r,e,q⟩=>
 ⟨v,r,e,ht v σ H _ _ (λL H1 Y γ α=>hu r L H1 Q δ (λG H2 O β Z=>k G H2 O (β.trans γ) (Z.trans α)) Y) q⟩
theorem B0 {K:PySem.W.Frag} {n m:Nat} {t:TGs} (h:Cf n t):EF n (gTup K m t):=λv σ H Q G k ⟨a,xs,e,hs,hl,q⟩=>⟨a,xs,e,hs,hl,h xs σ H Q G k q⟩
def PTs (X:Cx) (G:List Expr) (t:TT):Prop:=
 ∀(pins:List (Addr×Obj)) (s:Shared) (σ:St) (H:Hp) (Q:Bool->Hp->Prop),Inv X pins σ H s->t σ H Q->
  wpAny (model X.prog X.w) X.A (forIn G true λc r=>if r=true then do let ok <-isTrue c X.env (eval c X.env);pure (ForInStep.yield ok) else pure (ForInStep.yield r)) (TP X pins σ Q) X.xe s
noncomputable def tYes:TT:=λ_ H Q=>Q true H
theorem bB {X:Cx}:PTs X [] tYes:=λ_ _ _ H _ I h=>wpAny_tests_nil ⟨H,I,h⟩
theorem iZ {X:Cx} {c:Expr} {t:TT} (h:PT X c t):PTs X [c] t:=λpins s σ H Q I q=>wpAny_tests_one (h pins s σ H Q I q)
noncomputable def IA (n:Nat) (fx:List Nat) (β:TI) (g:TG) (tc:TT) (te:TE):TE:=fun σ H Q=>β σ H λJ H1=>∀D,H1 D=none->
 ∃W:Nat->Nat->List V->Hp->Prop,(∃m,W 0 m [] (upd H1 D (.lst [])))/\∀i m ys H2,W i m ys H2->(J.stop i H2/\Q (.ref D) H2)∨
   (J.go i H2/\∃N:List V->Hp->Prop,(∀L H',N L H'->∃O,O < m/\W (i + 1) O L H')/\∀x α,J.yld i H2 x α->g x (eA n fx σ) α λG γ=>tc G γ λb Z=>
    if b=true then te G Z λv Y=>Y D=some (.lst ys)/\ys.length < sizeLine/\N (ys++[v]) (upd Y D (.lst (ys++[v]))) else N ys Z)
section
variable {X:Cx} {pins:List (Addr×Obj)} {σ:St} {H:Hp} {s:Shared}
theorem Ek {n:Nat} {fx:List Nat}:(eA n fx σ).length=n + fx.length:=by unfold eA;simp
theorem w8 {n:Nat} {fx:List Nat} {i:Nat} {v:V} (e:(eA n fx σ)[i]? =some (some v)):∃k j,i=n + k/\fx[k]? =some j/\σ[j]? =some (some v):=by
 unfold eA at e;by_cases h:i < n
 ·rw[getElem?_append_left (by simpa using h),List.getElem?_replicate,if_pos h] at e;cases e
 ·rw[getElem?_append_right (by simpa using h),length_replicate,getElem?_map] at e;cases q:fx[i - n]? with
  | none=>rw[q] at e;cases e
  | some j=>
    rw[q] at e;have G:(σ[j]?).join=some v:=Option.some.inj e;refine⟨i - n,j,by omega,q,?_⟩;cases z:σ[j]? with
    | none=>rw[z] at G;cases G
    | some o=>rw[z] at G;have:o=some v:=G;rw[this]
theorem J0 {osc:Scope} {ON N:List Str} {n:Nat} {fx:List Nat} {sc:Scope} {β:List (Str×Addr)} {fp:List Addr} {θ:Heap} {tk:Nat}
  (ho:X.env.scope=osc) (χ:X.N=ON) (S:kC osc ON N n fx sc)
  (Z:∀p∈β,X.env.cells.lookup p.1=some p.2) (L:∀y∈sc.names,y.2= .free->∃c,(y.1,c)∈β)
  (I:Inv X pins σ H s) (hf:∀b∈fp,FpOk X pins H b) (ζ:∀b∈fp,b < s.heap.objs.size)
  (O:∃m,θ.Ns s.heap.objs.size m) (G:∀b o,s.heap.get? b=some o->θ.get? b=some o):
  Inv (lP X N sc β s.heap.objs.size fp s H) [] (eA n fx σ) H {s with heap:=θ,toks:=tk}:=by
 have look:∀{x:Str} {c:Addr},β.lookup x=some c->X.env.cells.lookup x=some c:=λ{x c} e=>Z (x,c) (PySem.mem_of_lookup e)
 have ok:(lP X N sc β s.heap.objs.size fp s H).Ok:=by
  refine⟨I.ok.mod,S.kind,I.ok.glob,I.ok.blt,le_refl _,λx y c h1 h2=>I.ok.inj x y c (look h1) (look h2),λx hx=>?_,λx c z=>(by cases z),I.ok.hd,I.ok.frames,.inl rfl,λb hb=>⟨ne_of_lt (ζ b hb),λx c e=>(hf b hb).2.2.2.2.1 x c (look e)⟩,
   I.bs,le_trans I.ok.bsz I.sz,λb o e hb=>?_,λb hb z=>?_,I.stack,I.stkFree⟩
  ·have ε:∃γ,(γ=NameKind.cell∨γ=NameKind.free)/\(sc.names.map λ(n,k)=>if (k == NameKind.free&&X.env.scope.kind == .function&&X.env.kindOf n == some .cell) then (n,NameKind.cell) else (n,k)).lookup x=some γ:=by
    rcases hx with hx | hx
    ·exact⟨_,.inl rfl,hx⟩
    ·exact⟨_,.inr rfl,hx⟩
   obtain⟨γ,hk,e⟩:=ε;obtain⟨k,hm,z⟩:=pd e
   have π:k= .free:=by
    rcases z with z | z
    ·subst z;rcases hk with q | q
     ·exact absurd q (S.noc _ hm)
     ·exact q
    ·exact z
   subst π;obtain⟨c,φ⟩:=L _ hm rfl;exact xP φ
  ·rcases(hf b hb).2.2.2.1 with z | z
   ·exact I.ok.noex b o e z
   ·exact absurd (lt_of_lt_of_le (Heap.lt_size (I.ok.bs b o e).1) z) (lt_irrefl _)
  ·rcases mem_cons.mp (I.stkSub b z) with q | q
   ·exact(hf b hb).2.1 q
   ·exact(hf b hb).2.2.1 q
 obtain⟨m,O⟩:=O;refine⟨ok,rfl,I.bare,Un.kept G,⟨m,O,λi x v e1 e2 e3=>?_⟩,λx c e=>?_,I.hok.fresh (le_refl _),λx c e=>I.freeC x c (look e),λp υ=>absurd (show p∈([]:List (Addr×Obj)) from υ) (by simp),I.hok.kept G,?_⟩
 ·obtain⟨k,j,rfl,ο,τ⟩:=w8 e2;obtain⟨Y,ξ,a1,a2,a3,ι⟩:=S.frn k (List.getElem?_eq_some_iff.mp ο).1;have ex:Y=x:=Option.some.inj (a1.symm.trans e1);have ψ:ξ=j:=Option.some.inj (a2.symm.trans ο);subst ex;subst ψ;obtain⟨m',_,hl⟩:=I.loc;have hk:X.env.scope.names.lookup Y=some .cell∨X.env.scope.names.lookup Y=some .free:=by rw[ho];exact S.fre _ (PySem.mem_of_lookup ι) rfl
  have δ:Vis X.env.scope Y:=by rcases hk with z | z;exact .inr (.inl z);exact .inr (.inr z)
  obtain⟨u,r,q⟩:=hl ξ Y v (by rw[χ];exact a3) τ δ;rcases q with ⟨z,_⟩ | ⟨_,c,ω,ρ⟩
  ·have ν:X.env.scope.names.lookup Y=some .local:=z;rcases hk with q | q<;>(rw[q] at ν;cases ν)
  ·refine⟨u,r,.inr ⟨rC ι,c,?_,ρ.keeps G⟩⟩;obtain⟨c0,η⟩:=L _ (PySem.mem_of_lookup ι) rfl;obtain⟨c1,α⟩:=xP η;have:=look α;rw[ω] at this;cases this;exact α
 ·obtain⟨v,q⟩:=I.cell x c (look e);exact⟨v,q.keeps G⟩
 ·show _=N.length;rw[Ek,S.len]
theorem zO {osc:Scope} {ON N:List Str} {n:Nat} {fx:List Nat} {sc:Scope} {γ:List (Str×Addr)} {υ tg iter:Expr} {π:List Expr} {pos:Pos} {wi:TI} {g:TG} {tc:TT} {te:TE} {Q:VK} {RR:Value->Addr->Result->Shared->Prop}
  (τ:X.calm=true) (ho:X.env.scope=osc) (hN:X.N=ON) (S:kC osc ON N n fx sc)
  (θ:∀p∈γ,X.env.cells.lookup p.1=some p.2) (b3:∀y∈sc.names,y.2= .free->∃c,(y.1,c)∈γ)
  (hi:PI X tg iter wi) (gk:EF n g) (hb:∀γ C fp s H,PG (lP X N sc γ C fp s H) tg g/\PTs (lP X N sc γ C fp s H) π tc/\PE (lP X N sc γ C fp s H) υ te)
  (I:Inv X pins σ H s) (h:IA n fx wi g tc te σ H Q)
  (e1:∀D C H' s',Inv X pins σ H' s'->(∃m,s'.heap.Ns C m)->FpOk X pins H' C->Q (.ref D) H'->RR (.ref D) C (.ok .next) s'):
  wpAny (model X.prog X.w) X.A (eval iter X.env) (λx s₁=>wpAny (model X.prog X.w) X.A (pyIter x) (λit s₂=>wpAny (model X.prog X.w) X.A (newList []) (λc2 s₃=>
   wpAny (model X.prog X.w) X.A (newFunctionEnv sc X.env.globals γ [] X.env.qual none .none (some X.env)) (fun ι ω=>
    codeAny (model X.prog X.w) X.A (.compStart (.ListComp υ [⟨tg,iter,π,0⟩] sc pos) 0 it c2 {ι with scope:=relabel sc X.env}) (RR c2 ι.locals) ω) X.xe s₃) X.xe s₂) X.xe s₁) X.xe s:=by
 refine thn (hi pins s σ H _ I h) λv s1 h1=>thn h1 λf1 G h2=>?_;obtain⟨it,fp,tn,J,H2,e2,I2,T,a7,f2,hW⟩:=h2;subst e2;obtain⟨W,⟨m0,w0⟩,ρ⟩:=hW G.heap.objs.size I2.fresh;refine wpAny_newObj_type ?_;have I3:Inv X pins σ (upd H2 G.heap.objs.size (.lst [])) {G with heap:=G.heap.push {cls:= .type "list",data:= .seq ([]:List Value).toArray}}:=I2.lnew (t':=G.toks) (its:=[]) .nil (zero_le _)
 have φ:∀b∈fp,FpOk X pins (upd H2 G.heap.objs.size (.lst [])) b/\b < G.heap.objs.size:=λb hb=>by
  obtain⟨o,e,_⟩:=T.obj _ _ a7 b hb;have l:=Heap.lt_size e;obtain⟨a1,a2⟩:=f2 b hb;exact⟨⟨by rw[aG (ne_of_lt l)];exact a1,a2⟩,l⟩
 have sz:({G with heap:=G.heap.push {cls:= .type "list",data:= .seq ([]:List Value).toArray}}:Shared).heap.objs.size=G.heap.objs.size + 1:=Heap.size_push ..
 generalize d4:({G with heap:=G.heap.push {cls:= .type "list",data:= .seq ([]:List Value).toArray}}:Shared)=L at I3 sz ⊢;generalize f4:upd H2 G.heap.objs.size (.lst [])=H3 at I3 φ w0;have a8:∀b o,G.heap.get? b=some o->L.heap.get? b=some o:=λb o e=>by rw[<-d4];exact Heap.get?_push_of_some _ e
 refine wpAny_newFunctionEnv (λy hy=>S.noc y hy) (λy hy=>nomatch hy) (λh4 e0 d1=>?_) S.kind;have ζ:∀b o,L.heap.get? b=some o->h4.get? b=some o:=λb o e=>d1.extBut b o (ne_of_lt (Heap.lt_size e)) (Heap.get?_push_of_some _ e);have I4:=J0 (tk:=L.toks + ([]:List (Str×Value)).length) ho hN S θ b3 I3 (λb hb=>(φ b hb).1) (λb hb=>by rw[sz];exact Nat.lt_succ_of_lt (φ b hb).2) ⟨_,e0⟩ ζ;have δ:=hb γ L.heap.objs.size fp L H3;generalize ε:lP X N sc γ L.heap.objs.size fp L H3=Y at I4 δ
 have β:∀{H':Hp},(∀b∈fp,H' b=none)->∀b∈fp,FpOk Y [] H' b:=λ{H'} hn b hb=>by
  subst ε;obtain⟨⟨a1,a2,a3,a4,a5,a6⟩,l⟩:=φ b hb;refine⟨hn b hb,ne_of_lt (show b < L.heap.objs.size by rw[sz];exact Nat.lt_succ_of_lt l),λz=>?_,.inl hb,λx c e=>a5 x c (θ (x,c) (PySem.mem_of_lookup e)),λp hp=>absurd (show p∈([]:List (Addr×Obj)) from hp) (by simp)⟩;rcases mem_cons.mp (I3.stkSub b z) with q | q
  ·exact a2 q
  ·exact a3 q
 have fin:∀{χ:St} {H6:Hp} {ξ:Shared},Inv Y [] χ H6 ξ->Q (.ref G.heap.objs.size) H6->RR (.ref G.heap.objs.size) L.heap.objs.size (.ok .next) ξ:=λ{χ H6 ξ} I6 q=>by
  subst ε;refine e1 _ _ H6 ξ ?_ (let ⟨m,hm,_⟩:=I6.loc;⟨m,hm⟩) (I3.fpOk (le_refl _) I6.free) q;obtain⟨hh,gg,dd,tt,c5⟩:=ξ;obtain rfl:c5=L.os:=I6.os
  exact I3.call (h':=hh) (g':=gg) (d':=dd) (t':=tt) (ch:=fp) I6.base I6.hok I6.bare λb hb=>by
   obtain⟨⟨a1,a2,a3,a4,a5,a6⟩,l⟩:=φ b hb;exact⟨a4,a2,a5,a6⟩
 have pY:Y.prog=X.prog:=by subst ε;rfl
 have wY:Y.w=X.w:=by subst ε;rfl
 have kY:Y.K=X.K:=by subst ε;rfl
 have aY:Y.A=X.A:=by subst ε;rfl
 have cY:Y.calm=true:=by subst ε;exact τ
 have eY:Y.env=compEnvC sc γ L.heap.objs.size X.env:=by subst ε;rfl
 have xY:Y.xe=λ_ _=>False:=by subst ε;rfl
 have T':Turn Y.prog Y.w Y.K tg J fp it tn:=by rw[pY,wY,kY];exact T
 have ψ:tn 0 h4:=T.keep _ _ _ a7 λb hb o e=>ζ b o (a8 b o e)
 have η:codeAny (model X.prog X.w) X.A (.compLoop (.ListComp υ [⟨tg,iter,π,0⟩] sc pos) 0 (.ref it) (.ref G.heap.objs.size) (compEnvC sc γ L.heap.objs.size X.env)) (RR (.ref G.heap.objs.size) L.heap.objs.size)
   {L with heap:=h4,toks:=L.toks + ([]:List (Str×Value)).length}:=by
  rw[<-pY,<-wY,<-aY,<-eY];refine Ei (λk s'=>∃i ys σ' H',Inv Y [] σ' H' s'/\σ'.drop n=(eA n fx σ).drop n/\σ'.length=(eA n fx σ).length/\tn i s'.heap/\(∀b∈fp,H' b=none)/\W i k ys H') ?_ m0 ⟨0,[],_,H3,I4,rfl,rfl,ψ,λb hb=>(φ b hb).1.1,w0⟩;rintro k s5 ⟨i,ys,σ5,H5,I5,ed,el,a0,c1,w5⟩
  have I5:Inv Y [] (eA n fx σ) H5 s5:=I5.weak el.symm λj v e=>by
   obtain⟨k',j',rfl,_,_⟩:=w8 e;have q:=congrArg (λl=>l[k']?) ed;simp only[getElem?_drop] at q;rw[q];exact e
  rcases ρ i k ys H5 w5 with ⟨stop,q⟩ | ⟨go,N',e3,step⟩
  ·refine wpAny_mono (T'.done Y rfl rfl rfl cY i [] s5 _ H5 (λ_ _=>False) I5 (β c1) a0 stop) (λr ξ ⟨hr,I6⟩=>?_) λ_ _ z=>z;subst hr;exact fin I6 q
  ·rw[<-xY];refine thn (T'.item Y rfl rfl rfl cY i [] s5 _ H5 Y.xe I5 (β c1) a0 go) λr ξ ⟨u,hr,h6⟩=>?_;subst hr;show wpAny _ _ _ _ _ _;refine thn h6 λ_ s7 ⟨x,H7,I7,r7,y7,ν,e4⟩=>?_;have e8:=I7.pinned (β e4) (T.obj _ _ ν);refine thn (δ.1 _ s7 _ H7 x u _ e8 r7 (gk _ _ _ _ _ (fun σ' H' q e l=>(⟨q,e,l⟩:_/\_/\_)) (step x H7 y7))) λ_ s8 ⟨α,H8,I8,q8,e6,e5⟩=>?_;refine thn (δ.2.1 _ s8 α H8 _ I8 q8) λok s9 ⟨H9,I9,q9⟩=>?_
   have again:∀{O:Hp} {Z:Shared} {zs:List V},Inv Y ([]++yM fp s7.heap) α O Z->N' zs O->
     ∃m,m < k/\∃i ys σ' H',Inv Y [] σ' H' Z/\σ'.drop n=(eA n fx σ).drop n/\σ'.length=(eA n fx σ).length/\tn i Z.heap/\(∀b∈fp,H' b=none)/\W i m ys H':=λ{O Z zs} I10 ο=>by
    obtain⟨m',hm,c3⟩:=e3 _ _ ο;refine⟨m',hm,i + 1,zs,α,O,I10.unpinned,e6,e5,T.keep _ _ _ ν λb hb o e=>(I10.pin (b,o) (mem_append_right _ (mem_append_right _ (m7 hb e)))).1,λb hb=>?_,c3⟩;obtain⟨o,e,d⟩:=T.obj _ _ ν b hb;exact(I10.pin (b,o) (mem_append_right _ (mem_append_right _ (m7 hb e)))).2.1
   cases ok with
   | false=>exact again I9 q9
   | true=>
     rw[if_pos rfl];refine thn (δ.2.2 _ s9 α H9 _ I9 q9) λy Z ⟨v',O,I10,c4,c0,b0,ο⟩=>?_;refine thn (cW (X:=Y) _ Z α O (.ref G.heap.objs.size) [v'] (.ref G.heap.objs.size) [y] (λ_ H'=>H'=upd O G.heap.objs.size (.lst (ys++[v']))) I10 rfl (.cons c4 .nil) ⟨_,ys,v',rfl,rfl,c0,b0,rfl⟩) λ_ f0 ⟨_,f5,e9,_,e7⟩=>?_;subst e7;exact again e9 ο
 exact codeAny_compStart_list η (T.self X.A 0 _ _ _ ψ η)
theorem cy {osc:Scope} {ON N:List Str} {n:Nat} {fx:List Nat} {sc:Scope} {Z tg iter:Expr} {L:List Expr} {pos:Pos} {ε:TI} {g:TG} {tc:TT} {te:TE}
  (G:X.calm=true) (ho:X.env.scope=osc) (η:X.N=ON) (S:Ca osc ON N n fx sc=true) (hi:PI X tg iter ε) (θ:EF n g)
  (hb:∀α C fp s H,PG (lP X N sc α C fp s H) tg g/\PTs (lP X N sc α C fp s H) L tc/\PE (lP X N sc α C fp s H) Z te)
  (hs:∀x,foldedSetIterable iter X.env x=pure x:=by intro _;rfl):PE X (.ListComp Z [⟨tg,iter,L,0⟩] sc pos) (IA n fx ε g tc te):=by
 intro pins s σ H Q I h;have S:=kC.of S;obtain⟨α,γ,Y,O⟩:=w9 sc X.env λy ζ hf=>I.ok.has y.1 (by show X.env.scope.names.lookup y.1=some .cell∨X.env.scope.names.lookup y.1=some .free;rw[ho];exact S.fre y ζ hf);rw[eval_ListComp];refine wpAny_comprehension_free (use:=none) rfl hs γ S.kind S.own (zO (RR:=fun δ C=>compPost (model X.prog X.w) X.A X.xe none (EP X pins σ Q) δ C) G ho η S Y O hi θ hb I h ?_);intro D C H' s' I' hm hf q;obtain⟨m,hm⟩:=hm;obtain⟨π,ο,ρ,ξ,ν,ι⟩:=hf;exact⟨m,hm,λh' β=>⟨.ref D,H',I'.turned (t':=s'.toks) (λb o hb e=>(β.2 b hb).trans e) π ο ξ ν ι,rfl,q⟩⟩
theorem dI {i:Nat} {x:Str} {Z:Pos} {O:Pos} {osc:Scope} {ON N:List Str} {n:Nat} {fx:List Nat} {sc:Scope} {L tg iter:Expr} {G:List Expr} {pos:Pos} {ξ:TI} {g:TG} {tc:TT} {te:TE}
  (hnd:X.N.Nodup) (φ:X.N[i]? =some x) (hl:X.env.scope.names.lookup x=some .local) (ε:swapsWith (.ListComp L [⟨tg,iter,G,0⟩] sc pos) (some (.Name x Z)) O.line X.env=pure true)
  (Y:X.calm=true) (ho:X.env.scope=osc) (χ:X.N=ON) (S:Ca osc ON N n fx sc=true) (hi:PI X tg iter ξ) (ψ:EF n g)
  (hb:∀δ C fp s H,PG (lP X N sc δ C fp s H) tg g/\PTs (lP X N sc δ C fp s H) G tc/\PE (lP X N sc δ C fp s H) L te)
  (hs:∀x,foldedSetIterable iter X.env x=pure x:=by intro _;rfl):PS X (.Assign [.Name x Z] (.ListComp L [⟨tg,iter,G,0⟩] sc pos) O) (tAsg (IA n fx ξ g tc te) (G3 i)):=by
 intro pins s σ H D I h;have S:=kC.of S;obtain⟨δ,η,γ,β⟩:=w9 sc X.env λy υ hf=>I.ok.has y.1 (by show X.env.scope.names.lookup y.1=some .cell∨X.env.scope.names.lookup y.1=some .free;rw[ho];exact S.fre y υ hf);rw[exec_Assign_Name_used _ _ _ _ ε];refine wpAny_bind (wpAny_standAt (wpAny_bind ?_));show wpAny _ X.A (do let _ <-comprehension (.ListComp L [⟨tg,iter,G,0⟩] sc pos) sc X.env _ (newList []) false (eval iter X.env) (some (assign (.Name x Z) X.env))) _ _ s
 refine wpAny_bind (thn (wpAny_comprehension_free (use:=some (assign (.Name x Z) X.env)) (Q:=λ_ s'=>SP X pins D .next s') rfl hs η S.kind S.own
  (zO (RR:=fun ν C=>compPost (model X.prog X.w) X.A X.xe (some (assign (.Name x Z) X.env)) (λ_ s'=>SP X pins D .next s') ν C) Y ho χ S γ β hi ψ hb I h ?_)) λ_ s' q=>wpAny_pure (wpAny_pure q))
 intro ρ C H' s' I' hm hf q;obtain⟨m,hm⟩:=hm;obtain⟨f0,π,f2,f3,ο,ω⟩:=hf;show wpAny _ X.A (assign (.Name x Z) X.env (.ref ρ)) _ _ _;refine wpAny_assign_Name (yC I' hnd φ (.inl hl) (v:= .ref ρ) rfl (fun τ I2 θ=>?_) (.inr hl));obtain⟨a,ζ,ha⟩:=θ
 have ι:C≠a:=by
  rcases ha with z | z
  ·rw[z];exact π
  ·exactλe=>ο _ _ z e.symm
 exact⟨m,hm.sameBut ζ ι,λh' α=>⟨_,H',I2.turned (t':=τ.toks) (λb o hb e=>(α.2 b hb).trans e) f0 π f3 ο ω,q⟩⟩
end
section
variable {K:PySem.W.Frag} {n:Nat} {fx:List Nat} {g:TG} {tc:TT} {te:TE} {σ:St} {H1:Hp} {D:Addr} {Q:Hp->Prop}
theorem gh {lo:Int} {k:Nat} (Pv:Nat->List V->Hp->Prop) (h0:Pv 0 [] (upd H1 D (.lst [])))
  (hs:∀i ys H,i < k->Pv i ys H->g (.int (lo + i)) (eA n fx σ) H λG α=>tc G α λb Z=>if b=true then te G Z λv Y=>Y D=some (.lst ys)/\ys.length < sizeLine/\Pv (i + 1) (ys++[v]) (upd Y D (.lst (ys++[v]))) else Pv (i + 1) ys Z)
  (hd:∀ys H,Pv k ys H->Q H):
  ∃W:Nat->Nat->List V->Hp->Prop,(∃m,W 0 m [] (upd H1 D (.lst [])))/\∀i m ys H2,W i m ys H2->((Itr lo k).stop i H2/\Q H2)∨
    ((Itr lo k).go i H2/\∃N:List V->Hp->Prop,(∀L H',N L H'->∃β,β < m/\W (i + 1) β L H')/\∀x γ,(Itr lo k).yld i H2 x γ->g x (eA n fx σ) γ λG α=>tc G α λb Z=>
      if b=true then te G Z λv Y=>Y D=some (.lst ys)/\ys.length < sizeLine/\N (ys++[v]) (upd Y D (.lst (ys++[v]))) else N ys Z):=by
 refine⟨λi m ys H=>m=k - i/\i<=k/\Pv i ys H,⟨k,by simp,zero_le _,h0⟩,?_⟩;rintro i m ys H ⟨rfl,hi,p⟩;by_cases O:i < k
 ·refine .inr ⟨O,Pv (i + 1),λL H' δ=>⟨k - (i + 1),by omega,rfl,O,δ⟩,λx H' y=>?_⟩;obtain⟨e,y⟩:=y;subst e;subst y;exact hs i ys _ O p
 ·have e:i=k:=by omega
  subst e;exact .inl ⟨le_refl _,hd ys H p⟩
theorem aX {a:Addr} {xs:List V} (Pv:Nat->List V->Hp->Prop) (h0:Pv 0 [] (upd H1 D (.lst []))) (hl:∀i ys H,i<=xs.length->Pv i ys H->SqL K H a xs)
  (hs:∀i x ys H,xs[i]? =some x->Pv i ys H->g x (eA n fx σ) H λG α=>tc G α λb Z=>if b=true then te G Z λv Y=>Y D=some (.lst ys)/\ys.length < sizeLine/\Pv (i + 1) (ys++[v]) (upd Y D (.lst (ys++[v]))) else Pv (i + 1) ys Z)
  (hd:∀ys H,Pv xs.length ys H->Q H):
  ∃W:Nat->Nat->List V->Hp->Prop,(∃m,W 0 m [] (upd H1 D (.lst [])))/\∀i m ys H2,W i m ys H2->((Itl K a).stop i H2/\Q H2)∨
    ((Itl K a).go i H2/\∃N:List V->Hp->Prop,(∀L H',N L H'->∃β,β < m/\W (i + 1) β L H')/\∀x γ,(Itl K a).yld i H2 x γ->g x (eA n fx σ) γ λG α=>tc G α λb Z=>
      if b=true then te G Z λv Y=>Y D=some (.lst ys)/\ys.length < sizeLine/\N (ys++[v]) (upd Y D (.lst (ys++[v]))) else N ys Z):=by
 refine⟨λi m ys H=>m=xs.length - i/\i<=xs.length/\Pv i ys H,⟨xs.length,by simp,zero_le _,h0⟩,?_⟩;rintro i m ys H ⟨rfl,hi,p⟩;have q:=hl i ys H hi p;by_cases O:i < xs.length
 ·refine .inr ⟨⟨xs,xs[i],q,by simp[O]⟩,Pv (i + 1),λL H' δ=>⟨xs.length - (i + 1),by omega,rfl,O,δ⟩,λx H' y=>?_⟩;obtain⟨e,y⟩:=y;subst e;exact hs i x ys _ (y xs q) p
 ·have e:i=xs.length:=by omega
  subst e;exact .inl ⟨⟨xs,q,le_refl _⟩,hd ys H p⟩
theorem tO {a:Addr} {xs:List V} (Pv:Nat->List V->Hp->Prop) (h0:Pv 0 [] (upd H1 D (.lst []))) (hl:∀i ys H,i<=xs.length->Pv i ys H->SqT K H a xs)
  (hs:∀i x ys H,xs[i]? =some x->Pv i ys H->g x (eA n fx σ) H λG α=>tc G α λb Z=>if b=true then te G Z λv Y=>Y D=some (.lst ys)/\ys.length < sizeLine/\Pv (i + 1) (ys++[v]) (upd Y D (.lst (ys++[v]))) else Pv (i + 1) ys Z)
  (hd:∀ys H,Pv xs.length ys H->Q H):
  ∃W:Nat->Nat->List V->Hp->Prop,(∃m,W 0 m [] (upd H1 D (.lst [])))/\∀i m ys H2,W i m ys H2->((Itt K a).stop i H2/\Q H2)∨
    ((Itt K a).go i H2/\∃N:List V->Hp->Prop,(∀L H',N L H'->∃β,β < m/\W (i + 1) β L H')/\∀x γ,(Itt K a).yld i H2 x γ->g x (eA n fx σ) γ λG α=>tc G α λb Z=>
      if b=true then te G Z λv Y=>Y D=some (.lst ys)/\ys.length < sizeLine/\N (ys++[v]) (upd Y D (.lst (ys++[v]))) else N ys Z):=by
 refine⟨λi m ys H=>m=xs.length - i/\i<=xs.length/\Pv i ys H,⟨xs.length,by simp,zero_le _,h0⟩,?_⟩;rintro i m ys H ⟨rfl,hi,p⟩;have q:=hl i ys H hi p;by_cases O:i < xs.length
 ·refine .inr ⟨⟨xs,xs[i],q,by simp[O]⟩,Pv (i + 1),λL H' δ=>⟨xs.length - (i + 1),by omega,rfl,O,δ⟩,λx H' y=>?_⟩;obtain⟨e,y⟩:=y;subst e;exact hs i x ys _ (y xs q) p
 ·have e:i=xs.length:=by omega
  subst e;exact .inl ⟨⟨xs,q,le_refl _⟩,hd ys H p⟩
end
def jE (K:PySem.W.Frag) (H:Hp) (x:V) (k:String):Prop:=match x with
 | .non=>k="NoneType"
 | .bl _=>k="bool"
 | .int _=>k="int"
 | .str _=>k="str"
 | .ref p=>(k="list"/\∃xs,SqL K H p xs)∨(k="tuple"/\∃xs,SqT K H p xs)∨(k="dict"/\∃kvs,Rd H p (.dK kvs))
 | _=>False
noncomputable def subB (k T:String):Bool:=k == T||(k == "bool"&&T == "int")
noncomputable def rIsi (K:PySem.W.Frag):List V->Hp->VK->Prop:=λxs H Q=>∃x k T,xs=[x,.ty T]/\jE K H x k/\T∈["int","bool","str","list","tuple","dict"]/\Q (.bl (subB k T)) H
section
variable {X:Cx}
theorem J2:nP X (.builtin "isinstance") (rIsi X.K):=by
 intro pins s σ H xs us Q I r h;obtain⟨x,k,T,rfl,hk,hT,q⟩:=h;obtain⟨u,v,rfl,Y,rt⟩:=K8 r;cases rt;have O:∀b,b=subB k T->EP X pins σ Q (.bool b) s:=λb e=>⟨.bl b,H,I,rfl,by rw[e];exact q⟩;have G:∀b,b=subB k T->EP X pins σ Q (.bool b) {s with toks:=s.toks + 1}:=λb e=>⟨.bl b,H,I.tok _,rfl,by rw[e];exact q⟩;simp only[mem_cons,List.not_mem_nil,or_false] at hT;cases x with
 | non=>
   cases Y;cases hk;rcases hT with rfl | rfl | rfl | rfl | rfl | rfl
   ·exact IsiPair.NoneType_int (G _ (by decide))
   ·exact IsiPair.NoneType_bool (G _ (by decide))
   ·exact IsiPair.NoneType_str (G _ (by decide))
   ·exact IsiPair.NoneType_list (G _ (by decide))
   ·exact IsiPair.NoneType_tuple (G _ (by decide))
   ·exact IsiPair.NoneType_dict (G _ (by decide))
 | bl b=>
   cases Y;cases hk;rcases hT with rfl | rfl | rfl | rfl | rfl | rfl
   ·exact IsiPair.bool_int (O _ (by decide))
   ·exact IsiPair.bool_bool (O _ (by decide))
   ·exact IsiPair.bool_str (G _ (by decide))
   ·exact IsiPair.bool_list (G _ (by decide))
   ·exact IsiPair.bool_tuple (G _ (by decide))
   ·exact IsiPair.bool_dict (G _ (by decide))
 | int i=>
   obtain⟨t,rfl⟩:=Y;cases hk;rcases hT with rfl | rfl | rfl | rfl | rfl | rfl
   ·exact IsiPair.int_int (O _ (by decide))
   ·exact IsiPair.int_bool (G _ (by decide))
   ·exact IsiPair.int_str (G _ (by decide))
   ·exact IsiPair.int_list (G _ (by decide))
   ·exact IsiPair.int_tuple (G _ (by decide))
   ·exact IsiPair.int_dict (G _ (by decide))
 | str z=>
   obtain⟨t,rfl⟩:=Y;cases hk;rcases hT with rfl | rfl | rfl | rfl | rfl | rfl
   ·exact IsiPair.str_int (G _ (by decide))
   ·exact IsiPair.str_bool (G _ (by decide))
   ·exact IsiPair.str_str (O _ (by decide))
   ·exact IsiPair.str_list (G _ (by decide))
   ·exact IsiPair.str_tuple (G _ (by decide))
   ·exact IsiPair.str_dict (G _ (by decide))
 | ref p=>
   cases Y;rcases hk with ⟨rfl,xs,Z⟩ | ⟨rfl,xs,Z⟩ | ⟨rfl,kvs,Z⟩
   ·obtain⟨its,_,pl,_⟩:=I.list Z;obtain⟨o,ho,L,_⟩:=pl.isList;rcases hT with rfl | rfl | rfl | rfl | rfl | rfl
    ·exact IsiPair.list_int ho L (G _ (by decide))
    ·exact IsiPair.list_bool ho L (G _ (by decide))
    ·exact IsiPair.list_str ho L (G _ (by decide))
    ·exact IsiPair.list_list ho L (O _ (by decide))
    ·exact IsiPair.list_tuple ho L (G _ (by decide))
    ·exact IsiPair.list_dict ho L (G _ (by decide))
   ·obtain⟨its,_,pl,_⟩:=I.tuple Z;obtain⟨o,ho,L,_⟩:=pl;rcases hT with rfl | rfl | rfl | rfl | rfl | rfl
    ·exact IsiPair.tuple_int ho L (G _ (by decide))
    ·exact IsiPair.tuple_bool ho L (G _ (by decide))
    ·exact IsiPair.tuple_str ho L (G _ (by decide))
    ·exact IsiPair.tuple_list ho L (G _ (by decide))
    ·exact IsiPair.tuple_tuple ho L (O _ (by decide))
    ·exact IsiPair.tuple_dict ho L (G _ (by decide))
   ·obtain⟨_,_,_,_,o,_,_,ho,ex,_⟩:=Z.ok I.hok;have L:o.cls= .type "dict":=ex.1;rcases hT with rfl | rfl | rfl | rfl | rfl | rfl
    ·exact IsiPair.dict_int ho L (G _ (by decide))
    ·exact IsiPair.dict_bool ho L (G _ (by decide))
    ·exact IsiPair.dict_str ho L (G _ (by decide))
    ·exact IsiPair.dict_list ho L (G _ (by decide))
    ·exact IsiPair.dict_tuple ho L (G _ (by decide))
    ·exact IsiPair.dict_dict ho L (O _ (by decide))
 | _=>exact False.elim hk
noncomputable def Oj:V->List V->Hp->VK->Prop:=λx xs H Q=>∃i,x= .int i/\xs=[]/\Q (.int (Builtin.Int.intBits i:Nat)) H
theorem oO:MtR X "int.bit_length" Oj:=by
 intro pins s σ H x xs v us Q I G rs h;obtain⟨i,rfl,rfl,q⟩:=h;obtain⟨t,rfl⟩:=G;cases rs;exact call_int_bit_length ⟨.int _,H,I.tok _,⟨_,rfl⟩,q⟩
noncomputable def eqVs (xs ys:List V):Bool:=xs.length == ys.length&&(List.range xs.length).all λj=>eqV (xs.getD j .non) (ys.getD j .non)
noncomputable def rEqL (K:PySem.W.Frag) (neg:Bool):R2:=λx y H Q=>∃a b xs ys,x= .ref a/\y= .ref b/\SqL K H a xs/\SqL K H b ys/\xs.all nL=true/\ys.all nL=true/\Q (.bl (if neg then !eqVs xs ys else eqVs xs ys)) H
theorem qd {xs:List V} {us:List Value} (r:Vals xs us) {j:Nat} (h:j < us.toArray.size):RelV (xs.getD j .non) (us.toArray[j]):=by
 have hl:=r.length;have h':j < us.length:=by simpa using h
 obtain⟨u,e,G⟩:=r.get (i:=j) (x:=xs.getD j .non) (by rw[getD_eq_getElem?_getD,getElem?_eq_getElem (by omega)];rfl)
 have L:us.toArray[j]=u:=by
  rw[getElem?_eq_getElem h'] at e;have:=Option.some.inj e;simpa using this
 rw[L];exact G
theorem G8 {xs:List V} (f:xs.all nL=true) (j:Nat):nL (xs.getD j .non)=true:=by
 rw[getD_eq_getElem?_getD];cases e:xs[j]? with
 | none=>rfl
 | some x=>exact all_eq_true.mp f x (mem_of_getElem? e)
theorem Jn {pins:List (Addr×Obj)} {σ:St} {H:Hp} {s:Shared} {a b:Addr} {xs ys:List V} {A:Around} (hu:A.units < cLine) (I:Inv X pins σ H s) (ha:SqL X.K H a xs) (hb:SqL X.K H b ys) (fx:xs.all nL=true) (Y:ys.all nL=true):
  SeqAt.RcAt A s (.ref a) (.ref b) (eqVs xs ys)/\SeqAt.RcNeAt A s (.ref a) (.ref b) (!eqVs xs ys):=by
 obtain⟨its,r,pl,_⟩:=I.list ha;obtain⟨L,r',G,_⟩:=I.list hb;have O:=r.length;have Z:=r'.length;by_cases hl:xs.length=ys.length
 ·have e:eqVs xs ys=(List.range its.toArray.size).all λj=>eqV (xs.getD j .non) (ys.getD j .non):=by
   unfold eqVs;rw[hl,beq_self_eq_true,Bool.true_and,size_toArray,<-O,hl]
  rw[e];have hz:its.toArray.size=L.toArray.size:=by simp;omega
  have he:∀j (h1:j < its.toArray.size) (h2:j < L.toArray.size),SeqAt.EqAt A.in1 s its.toArray[j] L.toArray[j] (eqV (xs.getD j .non) (ys.getD j .non)):=λj h1 h2=>
   KJ (qd r h1) (qd r' h2) (G8 fx j) (G8 Y j)
  exact⟨SeqAt.RcAt.lists pl.isList G.isList hz hu he,SeqAt.RcNeAt.lists pl.isList G.isList hz hu he⟩
 ·have e:eqVs xs ys=false:=by
   unfold eqVs;rw[beq_eq_false_iff_ne.mpr hl,Bool.false_and]
  rw[e];have hz:(its.toArray.size != L.toArray.size)=true:=by simp;omega
  exact⟨SeqAt.RcAt.lists_lengths pl.isList G.isList hz hu,SeqAt.RcNeAt.lists_lengths pl.isList G.isList hz hu⟩
theorem OH (hu:X.A.units < cLine):OpR X (compareOp .NotEq) (rEqL X.K true):=by
 intro pins s σ H x y v u Q I L G h;obtain⟨a,b,xs,ys,rfl,rfl,ha,hb,fx,O,q⟩:=h;cases L;cases G;exact(Jn hu I ha hb fx O).2 X.prog X.w X.xe _ ⟨.bl _,H,I,rfl,q⟩
end
theorem dE (a b:Nat):Builtin.bitAnd (a:Int) (b:Int)=((a&&&b:Nat):Int):=by
 unfold Builtin.bitAnd;rw[decide_eq_true (Int.natCast_nonneg a),decide_eq_true (Int.natCast_nonneg b)];simp
theorem Gi:typeLookup (.type "list_reverseiterator") "__len__"=pure none:=by rw[typeLookup_type,builtinLookup_eq_fast];kernel_rfl
theorem JG:typeLookup (.type "list_reverseiterator") "__length_hint__"=pure (some (.builtin "list_reverseiterator.__length_hint__")):=by rw[typeLookup_type,builtinLookup_eq_fast];kernel_rfl
section
variable {P0:Program} {w0:World} {A0:Around} {E0':Value->Shared->Prop} {t0:Shared}
theorem DZ {R:Result->Shared->Prop} {O l:Addr} {items:Array Value} (ξ:A0.handled=none) (ζ:l≠O) (L:t0.heap.IsRevIter O l ((items.size:Int) - 1)) (hl:t0.heap.IsList l items) (hz:items.size<=sizeLine)
  (S:Addr) (res:Value) (Y:Nat) (ο:t0.heap.get? S=some {cls:= .type "list",data:= .seq #[] Y}) (δ:S≠O) (θ:S≠l)
  (π:∀h' tk G Z,(∀b o,b≠S->b≠O->t0.heap.get? b=some o->h'.get? b=some o)->h'.get? S=some {cls:= .type "list",dict:=none,data:= .seq G Z,slots:=#[]}->
   ItemsOf (λi v=>items[items.size - 1 - i]? =some v) G items.size->R (.ok (.ret res)) {t0 with heap:=h',toks:=tk}):
  wpAny (model P0 w0) A0.in1 (Builtin.List.listExtendWith (.ref S) (.ref O) res)
   (λfin s'=>match fin with | .done f=>R (.ok f) s' | .again Z=>Z.quiet=true/\codeAny (model P0 w0) A0 Z R s') (λe s'=>R (.error e) s') t0:=by
 have W:=(Walks.listRev (prog:=P0) (w:=w0) (A:=A0.in1) ξ O l ζ items).toS;have ε:(0:Nat)<=items.size/\t0.heap.IsRevIter O l ((items.size:Int) - 1 - ((0:Nat):Int))/\t0.heap.IsList l items:=⟨zero_le _,by simpa using L,hl⟩;have h1:Builtin.List.listSameRef (.ref S) (.ref O)=false:=by simp[Builtin.List.listSameRef,δ]
 have ι:S∉[O,l]:=by simp[δ,θ]
 unfold Builtin.List.listExtendWith;refine wpAny_bind (wpAny_typeOf L.typeIs ?_);rw[if_neg (by rw[h1];decide)];refine wpAny_bind (wpAny_pyIter_revIter L ?_);refine wpAny_bind (wpAny_holding ?_);unfold Builtin.List.listLengthHint;refine wpAny_bind (wpAny_specialOf L.typeIs Gi ?_);show wpAny _ A0.in1 (specialOf (Value.ref O) (Str.ofString "__length_hint__") >>=_) _ _ _;refine wpAny_bind (wpAny_specialOf L.typeIs JG ?_)
 (generalize β:("list_reverseiterator.__length_hint__":String)=id0;wp_delta;rw[show splitId id0=some ("list_reverseiterator","__length_hint__") from by subst β;decide +kernel];subst β)
 refine wpAny_bind (wpAny_isInstance (b:=true) L.typeIs (by rw[isSubtype_type];kernel_rfl) ?_);refine wpAny_pure ?_;rw[if_neg (by decide)];refine wpAny_pure ⟨plainId_quiet F.plain_extend_loop _,codeAny_extend_loopS W hz S ι res items.size 0 t0 #[] Y rfl (zero_le _) ε ο (ItemsOf.nil _) λs' G Z hm ν γ=>?_⟩;rw[Moved.eq_with hm];refine π s'.heap s'.toks G Z (λb o hb η e=>hm.heap b o (fun α=>?_) e) ν γ;rcases mem_cons.mp α with z | z
 ·exact hb z
 ·exact η (mem_singleton.mp z)
theorem JF {R:Result->Shared->Prop} {L l:Addr} {items:Array Value} (ι:A0.handled=none) (γ:l≠L) (δ:t0.heap.IsRevIter L l ((items.size:Int) - 1)) (hl:t0.heap.IsList l items) (hz:items.size<=sizeLine)
  (S:Addr) (θ:t0.heap.get? S=some {cls:= .type "list",data:= .seq #[]}) (α:S≠L) (Z:S≠l)
  (ν:∀h' tk G O,(∀b o,b≠S->b≠L->t0.heap.get? b=some o->h'.get? b=some o)->h'.get? S=some {cls:= .type "list",dict:=none,data:= .seq G O,slots:=#[]}->
   ItemsOf (λi v=>items[items.size - 1 - i]? =some v) G items.size->R (.ok (.ret .none)) {t0 with heap:=h',toks:=tk}):
  wpAny (model P0 w0) A0.in1 (Builtin.«list.__init__» ⟨[.ref S,.ref L],[]⟩)
   (λfin s'=>match fin with | .done f=>R (.ok f) s' | .again O=>O.quiet=true/\codeAny (model P0 w0) A0 O R s') (λe s'=>R (.error e) s') t0:=by
 show wpAny _ _ (do let β <-Builtin.List.listItems (.ref S);Builtin.List.listUpdate (.ref S) (λ_=>#[]);letGo β.toList.reverse;Builtin.List.listExtendWith (.ref S) (.ref L) .none) _ _ t0;refine wpAny_bind ?_;unfold Builtin.List.listItems;refine wpAny_bind (wpAny_seqItems θ rfl (wpAny_pure ?_));show wpAny _ _ (updateSeq S (λ_=>#[]) >>=λ_=>letGo (#[]:Array Value).toList.reverse >>=λ_=>Builtin.List.listExtendWith (.ref S) (.ref L) .none) _ _ t0;refine wpAny_bind (wpAny_updateSeq θ rfl ?_);have ζ:=Heap.get?_update_self (Obj.mapSeq (λ_=>(#[]:Array Value))) θ rfl;have oth:∀b o,b≠S->t0.heap.get? b=some o->(t0.heap.update S (Obj.mapSeq (λ_=>(#[]:Array Value)))).get? b=some o:=λb o hb e=>(Heap.get?_update_other _ _ (Ne.symm hb)).trans e;refine wpAny_bind (wpAny_letGo ?_);refine DZ ι γ (δ.at λo e=>oth L o (Ne.symm α) e) (let ⟨o,e,c⟩:=hl;⟨o,oth l o (Ne.symm Z) e,c⟩) hz S .none _ ζ α Z λh' tk G O hk η Y=>?_;exact ν h' tk G O (λb o hb ε e=>hk b o hb ε (oth b o hb e)) η Y
theorem yl {Q:Value->Shared->Prop} {O l:Addr} {items:Array Value} (θ:A0.handled=none) (δ:l≠O) (Z:t0.heap.IsRevIter O l ((items.size:Int) - 1)) (hl:t0.heap.IsList l items) (hz:items.size<=sizeLine)
  (ι:∀h' tk G ζ,(∀b o,b≠O->t0.heap.get? b=some o->h'.get? b=some o)->h'.get? t0.heap.objs.size=some {cls:= .type "list",dict:=none,data:= .seq G ζ,slots:=#[]}->
   ItemsOf (λi v=>items[items.size - 1 - i]? =some v) G items.size->Q (.ref t0.heap.objs.size) {t0 with heap:=h',toks:=tk}):
  wpAny (model P0 w0) A0 (call (.type "list") [.ref O]) Q E0' t0:=by
 have γ:O < t0.heap.objs.size:=let ⟨o,e,_⟩:=Z;Heap.lt_size e
 have β:l < t0.heap.objs.size:=let ⟨o,e,_⟩:=hl;Heap.lt_size e
 refine callType_codes (Q₁:=λobj L=>obj= .ref t0.heap.objs.size/\L={t0 with heap:=t0.heap.push {cls:= .type "list",data:= .seq #[]}}) F.called_list (F.typeCall_list_1 _) F.entry_list_init (code_list_new _ ⟨rfl,rfl⟩) λobj L Y=>?_;obtain⟨rfl,rfl⟩:=Y;have η:(t0.heap.push {cls:= .type "list",data:= .seq #[]}).get? t0.heap.objs.size=some {cls:= .type "list",data:= .seq #[]}:=Heap.get?_push_size _ rfl;refine⟨⟨_,η,rfl⟩,F.args_list_init_2 _ _,JF (A0:=A0.in1) θ δ (Z.at λo e=>Heap.get?_push_of_some _ e) (let ⟨o,e,c⟩:=hl;⟨o,Heap.get?_push_of_some _ e,c⟩) hz _ η (Ne.symm (ne_of_lt γ)) (Ne.symm (ne_of_lt β)) λh' tk G ζ hk ε α=>?_⟩;exact⟨rfl,ι h' tk G ζ (λb o hb e=>hk b o (ne_of_lt (Heap.lt_size e)) hb (Heap.get?_push_of_some _ e)) ε α⟩
end
theorem Inv.laidT {X:Cx} {pins:List (Addr×Obj)} {σ:St} {H:Hp} {s:Shared} {h':Heap} {a L:Addr} {o:HO} {t':Nat} (I:Inv X pins σ H s) (k:∀b u,b≠L->s.heap.get? b=some u->h'.get? b=some u) (α:s.heap.objs.size<=a)
  (Z:gG X.prog X.w (upd H a o) h' a o) (fp:FpOk X pins H L):Inv X pins σ (upd H a o) {s with heap:=h',toks:=t'}:=by
 obtain⟨ζ,β,η,ε,δ,γ⟩:=fp;have fr:H a=none:=I.hok.fresh α;have Y:∀b u,H b=some u->b≠L:=λb u e z=>by rw[z,ζ] at e;cases e
 have G:∀{b:Addr},b∉[L]->b≠L:=λhb z=>hb (by rw[z];exact mem_singleton.mpr rfl)
 refine I.step (g':=s.gens) (d':=s.drawn) (ch:=[L]) (λb hb=>?_) (λb ob _ _ O e _=>k b ob (G O) e) (λb ob _ _ O e _=>⟨ob.slots,k b ob (G O) e⟩) (λb ob _ e n=>?_) (λb ob O e=>⟨ob,k b ob (G O) e⟩)
  (λb xs e=>by rw[aG (ao e fr)];exact e) (λb ob u e=>by rw[aG (ao e fr)];exact e) (λb ps e=>⟨#[],by rw[aG (ao e fr),e];simp⟩) (λm hm=>?_) (λb u e=>?_) I.bare
 ·have e:b=L:=mem_singleton.mp hb;subst e;exact⟨ε,β,δ,γ⟩
 ·rw[aG (ne_of_lt (lt_of_lt_of_le (Heap.lt_size e) α))];exact n
 ·obtain⟨ob,es,ep,ho,r⟩:=hm;exact⟨ob,es,ep,k _ ob (Ne.symm β) ho,r⟩
 ·by_cases hb:b=a
  ·subst hb;rw[ay] at e;cases e;exact Z
  ·rw[aG hb] at e;refine(I.hok b u e).stay (λc v O q=>k c v ?_ q) (λc q=>by rw[aG (ao q fr)];exact q) λc xs q=>by rw[aG (ao q fr)];exact q
   rcases O with z | z
   ·rw[z];exact Y b u e
   ·exact Y c _ z
theorem GK {its:List Value} {G:Array Value} (h:ItemsOf (λi v=>its.toArray[its.toArray.size - 1 - i]? =some v) G its.toArray.size):G=its.reverse.toArray:=by
 obtain⟨h1,h2⟩:=h;apply Array.ext_getElem?;intro i;have hs:its.toArray.size=its.length:=by simp
 by_cases hi:i < G.size
 ·have e:=h2 i G[i] (Array.getElem?_eq_getElem hi);rw[Array.getElem?_eq_getElem hi,<-e];rw[List.getElem?_toArray,List.getElem?_toArray,List.getElem?_reverse (by omega),hs]
 ·rw[Array.getElem?_eq_none (by omega),Array.getElem?_eq_none (by simp;omega)]
noncomputable def tRev (K:PySem.W.Frag) (te:TE):TE:=fun σ H Q=>te σ H λx H1=>∃a xs,x= .ref a/\SqL K H1 a xs/\∀l,H1 l=none->Q (.ref l) (upd H1 l (.lst xs.reverse))
section
variable {X:Cx}
theorem C7 {e:Expr} {te:TE} {p1 p2 α η:Pos} (g1:Gl X "list") (g2:Gl X "reversed") (n1:X.mg "list"=none) (ι:X.mg "reversed"=none) (hc:X.calm=true) (he:PE X e te)
  (h1:starEach [Expr.Call (.Name "reversed" p1) [e] [] p2] X.env=[(false,eval (.Call (.Name "reversed" p1) [e] [] p2) X.env)]:=by rfl) (h2:starEach [e] X.env=[(false,eval e X.env)]:=by rfl):
  PE X (.Call (.Name "list" α) [.Call (.Name "reversed" p1) [e] [] p2] [] η) (tRev X.K te):=by
 intro pins s σ H Q I h
 have L:∀ζ:Value->Shared->Prop,(∀v G,(∃a xs its H1 r,v= .ref r/\SqL X.K H1 a xs/\Vals xs its/\a≠r/\Inv X pins σ H1 G/\G.heap.IsRevIter r a ((its.toArray.size:Int) - 1)/\G.heap.IsList a its.toArray/\its.length<=sizeLine/\H1 r=none/\FpOk X pins H1 r/\(∀l,H1 l=none->Q (.ref l) (upd H1 l (.lst xs.reverse))))->ζ v G)->
   wpAny (model X.prog X.w) X.A (eval (.Call (.Name "reversed" p1) [e] [] p2) X.env) ζ X.xe s:=fun ζ ε=>by
  refine Call_ (rG I g2 ι PyProof.Rows.boot_reversed (PyProof.Rows.callWith_type1 (thn (aa he ae h2 p2 pins s σ H (λvs H1=>match vs with | [x]=>∃a xs,x= .ref a/\SqL X.K H1 a xs/\∀l,H1 l=none->Q (.ref l) (upd H1 l (.lst xs.reverse)) | _=>False) I h) λus G ⟨vs,H1,I1,Z,α⟩=>?_) h2 rfl))
  match vs,Z,α with
  | [x],Z,⟨a,xs,ο,β,q⟩=>
  obtain⟨u,rfl,θ⟩:=Z.one;subst ο;cases θ;obtain⟨its,O,pl,hz⟩:=I1.list β;have lt:a < G.heap.objs.size:=let ⟨o,e,_⟩:=pl.isList;Heap.lt_size e
  refine call_reversed_list pl.isList (ε _ _ ⟨a,xs,its,H1,G.heap.objs.size,rfl,β,O,ne_of_lt lt,I1.kept (t':=G.toks) λb o e=>Heap.get?_push_of_some _ e,⟨_,Heap.get?_push_size _ rfl,rfl,rfl⟩,let ⟨o,e,c⟩:=pl.isList;⟨o,Heap.get?_push_of_some _ e,c⟩,by rw[<-O.length];exact hz,I1.fresh,I1.fpOk (le_refl _) I1.fresh,q⟩)
 refine Call_ (rG I g1 n1 PyProof.Rows.boot_list (PyProof.Rows.callWith_type1 (Q:=EP X pins σ Q) ?_ h1 rfl));rw[h1];show wpAny _ _ (spliced ((false,eval (.Call (.Name "reversed" p1) [e] [] p2) X.env)::backTo η [])) _ _ s;refine Calls.spliced_cons (L _ λv G ν=>Calls.spliced_nil ?_);obtain⟨a,xs,its,H1,r,rfl,β,O,γ,I1,δ,hl,hz,hf,fp,q⟩:=ν;refine yl (I1.ok.hd hc) γ δ hl (by simpa using hz) λh' tk π c hk ξ Y=>?_;have e:=GK Y;subst e;exact⟨.ref G.heap.objs.size,upd H1 G.heap.objs.size (.lst xs.reverse),I1.laidT hk (le_refl _) ⟨by rw[List.length_reverse,O.length];exact hz,its.reverse,c,O.reverse,ξ⟩ fp,rfl,q _ I1.fresh⟩
end
section
variable {X:Cx} {K:PySem.W.Frag}
theorem aL (h:X.K=K):IxR X (rIxL K):=by subst h;exact Mt
theorem av (h:X.K=K):IxR X (rIxT K):=by subst h;exact O8
theorem kG (h:X.K=K):SlR X (rSlL K):=by subst h;exact LB
theorem Ma (h:X.K=K) (hu:X.A.units < cLine):OpR X (compareOp .NotEq) (rEqL K true):=by subst h;exact OH hu
theorem kr (h:X.K=K):nP X (.builtin "isinstance") (rIsi K):=by subst h;exact J2
noncomputable def rLen (K:PySem.W.Frag):List V->Hp->VK->Prop:=λxs H Q=>∃x n,xs=[x]/\LenV K x H n/\Q (.int n) H
theorem aP (h:X.K=K):nP X (.builtin "len") (rLen K):=by subst h;exact J1
noncomputable def Av (K:PySem.W.Frag):List V->Hp->VK->Prop:=λxs H Q=>∃p ys,xs=[.ref p]/\(SqL K H p ys∨SqT K H p ys)/\∀l,H l=none->Q (.ref l) (upd H l (.lst ys))
theorem fq (h:X.K=K):nP X (.type "list") (Av K):=by subst h;exact zQ
noncomputable def FS (K:PySem.W.Frag):List V->Hp->VK->Prop:=λxs H Q=>∃p ys,xs=[.ref p]/\((SqL K H p ys/\∀l,H l=none->Q (.ref l) (upd H l (.tup ys)))∨(SqT K H p ys/\Q (.ref p) H))
theorem dX (h:X.K=K):nP X (.type "tuple") (FS K):=by subst h;exact yk
theorem aU {tg l:Expr} {tl:TE} (h:X.K=K) (hl:PE X l tl):PI X tg l (Mw K tl):=by subst h;exact L7 hl
theorem kS {tg l:Expr} {tl:TE} (h:X.K=K) (hl:PE X l tl):PI X tg l (iTup K tl):=by subst h;exact Oz hl
theorem oF {o:Expr} {to:TE} {name:Str} {apos cpos:Pos} {T id:String} {r:V->List V->Hp->VK->Prop} (h:X.K=K) (Y:PlainAttrs T) (slot:Slot T name id) (O:typeOf (.builtin id)=pure (.type "method_descriptor")) (hm:MtR X id r) (ho:PE X o to)
  (L:attributeBase o name X.env (eval o X.env)=eval o X.env:=by rfl) (G:(apos.endLine == cpos.line)=true:=by rfl):PE X (.Call (.Attribute o name apos) [] [] cpos) (tBM0 K T r to):=by subst h;exact OF Y slot O hm ho L G
theorem d2 {o e:Expr} {es:List Expr} {to:TE} {t:TA} {name:Str} {apos cpos:Pos} {T id:String} {r:V->List V->Hp->VK->Prop} (h:X.K=K) (α:PlainAttrs T) (slot:Slot T name id) (Z:typeOf (.builtin id)=pure (.type "method_descriptor")) (hm:MtR X id r) (ho:PE X o to) (ha:PA X (e::es) t)
  (O:attributeBase o name X.env (eval o X.env)=eval o X.env:=by rfl)
  (Y:((backTo cpos (starEach (e::es) X.env)).all (λx=> !x.1)&&(backToKw cpos (keywordEach [] X.env)).all (λx=>x.1.isSome)
   &&decide ((e::es).length + ([]:List Keyword).length + (if ([]:List Keyword).isEmpty then 0 else 1) < 30))=true:=by rfl)
  (L:(apos.endLine == cpos.line)=true:=by rfl) (hs:starEach (e::es) X.env=(false,eval e X.env)::starEach es X.env:=by rfl) (G:(backTo cpos (starEach es X.env)).any (·.1)=false:=by rfl):
  PE X (.Call (.Attribute o name apos) (e::es) [] cpos) (tBM K T r to t):=by subst h;exact Qn α slot Z hm ho ha O Y L hs G
end
noncomputable def Its (x:Str):It:=⟨λi _=>i < x.cps.size,λi H v H'=>H'=H/\∃c,x.cps[i]? =some c/\v= .str ⟨#[c]⟩,λi _=>i=x.cps.size⟩
theorem Br {P:Program} {w:World} {K:PySem.W.Frag} {tg:Expr} {G:Addr} {x:Str} {t:Tok} {n:String}
  (hn:["enumerate","zip","dict_itemiterator","dict_reverseitemiterator","odict_iterator","itertools.zip_longest","itertools.pairwise"].contains n=false)
  (W:∀A:Around,A.handled=none->Walks P w A G [G] [G] x.cps.size (SignAt x) (λi h=>h.IsStrIter G n x t i))
  (L:∀(A:Around) (i:Nat) (s:Shared) (Q:Value->Shared->Prop) (E:Value->Shared->Prop),s.heap.IsStrIter G n x t i->Q (.ref G) s->wpAny (model P w) A (pyIter (.ref G)) Q E s):
  Turn P w K tg (Its x) [G] G (λi h=>h.IsStrIter G n x t i) where
 mem:=by simp
 obj:=λi h st b hb=>by
  have e:b=G:=by simpa using hb
  subst e;obtain⟨o,e,c,d⟩:=st;exact⟨o,e,λv z=>by rw[d] at z;cases z⟩
 keep:=λi h h' st k=>let ⟨o,e,r⟩:=st;⟨o,k G (by simp) o e,r⟩
 item:=by
  intro X β hw γ α i pins s σ H E I hf st Y;subst β hw γ;obtain⟨θ,η,ξ,ζ,ε,δ⟩:=hf G (by simp);refine(W X.A (I.ok.hd α)).item i s _ _ Y st λv h' tk ν O Z=>?_;obtain⟨c,u,ι,rfl⟩:=ν;have π:Inv X pins σ H {s with heap:=h',toks:=tk}:=I.turned (λb o hb e=>Z b o (by simpa using hb) e) θ η ζ ε δ;obtain⟨o,e,ο,d⟩:=id O;exact⟨_,rfl,JJ (s:={s with heap:=h',toks:=tk}) (n:=n) e ο d hn ⟨.str ⟨#[c]⟩,H,π,⟨u,rfl⟩,⟨rfl,c,ι,rfl⟩,O,λb hb=>(hf b hb).1⟩⟩
 done:=by
  intro X β hw γ α i pins s σ H E I hf st Y;subst β hw γ;obtain⟨θ,η,ξ,ζ,ε,δ⟩:=hf G (by simp);have Y:i=x.cps.size:=Y;subst Y;exact(W X.A (I.ok.hd α)).done s _ _ st λh' tk Z=>⟨rfl,I.turned (λb o hb e=>Z b o (by simpa using hb) e) θ η ζ ε δ⟩
 self:=L
noncomputable def iStr (tl:TE):TI:=fun σ H R=>tl σ H λx H1=>∃z,x= .str z/\R (Its z) H1
section
variable {X:Cx} {tg:Expr}
theorem OA {l:Expr} {tl:TE} (hl:PE X l tl):PI X tg l (iStr tl):=by
 intro pins s σ H R I h;refine thn (hl pins s σ H _ I h) λv G ⟨x,H1,I1,O,Y⟩=>?_;obtain⟨z,e,q⟩:=Y;subst e;obtain⟨t,rfl⟩:=O
 have fp:∀(o:Obj),∀b∈[G.heap.objs.size],FpOk X pins H1 b:=λo b hb=>by
  have e:b=G.heap.objs.size:=by simpa using hb
  subst e;exact I1.fpOk (le_refl _) (I1.hok.fresh (le_refl _))
 cases ha:z.cps.all (· < 128)
 ·refine wpAny_pyIter_wide ha ⟨G.heap.objs.size,[G.heap.objs.size],_,_,H1,rfl,I1.kept (t':=G.toks) λb o e=>Heap.get?_push_of_some _ e,
   Br (n:="str_iterator") (t:=t) (by decide) (λA L=>Walks.strWide L _ z t) (λ_ _ _ _ _ st h=>wpAny_pyIter_striter_wide st h),⟨_,Heap.get?_push_size _ rfl,rfl,rfl⟩,fp default,q⟩
 ·refine wpAny_pyIter_ascii ha ⟨G.heap.objs.size,[G.heap.objs.size],_,_,H1,rfl,I1.kept (t':=G.toks) λb o e=>Heap.get?_push_of_some _ e,
   Br (n:="str_ascii_iterator") (t:=t) (by decide) (λA L=>Walks.strAscii L _ z t) (λ_ _ _ _ _ st h=>wpAny_pyIter_striter_ascii st h),⟨_,Heap.get?_push_size _ rfl,rfl,rfl⟩,fp default,q⟩
end
section
variable {n:Nat} {fx:List Nat} {g:TG} {tc:TT} {te:TE} {σ:St} {H1:Hp} {D:Addr} {Q:Hp->Prop}
theorem JZ {z:Str} (Pv:Nat->List V->Hp->Prop) (h0:Pv 0 [] (upd H1 D (.lst [])))
  (hs:∀i c ys H,z.cps[i]? =some c->Pv i ys H->g (.str ⟨#[c]⟩) (eA n fx σ) H λG α=>tc G α λb Z=>if b=true then te G Z λv Y=>Y D=some (.lst ys)/\ys.length < sizeLine/\Pv (i + 1) (ys++[v]) (upd Y D (.lst (ys++[v]))) else Pv (i + 1) ys Z)
  (hd:∀ys H,Pv z.cps.size ys H->Q H):
  ∃W:Nat->Nat->List V->Hp->Prop,(∃m,W 0 m [] (upd H1 D (.lst [])))/\∀i m ys H2,W i m ys H2->((Its z).stop i H2/\Q H2)∨
    ((Its z).go i H2/\∃N:List V->Hp->Prop,(∀L H',N L H'->∃β,β < m/\W (i + 1) β L H')/\∀x γ,(Its z).yld i H2 x γ->g x (eA n fx σ) γ λG α=>tc G α λb Z=>
      if b=true then te G Z λv Y=>Y D=some (.lst ys)/\ys.length < sizeLine/\N (ys++[v]) (upd Y D (.lst (ys++[v]))) else N ys Z):=by
 refine⟨λi m ys H=>m=z.cps.size - i/\i<=z.cps.size/\Pv i ys H,⟨z.cps.size,by simp,zero_le _,h0⟩,?_⟩;rintro i m ys H ⟨rfl,hi,p⟩;by_cases O:i < z.cps.size
 ·refine .inr ⟨O,Pv (i + 1),λL H' δ=>⟨z.cps.size - (i + 1),by omega,rfl,O,δ⟩,λx H' y=>?_⟩;obtain⟨e,c,ε,y⟩:=y;subst e;subst y;exact hs i c ys _ ε p
 ·have e:i=z.cps.size:=by omega
  subst e;exact .inl ⟨rfl,hd ys H p⟩
end
theorem Cu {ns:List Str}:∀{us:List Value},Vals (ns.map V.str) us->StrsAre us ns:=by
 induction ns with
 | nil=>intro us r;rw[map_nil] at r;cases r;exact .nil
 | cons n ns ih=>
   intro us r;rw[map_cons] at r;cases r with
   | cons L G=>
     obtain⟨t,e⟩:=L;subst e;exact .cons n t (ih G)
noncomputable def Oi (K:PySem.W.Frag):V->List V->Hp->VK->Prop:=λx xs H Q=>∃z D ys,x= .str z/\xs=[.ref D]/\SqL K H D (ys.map V.str)/\(ys.map (·.length)).sum + ys.length * z.length<=16777216/\Q (.str (Txt.join z ys)) H
noncomputable def Om (K:PySem.W.Frag):List V->Hp->VK->Prop:=λxs H Q=>∃(a:Addr) (bs:List Bool),xs=[.ref a]/\SqL K H a (bs.map V.bl)/\Q (.bl (bs.all id)) H
noncomputable def Ol (K:PySem.W.Frag):List V->Hp->VK->Prop:=λxs H Q=>∃(a:Addr) (bs:List Bool),xs=[.ref a]/\SqL K H a (bs.map V.bl)/\Q (.bl (bs.any id)) H
section
variable {X:Cx} {K:PySem.W.Frag}
theorem BS (h:X.K=K):MtR X "str.join" (Oi K):=by
 subst h;intro pins s σ H x xs v us Q I G rs h;obtain⟨z,D,ys,rfl,rfl,Y,hz,q⟩:=h;obtain⟨t,rfl⟩:=G;obtain⟨u,rfl,O⟩:=tR rs;cases O;obtain⟨its,L,pl,_⟩:=I.list Y;exact join_list pl.isList (Cu (by simpa using L)) hz λt' k=>⟨.str (Txt.join z ys),H,I.tok k,⟨t',rfl⟩,q⟩
theorem Hv {bs:List Bool} {its:List Value} (G:Vals (bs.map V.bl) its) {i:Nat} {v:Value} (h:its.toArray[i]? =some v):v= .bool (bs.getD i false):=by
 have h':its[i]? =some v:=by simpa using h
 have hi:i < its.length:=(List.getElem?_eq_some_iff.mp h').1;have hl:=G.length;rw[length_map] at hl;obtain⟨u,e,r⟩:=G.get (i:=i) (x:= .bl (bs.getD i false)) (by rw[getElem?_map,getElem?_eq_getElem (by omega),getD_eq_getElem?_getD,getElem?_eq_getElem (by omega)];rfl);rw[h'] at e;cases e;exact r
theorem Py (bs:List Bool):(List.range bs.length).all (λi=>bs.getD i false)=bs.all id:=by
 rw[Bool.eq_iff_iff,all_eq_true,all_eq_true];constructor
 ·intro h x G;obtain⟨i,hi,e⟩:=mem_iff_getElem.mp G;have:=h i (mem_range.mpr hi);rw[getD_eq_getElem?_getD,getElem?_eq_getElem hi,e] at this;exact this
 ·intro h i hi;have hi:=mem_range.mp hi;rw[getD_eq_getElem?_getD,getElem?_eq_getElem hi];exact h _ (getElem_mem hi)
theorem Pw (bs:List Bool):(List.range bs.length).any (λi=>bs.getD i false)=bs.any id:=by
 rw[Bool.eq_iff_iff,any_eq_true,any_eq_true];constructor
 ·rintro⟨i,hi,h⟩;have hi:=mem_range.mp hi;rw[getD_eq_getElem?_getD,getElem?_eq_getElem hi] at h;exact⟨_,getElem_mem hi,h⟩
 ·rintro⟨x,G,h⟩;obtain⟨i,hi,e⟩:=mem_iff_getElem.mp G;refine⟨i,mem_range.mpr hi,?_⟩;rw[getD_eq_getElem?_getD,getElem?_eq_getElem hi,e];exact h
theorem vw (h:X.K=K) (hc:X.calm=true):nP X (.builtin "all") (Om K):=by
 subst h;intro pins s σ H xs us Q I r h;obtain⟨a,bs,rfl,Z,q⟩:=h;obtain⟨u,rfl,L⟩:=tR r;cases L;obtain⟨its,G,pl,hz⟩:=I.list Z;have lt:a < s.heap.objs.size:=let ⟨o,e,_⟩:=pl.isList;Heap.lt_size e
 have hl:its.toArray.size=bs.length:=by have:=G.length;rw[length_map] at this;simp[this]
 refine call_all_walk (wpAny_pyIter_list pl.isList ⟨s.heap.objs.size,_,_,its.toArray.size,_,_,λi=>bs.getD i false,rfl,Walks.list (A:=X.A.in1) (I.ok.hd hc) s.heap.objs.size a (ne_of_lt lt) its.toArray,⟨⟨_,Heap.get?_push_size _ rfl,rfl,rfl⟩,let ⟨o,e,c⟩:=pl.isList;⟨o,Heap.get?_push_of_some _ e,c⟩⟩,λi v s Q E Y α=>by rw[Hv G Y];exact wpAny_truthy_bool α,λh' tk O=>?_⟩);rw[hl,Py];exact⟨.bl _,H,I.kept (λb o e=>O b o (λhm=>by have:=Heap.lt_size e;rw[mem_singleton.mp hm] at this;exact absurd this (lt_irrefl _)) (Heap.get?_push_of_some _ e)),rfl,q⟩
theorem zR (h:X.K=K) (hc:X.calm=true):nP X (.builtin "any") (Ol K):=by
 subst h;intro pins s σ H xs us Q I r h;obtain⟨a,bs,rfl,Z,q⟩:=h;obtain⟨u,rfl,L⟩:=tR r;cases L;obtain⟨its,G,pl,hz⟩:=I.list Z;have lt:a < s.heap.objs.size:=let ⟨o,e,_⟩:=pl.isList;Heap.lt_size e
 have hl:its.toArray.size=bs.length:=by have:=G.length;rw[length_map] at this;simp[this]
 refine call_any_walk (wpAny_pyIter_list pl.isList ⟨s.heap.objs.size,_,_,its.toArray.size,_,_,λi=>bs.getD i false,rfl,Walks.list (A:=X.A.in1) (I.ok.hd hc) s.heap.objs.size a (ne_of_lt lt) its.toArray,⟨⟨_,Heap.get?_push_size _ rfl,rfl,rfl⟩,let ⟨o,e,c⟩:=pl.isList;⟨o,Heap.get?_push_of_some _ e,c⟩⟩,λi v s Q E Y α=>by rw[Hv G Y];exact wpAny_truthy_bool α,λh' tk O=>?_⟩);rw[hl,Pw];exact⟨.bl _,H,I.kept (λb o e=>O b o (λhm=>by have:=Heap.lt_size e;rw[mem_singleton.mp hm] at this;exact absurd this (lt_irrefl _)) (Heap.get?_push_of_some _ e)),rfl,q⟩
end
inductive Dt where
 | non | bl (b:Bool) | int (i:Int) | str (x:Str) | lst (xs:List Dt) | tup (xs:List Dt)
inductive Rep (K:PySem.W.Frag) (H:Hp):V->Dt->Prop where
 | non:Rep K H .non .non
 | bl (b:Bool):Rep K H (.bl b) (.bl b)
 | int (i:Int):Rep K H (.int i) (.int i)
 | str (x:Str):Rep K H (.str x) (.str x)
 | lst {p:Addr} {xs:List V} {ds:List Dt} (h:SqL K H p xs) (l:xs.length=ds.length) (r:∀(i:Nat) x d,xs[i]? =some x->ds[i]? =some d->Rep K H x d):Rep K H (.ref p) (.lst ds)
 | tup {p:Addr} {xs:List V} {ds:List Dt} (h:SqT K H p xs) (l:xs.length=ds.length) (r:∀(i:Nat) x d,xs[i]? =some x->ds[i]? =some d->Rep K H x d):Rep K H (.ref p) (.tup ds)
theorem Same.tup {K:PySem.W.Frag} {H H':Hp} {a:Addr} {xs:List V} (e:Same H H') (h:SqT K H a xs):SqT K H' a xs:=by
 rcases h with (h | ⟨o,h⟩) | h
 ·exact .inl (.inl (e _ _ h))
 ·exact .inl (.inr ⟨o,e _ _ h⟩)
 ·exact .inr h
mutual
noncomputable def eqD:Dt->Dt->Bool
 | .non,.non=>true
 | .bl a,.bl b=>a == b
 | .bl a,.int b=>(if a then 1 else 0) == b
 | .int a,.bl b=>a == (if b then 1 else 0)
 | .int a,.int b=>a == b
 | .str a,.str b=>a == b
 | .lst xs,.lst ys=>eqDs xs ys
 | .tup xs,.tup ys=>eqDs xs ys
 | _,_=>false
noncomputable def eqDs:List Dt->List Dt->Bool
 | [],[]=>true
 | x::xs,y::ys=>eqD x y&&eqDs xs ys
 | _,_=>false
end
mutual
noncomputable def depD:Dt->Nat
 | .lst xs=>iG xs + 1
 | .tup xs=>iG xs + 1
 | _=>0
noncomputable def iG:List Dt->Nat
 | []=>0
 | x::xs=>max (depD x) (iG xs)
end
theorem Hi {ds:List Dt} {d:Dt} (h:d∈ds):depD d<=iG ds:=by
 induction ds with
 | nil=>cases h
 | cons x xs ih=>
   rw[iG];rcases mem_cons.mp h with rfl | h
   ·omega
   ·have:=ih h;omega
theorem yi:∀{xs ys:List Dt},xs.length≠ys.length->eqDs xs ys=false
 | [],[],h=>absurd rfl h
 | [],_::_,_=>rfl
 | _::_,[],_=>rfl
 | x::xs,y::ys,h=>by rw[eqDs,yi (λz=>h (by simp[z])),Bool.and_false]
theorem yj:∀{xs ys:List Dt},xs.length=ys.length->eqDs xs ys=(List.range xs.length).all λi=>eqD (xs.getD i .non) (ys.getD i .non)
 | [],[],_=>rfl
 | [],_::_,h=>by cases h
 | _::_,[],h=>by cases h
 | x::xs,y::ys,h=>by
   rw[eqDs,yj (by simpa using h),length_cons,List.range_succ_eq_map,all_cons,List.all_map];rfl
theorem B2:∀d:Dt,eqD d d=true:=by
 intro d;refine Dt.rec (motive_1:=λd=>eqD d d=true) (motive_2:=λds=>eqDs ds ds=true) ?_ ?_ ?_ ?_ ?_ ?_ ?_ ?_ d
 ·rfl
 ·intro b;simp[eqD]
 ·intro b;simp[eqD]
 ·intro b;simp[eqD]
 ·intro xs h;rw[eqD];exact h
 ·intro xs h;rw[eqD];exact h
 ·rfl
 ·intro x xs h1 h2;rw[eqDs,h1,h2];rfl
theorem KI:∀{d e:Dt},d=e->eqD d e=true:=λh=>by subst h;exact B2 _
section
variable {X:Cx} {pins:List (Addr×Obj)} {σ:St} {H:Hp} {s:Shared}
theorem Inv.notBoth (I:Inv X pins σ H s) {p:Addr} {xs ys:List V} (h1:SqL X.K H p xs) (h2:SqT X.K H p ys):False:=by
 obtain⟨_,_,pl,_⟩:=I.list h1;obtain⟨_,_,⟨o,ho,O,_⟩,_⟩:=I.tuple h2;obtain⟨o',n,G,L,_⟩:=pl;rw[ho] at G;cases G;rw[O] at L;exact absurd L (by decide)
theorem Rep.fun (I:Inv X pins σ H s) {x:V} {d:Dt} (r:Rep X.K H x d):∀{e:Dt},Rep X.K H x e->d=e:=by
 induction r with
 | non=>intro e q;cases q;rfl
 | bl b=>intro e q;cases q;rfl
 | int i=>intro e q;cases q;rfl
 | str z=>intro e q;cases q;rfl
 | lst h l r ih=>
   intro e q;cases q with
   | lst h' L r'=>
     have ex:=I.list_inj h h';subst ex;congr 1;refine List.ext_getElem? λi=>?_;rename_i xs ds O;by_cases hi:i < ds.length
     ·rw[getElem?_eq_getElem hi,getElem?_eq_getElem (by omega)];have G:i < xs.length:=by omega
      rw[ih i _ _ (getElem?_eq_getElem G) (getElem?_eq_getElem hi) (r' i _ _ (getElem?_eq_getElem G) (getElem?_eq_getElem (by omega)))]
     ·rw[getElem?_eq_none (by omega),getElem?_eq_none (by omega)]
   | tup h' L r'=>exact(I.notBoth h h').elim
 | tup h l r ih=>
   intro e q;cases q with
   | tup h' L r'=>
     have ex:=I.tuple_inj h h';subst ex;congr 1;refine List.ext_getElem? λi=>?_;rename_i xs ds O;by_cases hi:i < ds.length
     ·rw[getElem?_eq_getElem hi,getElem?_eq_getElem (by omega)];have G:i < xs.length:=by omega
      rw[ih i _ _ (getElem?_eq_getElem G) (getElem?_eq_getElem hi) (r' i _ _ (getElem?_eq_getElem G) (getElem?_eq_getElem (by omega)))]
     ·rw[getElem?_eq_none (by omega),getElem?_eq_none (by omega)]
   | lst h' L r'=>exact(I.notBoth h' h).elim
open SeqAt in
theorem rc_D (I:Inv X pins σ H s) {x:V} {d:Dt} (r:Rep X.K H x d):∀{A:Around} {e:Dt} {y:V} {u v:Value} (n:Nat),Rep X.K H y e->RelV x u->RelV y v->depD d<=n->A.units + n < cLine->
  EqAt A s u v (eqD d e)/\RcAt A s u v (eqD d e)/\RcNeAt A s u v (!eqD d e):=by
 induction r with
 | non=>
   intro A e y u v n q γ L hd ι;cases γ;cases q with
   | non=>cases L;exact⟨EqAt.same _,RcAt.none_none,RcNeAt.none_none⟩
   | bl b=>cases L;exact⟨EqAt.none_bool b,RcAt.none_bool b,RcNeAt.none_bool b⟩
   | int b=>obtain⟨t,rfl⟩:=L;exact⟨EqAt.none_int b t,RcAt.none_int b t,RcNeAt.none_int b t⟩
   | str b=>obtain⟨t,rfl⟩:=L;exact⟨EqAt.none_str b t,RcAt.none_str b t,RcNeAt.none_str b t⟩
   | lst h l r=>cases L;obtain⟨_,_,pl,_⟩:=I.list h;exact⟨EqAt.none_list pl.isList (by omega),RcAt.none_list pl.isList (by omega),RcNeAt.none_list pl.isList (by omega)⟩
   | tup h l r=>cases L;obtain⟨_,_,pl,_⟩:=I.tuple h;exact⟨EqAt.none_tuple pl (by omega),RcAt.none_tuple pl (by omega),RcNeAt.none_tuple pl (by omega)⟩
 | bl a=>
   intro A e y u v n q γ L hd ι;cases γ;cases q with
   | non=>cases L;exact⟨EqAt.bool_none a,RcAt.bool_none a,RcNeAt.bool_none a⟩
   | bl b=>cases L;exact⟨EqAt.bool_bool a b,RcAt.bool_bool a b,RcNeAt.bool_bool a b⟩
   | int b=>obtain⟨t,rfl⟩:=L;exact⟨EqAt.bool_int a b t,RcAt.bool_int a b t,RcNeAt.bool_int a b t⟩
   | str b=>obtain⟨t,rfl⟩:=L;exact⟨EqAt.bool_str a b t,RcAt.bool_str a b t,RcNeAt.bool_str a b t⟩
   | lst h l r=>cases L;obtain⟨_,_,pl,_⟩:=I.list h;exact⟨EqAt.bool_list a pl.isList (by omega),RcAt.bool_list a pl.isList (by omega),RcNeAt.bool_list a pl.isList (by omega)⟩
   | tup h l r=>cases L;obtain⟨_,_,pl,_⟩:=I.tuple h;exact⟨EqAt.bool_tuple a pl (by omega),RcAt.bool_tuple a pl (by omega),RcNeAt.bool_tuple a pl (by omega)⟩
 | int a=>
   intro A e y u v n q γ L hd ι;obtain⟨t',rfl⟩:=γ;cases q with
   | non=>cases L;exact⟨EqAt.int_none a t',RcAt.int_none a t',RcNeAt.int_none a t'⟩
   | bl b=>cases L;exact⟨EqAt.int_bool a t' b,RcAt.int_bool a t' b,RcNeAt.int_bool a t' b⟩
   | int b=>obtain⟨t,rfl⟩:=L;exact⟨EqAt.int_int a t' b t,RcAt.int_int a t' b t,RcNeAt.int_int a t' b t⟩
   | str b=>obtain⟨t,rfl⟩:=L;exact⟨EqAt.int_str a t' b t,RcAt.int_str a t' b t,RcNeAt.int_str a t' b t⟩
   | lst h l r=>cases L;obtain⟨_,_,pl,_⟩:=I.list h;exact⟨EqAt.int_list a t' pl.isList (by omega),RcAt.int_list a t' pl.isList (by omega),RcNeAt.int_list a t' pl.isList (by omega)⟩
   | tup h l r=>cases L;obtain⟨_,_,pl,_⟩:=I.tuple h;exact⟨EqAt.int_tuple a t' pl (by omega),RcAt.int_tuple a t' pl (by omega),RcNeAt.int_tuple a t' pl (by omega)⟩
 | str a=>
   intro A e y u v n q γ L hd ι;obtain⟨t',rfl⟩:=γ;cases q with
   | non=>cases L;exact⟨EqAt.str_none a t',RcAt.str_none a t',RcNeAt.str_none a t'⟩
   | bl b=>cases L;exact⟨EqAt.str_bool a t' b,RcAt.str_bool a t' b,RcNeAt.str_bool a t' b⟩
   | int b=>obtain⟨t,rfl⟩:=L;exact⟨EqAt.str_int a t' b t,RcAt.str_int a t' b t,RcNeAt.str_int a t' b t⟩
   | str b=>obtain⟨t,rfl⟩:=L;exact⟨EqAt.str_str a t' b t,RcAt.str_str a t' b t,RcNeAt.str_str a t' b t⟩
   | lst h l r=>cases L;obtain⟨_,_,pl,_⟩:=I.list h;exact⟨EqAt.str_list a t' pl.isList (by omega),RcAt.str_list a t' pl.isList (by omega),RcNeAt.str_list a t' pl.isList (by omega)⟩
   | tup h l r=>cases L;obtain⟨_,_,pl,_⟩:=I.tuple h;exact⟨EqAt.str_tuple a t' pl (by omega),RcAt.str_tuple a t' pl (by omega),RcNeAt.str_tuple a t' pl (by omega)⟩
 | @lst p xs ds h l r ih=>
   intro A e y u v n q γ L hd ι;cases γ;obtain⟨its,β,pl,_⟩:=I.list h;rw[depD] at hd;cases q with
   | non=>cases L;exact⟨EqAt.list_none pl.isList (by omega),RcAt.list_none pl.isList (by omega),RcNeAt.list_none pl.isList (by omega)⟩
   | bl b=>cases L;exact⟨EqAt.list_bool b pl.isList (by omega),RcAt.list_bool b pl.isList (by omega),RcNeAt.list_bool b pl.isList (by omega)⟩
   | int b=>obtain⟨t,rfl⟩:=L;exact⟨EqAt.list_int b t pl.isList (by omega),RcAt.list_int b t pl.isList (by omega),RcNeAt.list_int b t pl.isList (by omega)⟩
   | str b=>obtain⟨t,rfl⟩:=L;exact⟨EqAt.list_str b t pl.isList (by omega),RcAt.list_str b t pl.isList (by omega),RcNeAt.list_str b t pl.isList (by omega)⟩
   | tup h' θ r'=>
     cases L;obtain⟨_,_,O,_⟩:=I.tuple h';exact⟨EqAt.list_tuple pl.isList O (by omega),RcAt.list_tuple pl.isList O (by omega),RcNeAt.list_tuple pl.isList O (by omega)⟩
   | @lst ε Z G h' θ r'=>
     cases L;obtain⟨its',α,O,_⟩:=I.list h';have n1:=β.length;have ψ:=α.length
     have Y:RcAt A s (.ref p) (.ref ε) (eqDs ds G)/\RcNeAt A s (.ref p) (.ref ε) (!eqDs ds G):=by
      by_cases hl:ds.length=G.length
      ·have e:eqDs ds G=(List.range its.toArray.size).all λi=>eqD (ds.getD i .non) (G.getD i .non):=by
        rw[yj hl,size_toArray,<-n1,l]
       rw[e];have hz:its.toArray.size=its'.toArray.size:=by simp;omega
       have he:∀j (h1:j < its.toArray.size) (h2:j < its'.toArray.size),EqAt A.in1 s its.toArray[j] its'.toArray[j] (eqD (ds.getD j .non) (G.getD j .non)):=λj h1 h2=>by
        have π:j < its.length:=by simpa using h1
        have ο:j < its'.length:=by simpa using h2
        have ξ:j < xs.length:=by omega
        have ζ:j < Z.length:=by omega
        have η:j < ds.length:=by omega
        have δ:j < G.length:=by omega
        have g1:xs[j]? =some (xs.getD j .non):=by rw[getD_eq_getElem?_getD,getElem?_eq_getElem ξ];rfl
        have g2:ds[j]? =some (ds.getD j .non):=by rw[getD_eq_getElem?_getD,getElem?_eq_getElem η];rfl
        have τ:Z[j]? =some (Z.getD j .non):=by rw[getD_eq_getElem?_getD,getElem?_eq_getElem ζ];rfl
        have ρ:G[j]? =some (G.getD j .non):=by rw[getD_eq_getElem?_getD,getElem?_eq_getElem δ];rfl
        have hn:n≠0:=by omega
        exact(ih j _ _ g1 g2 (n - 1) (r' j _ _ τ ρ) (qd β h1) (qd α h2) (by have:=Hi (mem_of_getElem? g2);omega) (by show A.units + 1 + (n - 1) < cLine;omega)).1
       exact⟨RcAt.lists pl.isList O.isList hz (by omega) he,RcNeAt.lists pl.isList O.isList hz (by omega) he⟩
      ·rw[yi hl];have hz:(its.toArray.size != its'.toArray.size)=true:=by simp;omega
       exact⟨RcAt.lists_lengths pl.isList O.isList hz (by omega),RcNeAt.lists_lengths pl.isList O.isList hz (by omega)⟩
     rw[eqD];refine⟨?_,Y⟩;by_cases ν:p=ε
     ·subst ν;have e:Dt.lst ds=Dt.lst G:=(Rep.lst h l r).fun I (.lst h' θ r');have υ:eqDs ds G=true:=by have:=KI e;rw[eqD] at this;exact this
      rw[υ];exact EqAt.same _
     ·exact EqAt.of_refs ν Y.1
 | @tup p xs ds h l r ih=>
   intro A e y u v n q γ L hd ι;cases γ;obtain⟨its,β,pl,_⟩:=I.tuple h;rw[depD] at hd;cases q with
   | non=>cases L;exact⟨EqAt.tuple_none pl (by omega),RcAt.tuple_none pl (by omega),RcNeAt.tuple_none pl (by omega)⟩
   | bl b=>cases L;exact⟨EqAt.tuple_bool b pl (by omega),RcAt.tuple_bool b pl (by omega),RcNeAt.tuple_bool b pl (by omega)⟩
   | int b=>obtain⟨t,rfl⟩:=L;exact⟨EqAt.tuple_int b t pl (by omega),RcAt.tuple_int b t pl (by omega),RcNeAt.tuple_int b t pl (by omega)⟩
   | str b=>obtain⟨t,rfl⟩:=L;exact⟨EqAt.tuple_str b t pl (by omega),RcAt.tuple_str b t pl (by omega),RcNeAt.tuple_str b t pl (by omega)⟩
   | lst h' θ r'=>
     cases L;obtain⟨_,_,O,_⟩:=I.list h';exact⟨EqAt.tuple_list pl O.isList (by omega),RcAt.tuple_list pl O.isList (by omega),RcNeAt.tuple_list pl O.isList (by omega)⟩
   | @tup ε Z G h' θ r'=>
     cases L;obtain⟨its',α,O,_⟩:=I.tuple h';have n1:=β.length;have ψ:=α.length
     have Y:RcAt A s (.ref p) (.ref ε) (eqDs ds G)/\RcNeAt A s (.ref p) (.ref ε) (!eqDs ds G):=by
      have e:eqDs ds G=((List.range (min its.toArray.size its'.toArray.size)).all (λi=>eqD (ds.getD i .non) (G.getD i .non))&&its.toArray.size == its'.toArray.size):=by
       by_cases hl:ds.length=G.length
       ·have χ:its.toArray.size=ds.length:=by simp;omega
        have φ:its'.toArray.size=ds.length:=by simp;omega
        rw[yj hl,χ,φ,Nat.min_self,beq_self_eq_true,Bool.and_true]
       ·have z:(its.toArray.size == its'.toArray.size)=false:=by rw[beq_eq_false_iff_ne];simp;omega
        rw[yi hl,z,Bool.and_false]
      rw[e]
      have he:∀j (h1:j < its.toArray.size) (h2:j < its'.toArray.size),EqAt A.in1 s its.toArray[j] its'.toArray[j] (eqD (ds.getD j .non) (G.getD j .non)):=λj h1 h2=>by
       have π:j < its.length:=by simpa using h1
       have ο:j < its'.length:=by simpa using h2
       have ξ:j < xs.length:=by omega
       have ζ:j < Z.length:=by omega
       have η:j < ds.length:=by omega
       have δ:j < G.length:=by omega
       have g1:xs[j]? =some (xs.getD j .non):=by rw[getD_eq_getElem?_getD,getElem?_eq_getElem ξ];rfl
       have g2:ds[j]? =some (ds.getD j .non):=by rw[getD_eq_getElem?_getD,getElem?_eq_getElem η];rfl
       have τ:Z[j]? =some (Z.getD j .non):=by rw[getD_eq_getElem?_getD,getElem?_eq_getElem ζ];rfl
       have ρ:G[j]? =some (G.getD j .non):=by rw[getD_eq_getElem?_getD,getElem?_eq_getElem δ];rfl
       have hn:n≠0:=by omega
       exact(ih j _ _ g1 g2 (n - 1) (r' j _ _ τ ρ) (qd β h1) (qd α h2) (by have:=Hi (mem_of_getElem? g2);omega) (by show A.units + 1 + (n - 1) < cLine;omega)).1
      exact⟨RcAt.tuples pl O (by omega) he,RcNeAt.tuples pl O (by omega) he⟩
     rw[eqD];refine⟨?_,Y⟩;by_cases ν:p=ε
     ·subst ν;have e:Dt.tup ds=Dt.tup G:=(Rep.tup h l r).fun I (.tup h' θ r');have υ:eqDs ds G=true:=by have:=KI e;rw[eqD] at this;exact this
      rw[υ];exact EqAt.same _
     ·exact EqAt.of_refs ν Y.1
end
noncomputable def rEqD (K:PySem.W.Frag) (neg:Bool):R2:=λx y H Q=>∃d e,Rep K H x d/\Rep K H y e/\depD d<=100/\Q (.bl (if neg then !eqD d e else eqD d e)) H
section
variable {X:Cx} {K:PySem.W.Frag}
theorem xF (h:X.K=K) (hu:X.A.units + 100 < cLine):OpR X (compareOp .NotEq) (rEqD K true):=by
 subst h;intro pins s σ H x y v u Q I L G h;obtain⟨d,e,Y,O,hd,q⟩:=h;exact(rc_D I Y 100 O L G hd hu).2.2 X.prog X.w X.xe _ ⟨.bl _,H,I,rfl,q⟩
end
inductive ED:St->Nat->Option V->St->Prop where
 | z {a v:Option V} {l:St}:ED (a::l) 0 v (v::l)
 | s {a v:Option V} {l l':St} {i:Nat}:ED l i v l'->ED (a::l) (i + 1) v (a::l')
theorem ED.eq {l G:St} {i:Nat} {v:Option V} (h:ED l i v G):l.set i v=G:=by
 induction h with
 | z=>rfl
 | s _ ih=>rw[List.set_cons_succ,ih]
inductive EE:St->Nat->V->Prop where
 | z {v:V} {l:St}:EE (some v::l) 0 v
 | s {a:Option V} {v:V} {l:St} {i:Nat}:EE l i v->EE (a::l) (i + 1) v
theorem EE.eq {l:St} {i:Nat} {v:V} (h:EE l i v):l[i]? =some (some v):=by
 induction h with
 | z=>rfl
 | s _ ih=>rw[List.getElem?_cons_succ];exact ih
section
variable {σ σ':St} {H:Hp} {Q:VK} {D:Ends} {ta tb tc te:TE} {t u:TS} {tt tt':TT} {r r':R2} {x y v:V}
theorem ar {N:List Str} {vs:List V} {t:TS} (e:start N vs=σ') (h:t D σ' H):t D (start N vs) H:=by rw[e];exact h
theorem P2 {i:Nat} (e:EE σ i v) (h:Q v H):tVar i σ H Q:=⟨v,e.eq,h⟩
theorem s_c (h:Q v H):tC v σ H Q:=h
theorem s_op (h:ta σ H λx H1=>tb σ H1 λy H2=>r x y H2 Q):tOp r ta tb σ H Q:=h
theorem s_un {r:V->Hp->VK->Prop} (h:ta σ H λx H1=>r x H1 Q):tUn r ta σ H Q:=h
theorem s_rI {C:Int->Int->Prop} {g:Int->Int->V} {i j:Int} (c:C i j) (h:Q (g i j) H):rI C g (.int i) (.int j) H Q:=⟨i,j,rfl,rfl,c,h⟩
theorem P8 {g:Int->Int->V} {i j:Int} (h:Q (g i j) H):rI0 g (.int i) (.int j) H Q:=⟨i,j,rfl,rfl,h⟩
theorem s_rU {g:Int->V} {i:Int} (h:Q (g i) H):rU g (.int i) H Q:=⟨i,rfl,h⟩
theorem P9 (e:scal x y=true) (h:Q (.bl (decide (x=y))) H):rEq x y H Q:=⟨e,h⟩
theorem P7 (e:scal x y=true) (h:Q (.bl (!decide (x=y))) H):rNe x y H Q:=⟨e,h⟩
theorem NH {Q:Bool->Hp->Prop} (h:te σ H λx H'=>∃k,x= .bl k/\Q k H'):Ni te σ H Q:=h
theorem s_tB {Q:Bool->Hp->Prop} (h:te σ H λx H'=>∃k,x= .bl k/\Q k H'):tB te σ H Q:=h
theorem Qm {Q:Bool->Hp->Prop} (h:tt σ H λc H1=>if c=true then tt' σ H1 Q else Q false H1):tAnd tt tt' σ H Q:=h
theorem s_or {Q:Bool->Hp->Prop} (h:tt σ H λc H1=>if c=true then Q true H1 else tt' σ H1 Q):tOr tt tt' σ H Q:=h
theorem Qa {Q:Bool->Hp->Prop} (h:tt σ H λc H1=>Q (!c) H1):tNot tt σ H Q:=h
theorem Od (h:ta σ H λx H1=>∃c,x= .bl c/\if c=true then tb σ H1 Q else Q (.bl false) H1):Nu ta tb σ H Q:=h
theorem NO (h:ta σ H λx H1=>∃c,x= .bl c/\Q (.bl (!c)) H1):Nk ta σ H Q:=h
theorem Qg (h:tt σ H λc H1=>if c=true then ta σ H1 Q else tb σ H1 Q):tIf tt ta tb σ H Q:=h
theorem NQ (h:D.nx σ H):Nl D σ H:=h
theorem P5 (h:t {D with nx:=u D} σ H):tSeq t u D σ H:=h
theorem N4 (h:te σ H λ_ H1=>D.nx σ H1):Np te D σ H:=h
theorem P6 (h:te σ H D.rt):tRet te D σ H:=h
theorem s_if (h:tt σ H λb H1=>if b=true then t D σ H1 else u D σ H1):tIfS tt t u D σ H:=h
theorem Ql {g:TG} (h:te σ H λx H1=>g x σ H1 D.nx):tAsg te g D σ H:=h
theorem LM {i:Nat} {Q:St->Hp->Prop} (e:ED σ i (some v) σ') (h:Q σ' H):G3 i v σ H Q:=by show Q (σ.set i (some v)) H;rw[e.eq];exact h
theorem N3 {Q:St->Hp->Prop} (h:Q σ H):gNil [] σ H Q:=⟨rfl,h⟩
theorem LO {g:TG} {G:TGs} {vs:List V} {Q:St->Hp->Prop} (h:g v σ H fun σ' H'=>G vs σ' H' Q):MC g G (v::vs) σ H Q:=⟨v,vs,rfl,h⟩
theorem N1 {K:PySem.W.Frag} {n:Nat} {G:TGs} {p:Addr} {xs:List V} {Q:St->Hp->Prop} (e:SqT K H p xs) (l:xs.length=n) (h:G xs σ H Q):gTup K n G (.ref p) σ H Q:=⟨p,xs,rfl,e,l,h⟩
theorem Qb {Q:List V->Hp->Prop} (h:Q [] H):tNil σ H Q:=h
theorem Oa {tr:TA} {Q:List V->Hp->Prop} (h:ta σ H λx H1=>tr σ H1 λxs H2=>Q (x::xs) H2):Nr ta tr σ H Q:=h
def NewT (Q:VK) (xs:List V) (H:Hp):Prop:=xs.length<=sizeLine/\∀p,H p=none->Q (.ref p) (upd H p (.tup xs))
def NewL (Q:VK) (xs:List V) (H:Hp):Prop:=xs.length<=sizeLine/\∀p,H p=none->Q (.ref p) (upd H p (.lst xs))
theorem P3 {tr:TA} (h:tr σ H (NewT Q)):tTup tr σ H Q:=h
theorem Qc {tr:TA} (h:tr σ H (NewL Q)):tLst tr σ H Q:=h
theorem bh {H:Hp} {D:Addr} {o:HO} (h:H D=none):Same H (upd H D o):=λb u e=>by rw[aG (ao e h)];exact e
theorem ig {o:HO} (h:∀p H2,H p=none->Same H H2->H2 p=some o->Q (.ref p) H2):∀p,H p=none->Q (.ref p) (upd H p o):=λp G=>h p _ G (bh G) ay
theorem Same.get {H H':Hp} (e:Same H H') {b:Addr} {o:HO} (h:H b=some o):H' b=some o:=e b o h
theorem NR {xs:List V} (l:xs.length<=sizeLine) (h:∀p H2,H p=none->Same H H2->H2 p=some (.tup xs)->Q (.ref p) H2):NewT Q xs H:=⟨l,ig h⟩
theorem NS {xs:List V} (l:xs.length<=sizeLine) (h:∀p H2,H p=none->Same H H2->H2 p=some (.lst xs)->Q (.ref p) H2):NewL Q xs H:=⟨l,ig h⟩
theorem LV {sp:Sp} {E:XK} {tr:TA} (h:tr σ H λvs H1=>sp vs H1 Q E):E6 sp [] E tr σ H Q:=by unfold E6;simp only[append_nil];exact h
theorem s_cb {r:List V->Hp->VK->Prop} {tr:TA} (h:tr σ H λvs H1=>r vs H1 Q):tCB r tr σ H Q:=h
theorem Jf {Q:Option Int->Hp->Prop} (h:Q none H):E2 σ H Q:=h
theorem NM {Q:Option Int->Hp->Prop} (h:te σ H λx H1=>∃i,x= .int i/\Q (some i) H1):Nj te σ H Q:=h
theorem s_sl {r:V->Option Int->Option Int->Hp->VK->Prop} {tl th:TO} (h:te σ H λx H1=>tl σ H1 λl H2=>th σ H2 λu G=>r x l u G Q):tSl r te tl th σ H Q:=h
theorem P4 {K:PySem.W.Frag} {p:Addr} {xs:List V} {lo hi:Option Int} (e:SqL K H p xs) (h:∀q H2,H q=none->Same H H2->H2 q=some (.lst (cutV xs lo hi))->Q (.ref q) H2):rSlL K (.ref p) lo hi H Q:=⟨p,xs,rfl,e,ig h⟩
theorem Qe {K:PySem.W.Frag} {p:Addr} {xs:List V} {i:Int} (e:SqL K H p xs) (a:atI xs i=some v) (h:Q v H):rIxL K (.ref p) (.int i) H Q:=⟨p,xs,i,v,rfl,rfl,e,a,h⟩
theorem Qd {K:PySem.W.Frag} {p:Addr} {xs:List V} {i:Int} (e:SqT K H p xs) (a:atI xs i=some v) (h:Q v H):rIxT K (.ref p) (.int i) H Q:=⟨p,xs,i,v,rfl,rfl,e,a,h⟩
theorem LK {z:Str} {i:Int} {c:Nat} (e:z.length<=sizeLine) (a:atI z.cps.toList i=some c) (h:Q (.str ⟨#[c]⟩) H):rIxS (.str z) (.int i) H Q:=⟨z,i,c,rfl,rfl,e,a,h⟩
theorem Qk {K:PySem.W.Frag} {T:String} {r:V->List V->Hp->VK->Prop} (h:te σ H λx H1=>tyV K T x H1/\r x [] H1 Q):tBM0 K T r te σ H Q:=h
theorem s_bm {K:PySem.W.Frag} {T:String} {r:V->List V->Hp->VK->Prop} {tr:TA} (h:te σ H λx H1=>tyV K T x H1/\tr σ H1 λxs H2=>r x xs H2 Q):tBM K T r te tr σ H Q:=h
theorem Gr {n:Nat} (h:n<=1000):n<=sizeLine:=le_of_lt (aE h)
theorem Jh {K:PySem.W.Frag} {neg:Bool} {d e:Dt} (L:Rep K H x d) (G:Rep K H y e) (hd:depD d<=100) (h:Q (.bl (if neg then !eqD d e else eqD d e)) H):rEqD K neg x y H Q:=⟨d,e,L,G,hd,h⟩
theorem s_ty {K:PySem.W.Frag} {T:String} {A:Prop} (e:tyV K T x H) (h:A):tyV K T x H/\A:=⟨e,h⟩
theorem Oc {i:Int} (h:Q (.int (Builtin.Int.intBits i:Nat)) H):Oj (.int i) [] H Q:=⟨i,rfl,rfl,h⟩
theorem Km {K:PySem.W.Frag} {z:Str} {p:Addr} {ys:List Str} (e:SqL K H p (ys.map V.str)) (l:(ys.map (·.length)).sum + ys.length * z.length<=16777216) (h:Q (.str (Txt.join z ys)) H):Oi K (.str z) [.ref p] H Q:=⟨z,p,ys,rfl,rfl,e,l,h⟩
theorem NX {K:PySem.W.Frag} {p:Addr} {xs:List V} (e:SqL K H p xs) (h:Q (.int xs.length) H):rLen K [.ref p] H Q:=⟨_,_,rfl,.inl ⟨xs,e,rfl⟩,h⟩
theorem NV {K:PySem.W.Frag} {p:Addr} {xs:List V} (e:SqT K H p xs) (h:Q (.int xs.length) H):rLen K [.ref p] H Q:=⟨_,_,rfl,.inr ⟨xs,e,rfl⟩,h⟩
theorem NW {K:PySem.W.Frag} {z:Str} (e:z.length<=sizeLine) (h:Q (.int z.length) H):rLen K [.str z] H Q:=⟨_,_,rfl,⟨e,rfl⟩,h⟩
theorem Qf {K:PySem.W.Frag} {T k:String} (e:jE K H x k) (m:T∈["int","bool","str","list","tuple","dict"]) (h:Q (.bl (subB k T)) H):rIsi K [x,.ty T] H Q:=⟨x,k,T,rfl,e,m,h⟩
theorem N7 (h:∀p H2,H p=none->Same H H2->H2 p=some (.dK [])->Q (.ref p) H2):Kh σ H Q:=ig h
theorem Qh {L:TI} {g:TG} {tb:TS} (h:L σ H λJ H1=>∃W:Nat->Nat->St->Hp->Prop,(∃m,W 0 m σ H1)/\∀i m σ H,W i m σ H->(J.stop i H/\D.nx σ H)∨(J.go i H/\∃N:St->Hp->Prop,(∀σ' H',N σ' H'->∃O,O < m/\W (i + 1) O σ' H')/\∀x H',J.yld i H x H'->g x σ H' λG H2=>tb {D with nx:=N,ct:=N,bk:=D.nx} G H2)):tFor L g tb D σ H:=h
theorem LL {K:PySem.W.Frag} {R:It->Hp->Prop} (h:te σ H λx H1=>∃a,x= .ref a/\(∃xs,SqL K H1 a xs)/\R (Itl K a) H1):Mw K te σ H R:=h
theorem NY {K:PySem.W.Frag} {R:It->Hp->Prop} (h:te σ H λx H1=>∃a,x= .ref a/\(∃xs,SqT K H1 a xs)/\R (Itt K a) H1):iTup K te σ H R:=h
theorem NZ {R:It->Hp->Prop} (h:te σ H λx H1=>∃z,x= .str z/\R (Its z) H1):iStr te σ H R:=h
theorem NJ {tr:TA} {R:It->Hp->Prop} (h:tr σ H λvs H1=>∃j:Int,vs=[.int j]/\-(2 ^ 62)<=j/\j < 2 ^ 62/\R (Itr 0 j.toNat) H1):O9 tr σ H R:=h
theorem P1 {Q:Bool->Hp->Prop} (h:Q true H):tYes σ H Q:=h
theorem NG {A B:Prop} (h:A):if true=true then A else B:=by rw[if_pos rfl];exact h
theorem LP {A B:Prop} (h:B):if false=true then A else B:=by rw[if_neg Bool.false_ne_true];exact h
theorem kK {c:Bool} {A B:Prop} (e:c=true) (h:A):if c=true then A else B:=by rw[if_pos e];exact h
theorem ie {c:Bool} {A B:Prop} (e:c=false) (h:B):if c=true then A else B:=by rw[e,if_neg Bool.false_ne_true];exact h
theorem Ob {n:Nat} {fx:List Nat} {O:TI} {g:TG} (h:O σ H λJ H1=>∀D,H1 D=none->
 ∃W:Nat->Nat->List V->Hp->Prop,(∃m,W 0 m [] (upd H1 D (.lst [])))/\∀i m ys H2,W i m ys H2->(J.stop i H2/\Q (.ref D) H2)∨
   (J.go i H2/\∃N:List V->Hp->Prop,(∀L H',N L H'->∃Y,Y < m/\W (i + 1) Y L H')/\∀x β,J.yld i H2 x β->g x (eA n fx σ) β λG γ=>tt G γ λb α=>
    if b=true then te G α λv Z=>Z D=some (.lst ys)/\ys.length < sizeLine/\N (ys++[v]) (upd Z D (.lst (ys++[v]))) else N ys α)):IA n fx O g tt te σ H Q:=h
theorem BB {K:PySem.W.Frag} {p:Addr} {bs:List Bool} (e:SqL K H p (bs.map V.bl)) (h:Q (.bl (bs.all id)) H):Om K [.ref p] H Q:=⟨p,bs,rfl,e,h⟩
theorem Ko {K:PySem.W.Frag} {p:Addr} {bs:List Bool} (e:SqL K H p (bs.map V.bl)) (h:Q (.bl (bs.any id)) H):Ol K [.ref p] H Q:=⟨p,bs,rfl,e,h⟩
theorem Ji {j:Int} {A:Prop} (h1: -(2 ^ 62)<=j) (h2:j < 2 ^ 62) (h:A): -(2 ^ 62)<=j/\j < 2 ^ 62/\A:=⟨h1,h2,h⟩
end
noncomputable def tCut (t u:TS):TS:=λD σ H=>∃P:St->Hp->Prop,t {D with nx:=P} σ H/\∀σ' H',P σ' H'->u D σ' H'
theorem F2 {X:Cx} {st:Stmt} {rest:List Stmt} {t u:TS} (h1:PS X st t) (h2:PSs X rest u):PSs X (st::rest) (tCut t u):=by
 intro pins s σ H D I ⟨P,a,b⟩;refine wpAny_execs_cons (thn (h1 pins s σ H {D with nx:=P} I a) λf L q=>?_);cases f with
 | next=>obtain⟨G,H1,Y,O⟩:=q;exact h2 pins L G H1 D Y (b G H1 O)
 | brk=>exact q
 | cont=>exact q
 | ret v=>exact q
theorem s_cut {t u:TS} {D:Ends} {σ:St} {H:Hp} (P:St->Hp->Prop) (h:t {D with nx:=P} σ H) (k:∀σ' H',P σ' H'->u D σ' H'):tCut t u D σ H:=⟨P,h,k⟩
section
variable {K:PySem.W.Frag} {n:Nat} {fx:List Nat} {g:TG} {tc:TT} {te:TE} {σ:St} {H1:Hp} {D:Addr} {Q:Hp->Prop}
structure Cs (Pv:Nat->List V->Prop) (H1:Hp) (D:Addr) (i:Nat) (ys:List V) (H:Hp):Prop where
 pv:Pv i ys
 same:Same H1 H
 at':H D=some (.lst ys)
 len:ys.length<=i
theorem Cs.put {Pv:Nat->List V->Prop} {i:Nat} {ys:List V} {v:V} {G:Hp} (f:H1 D=none) (s:Same H1 G) (e:G D=some (.lst ys)) (l:ys.length<=i) (hi:i < 16777216) (p:Pv (i + 1) (ys++[v])):
  G D=some (.lst ys)/\ys.length < sizeLine/\Cs Pv H1 D (i + 1) (ys++[v]) (upd G D (.lst (ys++[v]))):=
 ⟨e,by rw[sizeLine_eq];omega,p,λb o h=>by rw[aG (ao h f)];exact s b o h,ay,by rw[length_append];simpa using l⟩
theorem Cs.skip {Pv:Nat->List V->Prop} {i:Nat} {ys:List V} {G:Hp} (s:Same H1 G) (e:G D=some (.lst ys)) (l:ys.length<=i) (p:Pv (i + 1) ys):Cs Pv H1 D (i + 1) ys G:=⟨p,s,e,by omega⟩
theorem Cs.zero {Pv:Nat->List V->Prop} (f:H1 D=none) (p:Pv 0 []):Cs Pv H1 D 0 [] (upd H1 D (.lst [])):=⟨p,bh f,ay,le_refl _⟩
end
structure KW (K:PySem.W.Frag) (C:Addr) (m:Str) (f:Addr):Prop where
 ga:PySem.W.specialIn K (.ref C) "__getattribute__"=some (some (.builtin "type.__getattribute__"))
 rd:PySem.W.readsIn K C (.type "type")=true
 fd:PySem.W.findCls K (.ref C) (.type "type") m=some (.val (.ref f))
 hd:PySem.W.handedIn (.ref f)=true
 kp:PySem.W.keepIn K (.ref f)=true
section
variable {X:Cx} {CX:CXT} {k:Nat} {f C:Addr} {fd:FuncData} {ps:List Str} {sp:Sp} {dvs:List V} {ds:List Value} {E:XK} {x m:Str} {p pos apos:Pos} {e o:Expr} {es:List Expr} {ta:TE} {t:TA}
theorem uo {pl:Sem Bool} (γ:Gl X x) (hx:X.mg x=some (.ref C)) (c:KW X.K C m f) (F:FnOk X.prog X.w X.K X.mg X.base CX k f fd ps sp) (β:Room k X.A) (hb:nQ X.K fd ps ds) (hd:Vals dvs ds) (G:p9 CX X E) (ha:PA X (e::es) t)
  (Y:(x == ("__debug__":Str))=false:=by decide) (L:starEach (e::es) X.env=(false,eval e X.env)::starEach es X.env:=by rfl) (O:(backTo pos (starEach es X.env)).any (·.1)=false:=by rfl)
  (ht:eval (.Call (.Attribute (.Name x p) m apos) (e::es) [] pos) X.env=(do
   let Z <-eval (.Name x p) X.env
   standAt apos.atName
   let (f,first) <-holding [Z] (getMethod Z m pl)
   callWith pos f first (backTo pos (starEach (e::es) X.env)) (backToKw pos (keywordEach [] X.env))):=by rfl):
  PE X (.Call (.Attribute (.Name x p) m apos) (e::es) [] pos) (E6 sp dvs E t):=by
 intro pins s σ H Q I h;refine PySem.W.methodCall_KW (pl:=pl) (rf I γ hx ?_ Y) ht;refine PySem.W.method_cls I.kIn c.ga (PySem.W.cls_value I.kIn c.rd c.fd c.hd ?_);have I1:=I.tok (s.toks + 1);refine PySem.W.callWith_K (first:=[]) (h₀:=X.base) I1.ok.mod.kin c.kp (thn (ha pos pins _ σ H _ I1 h) λus δ ⟨vs,H2,I2,r,α⟩=>⟨I2.kIn,?_⟩) L O;exact BC (us:=us) (vs:=vs) F β hb hd G I2 r α
end
structure QJ (K:PySem.W.Frag) (D:Addr):Prop where
 cls:Cls K D
 ha:PySem.W.findIn K (.ref D) "__class__"=some (some (.builtin "object.__class__"))
 hn:PySem.W.specialIn K (.builtin "object.__class__") "__get__"=some (some (.builtin "getset_descriptor.__get__"))
 tk:PySem.W.takesIn K (.builtin "object.__class__")=some true
 hm:PySem.W.mroIn K D (.type "object")=some true
section
variable {X:Cx} {K:PySem.W.Frag}
theorem aM {e:Expr} {ta:TE} {f:Str} {pos:Pos} (h:X.K=K) (he:PE X e ta) (hb:attributeBase e f X.env (eval e X.env)=eval e X.env):PE X (.Attribute e f pos) (tFld K ta f):=by subst h;exact OD he hb
theorem cM {o value:Expr} {ta tv:TE} {f:Str} {pos pos':Pos} (h:X.K=K) (ha:PE X o ta) (G:PE X value tv) (hs:swapsWith value (some (.Attribute o f pos')) pos.line X.env=pure false):PS X (.Assign [.Attribute o f pos'] value pos) (sFld K ta tv f):=by subst h;exact Ox ha G hs
theorem PE.or {e:Expr} {t u:TE} (h:PE X e t) (h':PE X e u):PE X e (fun σ H Q=>t σ H Q∨u σ H Q):=by
 intro pins s σ H Q I q;rcases q with q | q
 ·exact h pins s σ H Q I q
 ·exact h' pins s σ H Q I q
end
section
variable {σ:St} {H:Hp} {Q:VK} {D:Ends} {te tv ta:TE} {x y v:V}
def MW (K:PySem.W.Frag) (f:Str) (Q:VK) (x:V) (H:Hp):Prop:=∃a C dx fs v,x= .ref a/\H a=some (.ins C dx fs)/\Cls K C/\cx K C f/\fs.lookup f=some v/\Q v H
theorem Qi {K:PySem.W.Frag} {f:Str} (h:te σ H (MW K f Q)):tFld K te f σ H Q:=h
theorem aJ {K:PySem.W.Frag} {f:Str} {p C dx:Addr} {fs:List (Str×V)} (e:H p=some (.ins C dx fs)) (c:Cls K C) (n:cx K C f) (l:fs.lookup f=some v) (h:Q v H):MW K f Q (.ref p) H:=⟨p,C,dx,fs,v,rfl,e,c,n,l,h⟩
structure Upd (H H':Hp) (p:Addr) (o:HO):Prop where
 at':H' p=some o
 oth:∀b u,b≠p->H b=some u->H' b=some u
 non:∀b,b≠p->H b=none->H' b=none
theorem Upd.of {H:Hp} {p:Addr} {o:HO}:Upd H (upd H p o) p o:=⟨ay,λb u n h=>by rw[aG n];exact h,λb n h=>by rw[aG n];exact h⟩
def PL (K:PySem.W.Frag) (f:Str) (y:V) (D:Ends) (σ:St) (x:V) (H:Hp):Prop:=∃a C dx fs,x= .ref a/\H a=some (.ins C dx fs)/\Cls K C/\cx K C f/\fs.length < 1000/\D.nx σ (upd H a (.ins C dx (putF f y fs)))
theorem Je {K:PySem.W.Frag} {f:Str} (h:tv σ H λy H1=>te σ H1 (PL K f y D σ)):sFld K te tv f D σ H:=h
theorem cL {K:PySem.W.Frag} {f:Str} {p C dx:Addr} {fs fs':List (Str×V)} (e:H p=some (.ins C dx fs)) (c:Cls K C) (n:cx K C f) (l:fs.length < 1000) (G:putF f y fs=fs') (h:∀H2,Upd H H2 p (.ins C dx fs')->D.nx σ H2):
  PL K f y D σ (.ref p) H:=⟨p,C,dx,fs,rfl,e,c,n,l,by rw[G];exact h _ Upd.of⟩
def KS (C:Addr) (sp:Sp) (E:XK) (Q:VK) (vs:List V) (H:Hp):Prop:=∀x dx,H x=none->H dx=none->dx≠x->sp (.ref x::(vs++[])) (upd (upd H dx (.own x)) x (.ins C dx [])) (λv H2=>v= .non/\Q (.ref x) H2) E
theorem NU {C:Addr} {sp:Sp} {E:XK} {tr:TA} (h:tr σ H (KS C sp E Q)):Nn C sp [] E tr σ H Q:=h
theorem Jg {C:Addr} {sp:Sp} {E:XK} {vs:List V} (h:∀x dx H2,H x=none->Same H H2->H2 x=some (.ins C dx [])->sp (.ref x::vs) H2 (λv H2=>v= .non/\Q (.ref x) H2) E):KS C sp E Q vs H:=by
 intro x dx G L n;rw[append_nil];exact h x dx _ G (λb o e=>by rw[aG (ao e G),aG (ao e L)];exact e) ay
theorem Upd.same {G H2:Hp} {p:Addr} {o:HO} (u:Upd H H2 p o) (f:G p=none) (s:Same G H):Same G H2:=λb q e=>u.oth b q (ao e f) (s b q e)
theorem Upd.trans {H2 G:Hp} {p:Addr} {o o':HO} (u:Upd H H2 p o) (w:Upd H2 G p o'):Upd H G p o':=⟨w.at',λb q n e=>w.oth b q n (u.oth b q n e),λb n e=>w.non b n (u.non b n e)⟩
end
theorem Inv.laidCh {X:Cx} {pins:List (Addr×Obj)} {σ:St} {H:Hp} {s:Shared} {h':Heap} {a:Addr} {o:HO} {t':Nat} {ch:List Addr} (I:Inv X pins σ H s) (k:∀b u,b∉ch->s.heap.get? b=some u->h'.get? b=some u) (Y:s.heap.objs.size<=a)
  (O:gG X.prog X.w (upd H a o) h' a o) (fp:∀b∈ch,FpOk X pins H b):Inv X pins σ (upd H a o) {s with heap:=h',toks:=t'}:=by
 have fr:H a=none:=I.hok.fresh Y;have L:∀b u,H b=some u->b∉ch:=λb u e z=>by rw[(fp b z).1] at e;cases e
 refine I.step (g':=s.gens) (d':=s.drawn) (ch:=ch) (λb hb=>?_) (λb ob _ _ G e _=>k b ob G e) (λb ob _ _ G e _=>⟨ob.slots,k b ob G e⟩) (λb ob _ e n=>?_) (λb ob G e=>⟨ob,k b ob G e⟩)
  (λb xs e=>by rw[aG (ao e fr)];exact e) (λb ob u e=>by rw[aG (ao e fr)];exact e) (λb ps e=>⟨#[],by rw[aG (ao e fr),e];simp⟩) (λm hm=>?_) (λb u e=>?_) I.bare
 ·obtain⟨ε,γ,δ,β,α,Z⟩:=fp b hb;exact⟨β,γ,α,Z⟩
 ·rw[aG (ne_of_lt (lt_of_lt_of_le (Heap.lt_size e) Y))];exact n
 ·obtain⟨ob,es,ep,ho,r⟩:=hm;exact⟨ob,es,ep,k _ ob (λz=>(fp _ z).2.1 rfl) ho,r⟩
 ·by_cases hb:b=a
  ·subst hb;rw[ay] at e;cases e;exact O
  ·rw[aG hb] at e;refine(I.hok b u e).stay (λc v G q=>k c v ?_ q) (λc q=>by rw[aG (ao q fr)];exact q) λc xs q=>by rw[aG (ao q fr)];exact q
   rcases G with z | z
   ·rw[z];exact L b u e
   ·exact L c _ z
theorem Inv.turnedCh {X:Cx} {pins:List (Addr×Obj)} {σ:St} {H:Hp} {s:Shared} {h':Heap} {t':Nat} {ch:List Addr} (I:Inv X pins σ H s) (k:∀b u,b∉ch->s.heap.get? b=some u->h'.get? b=some u)
  (fp:∀b∈ch,FpOk X pins H b):Inv X pins σ H {s with heap:=h',toks:=t'}:=by
 have L:∀b u,H b=some u->b∉ch:=λb u e z=>by rw[(fp b z).1] at e;cases e
 refine I.step (g':=s.gens) (d':=s.drawn) (ch:=ch) (λb hb=>?_) (λb ob _ _ G e _=>k b ob G e) (λb ob _ _ G e _=>⟨ob.slots,k b ob G e⟩) (λb ob _ e n=>n) (λb ob G e=>⟨ob,k b ob G e⟩)
  (λb xs e=>e) (λb ob u e=>e) (λb ps e=>⟨#[],by rw[e];simp⟩) (λm hm=>?_) (λb u e=>?_) I.bare
 ·obtain⟨γ,α,β,Z,Y,O⟩:=fp b hb;exact⟨Z,α,Y,O⟩
 ·obtain⟨ob,es,ep,ho,r⟩:=hm;exact⟨ob,es,ep,k _ ob (λz=>(fp _ z).2.1 rfl) ho,r⟩
 ·refine(I.hok b u e).stay (λc v G q=>k c v ?_ q) (λc q=>q) λc xs q=>q;rcases G with z | z
  ·rw[z];exact L b u e
  ·exact L c _ z
noncomputable def Ite (K:PySem.W.Frag) (a:Addr):It:=
 ⟨λi H=>∃xs x,SqL K H a xs/\xs[i]? =some x,λi H x H'=>∃p v,H p=none/\x= .ref p/\H'=upd H p (.tup [.int i,v])/\∀xs,SqL K H a xs->xs[i]? =some v,λi H=>∃xs,SqL K H a xs/\xs.length=i⟩
noncomputable def Itz (x:Str):It:=⟨λi _=>i < x.cps.size,λi H v H'=>∃p c,H p=none/\v= .ref p/\H'=upd H p (.tup [.int i,.str ⟨#[c]⟩])/\x.cps[i]? =some c,λi _=>i=x.cps.size⟩
theorem EZ:(2:Nat)<=sizeLine:=by rw[sizeLine_eq];decide
theorem wz {P:Program} {w:World} {K:PySem.W.Frag} {γ:List Expr} {k:Nat} {pos:Pos} (a e Y:Addr) (Z:e≠Y):
  Turn P w K (.Tuple γ k pos) (Ite K a) [e,Y] e (λi h=>(∃O,IsEnum h e Y i O)/\h.IsListIter Y a i) where
 mem:=by simp
 obj:=λi h st b hb=>by
  obtain⟨⟨O,he⟩,⟨o,ho,π,hd⟩⟩:=st;rcases mem_cons.mp hb with z | z
  ·subst z;exact⟨_,he,λv z=>by cases z⟩
  ·rw[mem_singleton.mp z];exact⟨o,ho,λv z=>by rw[hd] at z;cases z⟩
 keep:=λi h h' st k=>⟨let ⟨O,he⟩:=st.1;⟨O,k e (by simp) _ he⟩,st.2.at λo z=>k Y (by simp) o z⟩
 item:=by
  intro X ψ hw ω π i pins s σ H E I hf st υ;subst ψ hw ω;obtain⟨xs,x,ο,ξ⟩:=υ;obtain⟨its,ν,p,hz⟩:=I.list ο;obtain⟨⟨O,he⟩,hl⟩:=st
  have ε:a≠Y:=λz=>by
   obtain⟨o,ho,δ,_⟩:=hl;obtain⟨o',n,L,G,_⟩:=p;rw[z,ho] at L;cases L;rw[δ] at G;exact absurd G (by decide)
  have ζ:a≠e:=λz=>by
   obtain⟨o',n,L,G,_⟩:=p;rw[z,he] at L;cases L;exact absurd (show Value.type "enumerate"= .type "list" from G) (by decide)
  have W:=WalksT.enumerateD (prog:=X.prog) (w:=X.w) (A:=X.A) (Draws.list (A:=X.A.in1) (I.ok.hd π) Y a ε its.toArray) e Z (by simp[Z,Ne.symm ζ]) (by simp);have hi:i < its.toArray.size:=by have:=ν.length;have:=(List.getElem?_eq_some_iff.mp ξ).1;simp;omega
  refine W.item i s _ _ hi ⟨⟨O,he⟩,hl,p.isList⟩ λT a3 h' tk χ hT η β hk=>⟨_,rfl,W.go γ k pos i T _ _ _ β λa0 θ ι=>?_⟩;obtain⟨t,ρ,τ,rfl⟩:=χ;have φ:=W.apart i T h' β
  have ru:RelV x ρ:=by
   obtain⟨u,hu,r⟩:=ν.get ξ;have α:its[i]? =some ρ:=by simpa using τ
   rw[hu] at α;cases α;exact r
  have kk:∀b u,b∉[e,Y]->s.heap.get? b=some u->a0.get? b=some u:=λb u hb q=>ι b u hb (hk b u hb q);have fr:H T=none:=I.hok.fresh hT;refine⟨.ref T,upd H T (.tup [.int i,x]),I.laidCh (t':=tk) kk hT ⟨EZ,[.int i t,ρ],.cons ⟨t,rfl⟩ (.cons ru .nil),?_⟩ hf,rfl,⟨T,x,fr,rfl,rfl,λys hy=>by rw[I.list_inj hy ο];exact ξ⟩,⟨θ.1,θ.2.1⟩,λb hb=>?_⟩
  ·obtain⟨o,ho,r⟩:=η;exact⟨o,ι T o φ ho,r⟩
  ·have fb:=(hf b hb);rw[aG (λz=>?_)]
   ·exact fb.1
   ·have lt:b < s.heap.objs.size:=by
     rcases mem_cons.mp hb with z | z
     ·subst z;exact Heap.lt_size he
     ·rw[mem_singleton.mp z];obtain⟨o,ho,_⟩:=hl;exact Heap.lt_size ho
    rw[z] at lt;exact absurd (lt_of_lt_of_le lt hT) (lt_irrefl _)
 done:=by
  intro X ψ hw ω π i pins s σ H E I hf st υ;subst ψ hw ω;obtain⟨xs,ο,ξ⟩:=υ;obtain⟨its,ν,p,hz⟩:=I.list ο;obtain⟨⟨O,he⟩,hl⟩:=st
  have ε:a≠Y:=λz=>by
   obtain⟨o,ho,δ,_⟩:=hl;obtain⟨o',n,L,G,_⟩:=p;rw[z,ho] at L;cases L;rw[δ] at G;exact absurd G (by decide)
  have ζ:a≠e:=λz=>by
   obtain⟨o',n,L,G,_⟩:=p;rw[z,he] at L;cases L;exact absurd (show Value.type "enumerate"= .type "list" from G) (by decide)
  have W:=WalksT.enumerateD (prog:=X.prog) (w:=X.w) (A:=X.A) (Draws.list (A:=X.A.in1) (I.ok.hd π) Y a ε its.toArray) e Z (by simp[Z,Ne.symm ζ]) (by simp);have hn:its.toArray.size=i:=by have:=ν.length;simp;omega
  subst hn;exact W.done s _ _ ⟨⟨O,he⟩,hl,p.isList⟩ λh' tk hk=>⟨rfl,I.turnedCh hk hf⟩
 self:=λ_ _ _ _ _ st h=>let ⟨_,he⟩:=st.1;wpAny_pyIter_enum he h
theorem Cq {P:Program} {w:World} {K:PySem.W.Frag} {Z:List Expr} {k:Nat} {pos:Pos} {x:Str} {t:Tok} {n:String} (e L:Addr) (O:e≠L)
  (D:∀A:Around,A.handled=none->Draws P w A L [L] x.cps.size (λi v=>∃c u,x.cps[i]? =some c/\v= .str ⟨#[c]⟩ u) (λi h=>h.IsStrIter L n x t i)):
  Turn P w K (.Tuple Z k pos) (Itz x) [e,L] e (λi h=>(∃G,IsEnum h e L i G)/\h.IsStrIter L n x t i) where
 mem:=by simp
 obj:=λi h st b hb=>by
  obtain⟨⟨G,he⟩,⟨o,ho,ε,hd⟩⟩:=st;rcases mem_cons.mp hb with z | z
  ·subst z;exact⟨_,he,λv z=>by cases z⟩
  ·rw[mem_singleton.mp z];exact⟨o,ho,λv z=>by rw[hd] at z;cases z⟩
 keep:=λi h h' st k=>⟨let ⟨G,he⟩:=st.1;⟨G,k e (by simp) _ he⟩,let ⟨o,ho,r⟩:=st.2;⟨o,k L (by simp) o ho,r⟩⟩
 item:=by
  intro X ι hw ν ε i pins s σ H E I hf st δ;subst ι hw ν;obtain⟨⟨G,he⟩,hl⟩:=st;have W:=WalksT.enumerateD (prog:=X.prog) (w:=X.w) (A:=X.A) (D X.A.in1 (I.ok.hd ε)) e O (by simp[O]) (by simp);refine W.item i s _ _ δ ⟨⟨G,he⟩,hl⟩ λT ο h' tk θ hT α Y hk=>⟨_,rfl,W.go Z k pos i T _ _ _ Y fun ξ β γ=>?_⟩;obtain⟨π,υ,⟨c,u,ζ,rfl⟩,rfl⟩:=θ;have η:=W.apart i T h' Y;have ρ:∀b u,b∉[e,L]->s.heap.get? b=some u->ξ.get? b=some u:=λb u hb q=>γ b u hb (hk b u hb q);have fr:H T=none:=I.hok.fresh hT;refine⟨.ref T,upd H T (.tup [.int i,.str ⟨#[c]⟩]),I.laidCh (t':=tk) ρ hT ⟨EZ,[.int i π,.str ⟨#[c]⟩ u],.cons ⟨π,rfl⟩ (.cons ⟨u,rfl⟩ .nil),?_⟩ hf,rfl,⟨T,c,fr,rfl,rfl,ζ⟩,⟨β.1,β.2⟩,λb hb=>?_⟩
  ·obtain⟨o,ho,r⟩:=α;exact⟨o,γ T o η ho,r⟩
  ·have τ:=(hf b hb);rw[aG (λz=>?_)]
   ·exact τ.1
   ·have lt:b < s.heap.objs.size:=by
     rcases mem_cons.mp hb with z | z
     ·subst z;exact Heap.lt_size he
     ·rw[mem_singleton.mp z];obtain⟨o,ho,_⟩:=hl;exact Heap.lt_size ho
    rw[z] at lt;exact absurd (lt_of_lt_of_le lt hT) (lt_irrefl _)
 done:=by
  intro X ι hw ν ε i pins s σ H E I hf st δ;subst ι hw ν;obtain⟨⟨G,he⟩,hl⟩:=st;have W:=WalksT.enumerateD (prog:=X.prog) (w:=X.w) (A:=X.A) (D X.A.in1 (I.ok.hd ε)) e O (by simp[O]) (by simp);have δ:i=x.cps.size:=δ;subst δ;exact W.done s _ _ ⟨⟨G,he⟩,hl⟩ λh' tk hk=>⟨rfl,I.turnedCh hk hf⟩
 self:=λ_ _ _ _ _ st h=>let ⟨_,he⟩:=st.1;wpAny_pyIter_enum he h
noncomputable def Pa (K:PySem.W.Frag) (tl:TE):TI:=fun σ H R=>tl σ H λx H1=>(∃a,x= .ref a/\(∃xs,SqL K H1 a xs)/\R (Ite K a) H1)∨∃z,x= .str z/\R (Itz z) H1
section
variable {X:Cx} {K:PySem.W.Frag}
theorem Ax {l:Expr} {tl:TE} {Y:List Expr} {k:Nat} {tpos p pos:Pos} (h:X.K=K) (ε:Gl X "enumerate") (hm:X.mg "enumerate"=none) (hl:PE X l tl) (hs:starEach [l] X.env=[(false,eval l X.env)]:=by rfl):
  PI X (.Tuple Y k tpos) (.Call (.Name "enumerate" p) [l] [] pos) (Pa K tl):=by
 subst h;intro pins s σ H R I h;refine Call_ (rG I ε hm boot_enumerate (PyProof.Rows.callWith_type1 (thn (aa hl ae hs pos pins s σ H (λvs H1=>match vs with | [x]=>(∃a,x= .ref a/\(∃xs,SqL X.K H1 a xs)/\R (Ite X.K a) H1)∨∃z,x= .str z/\R (Itz z) H1 | _=>False) I h) λus G ⟨vs,H1,I1,Z,α⟩=>?_) hs rfl))
 match vs,Z,α with
 | [x],Z,α=>
 obtain⟨u,rfl,γ⟩:=Z.one;rcases α with ⟨a,rfl,⟨xs,δ⟩,q⟩ | ⟨z,rfl,q⟩
 ·cases γ;obtain⟨its,ζ,pl,hz⟩:=I1.list δ;refine call_enumerate_list pl.isList λh' he L hsz hk=>wpAny_pyIter_enum he ?_;refine⟨G.heap.objs.size + 1,[G.heap.objs.size + 1,G.heap.objs.size],_,_,H1,rfl,I1.kept (t':=G.toks) hk,wz a _ _ (ne_of_gt (lt_succ_self _)),⟨⟨_,he⟩,L⟩,λb hb=>?_,q⟩;have O:G.heap.objs.size<=b:=(mem_cons.mp hb).elim (λz=>by rw[z];exact le_succ _) (λz=>by rw[mem_singleton.mp z];exact le_refl _);exact I1.fpOk O (I1.hok.fresh O)
 ·obtain⟨t,rfl⟩:=γ;refine call_enumerate_str λh' he L hsz hk=>wpAny_pyIter_enum he ?_
  have fin:∀n,(h'.IsStrIter G.heap.objs.size n z t 0)->(∀A:Around,A.handled=none->Draws X.prog X.w A G.heap.objs.size [G.heap.objs.size] z.cps.size (λi v=>∃c u,z.cps[i]? =some c/\v= .str ⟨#[c]⟩ u) (λi h=>h.IsStrIter G.heap.objs.size n z t i))->
    PIE X pins σ (.Tuple Y k tpos) R (.ref (G.heap.objs.size + 1)) {G with heap:=h'}:=λn hn D=>by
   refine⟨G.heap.objs.size + 1,[G.heap.objs.size + 1,G.heap.objs.size],_,_,H1,rfl,I1.kept (t':=G.toks) hk,Cq _ _ (ne_of_gt (lt_succ_self _)) D,⟨⟨_,he⟩,hn⟩,λb hb=>?_,q⟩;have O:G.heap.objs.size<=b:=(mem_cons.mp hb).elim (λz=>by rw[z];exact le_succ _) (λz=>by rw[mem_singleton.mp z];exact le_refl _);exact I1.fpOk O (I1.hok.fresh O)
  unfold strIterType at L;split at L
  ·exact fin _ L λA β=>Draws.strAscii β _ z t
  ·exact fin _ L λA β=>Draws.strWide β _ z t
end
theorem tK {K:PySem.W.Frag} {a:Addr} {xs:List V} {g:TG} {tb:TS} {D:Ends} {σ:St} {H:Hp} (Pv:Nat->St->Hp->Prop) (h0:Pv 0 σ H) (hl:∀i σ H,i<=xs.length->Pv i σ H->SqL K H a xs)
  (hs:∀i x σ H p H',xs[i]? =some x->Pv i σ H->H p=none->Same H H'->H' p=some (.tup [.int i,x])->g (.ref p) σ H' λG H2=>tb {D with nx:=Pv (i + 1),ct:=Pv (i + 1),bk:=D.nx} G H2) (hd:∀σ H,Pv xs.length σ H->D.nx σ H):
  ∃W:Nat->Nat->St->Hp->Prop,(∃m,W 0 m σ H)/\∀i m σ H,W i m σ H->
    ((Ite K a).stop i H/\D.nx σ H)∨((Ite K a).go i H/\∃N:St->Hp->Prop,(∀σ' H',N σ' H'->∃O,O < m/\W (i + 1) O σ' H')/\∀x H',(Ite K a).yld i H x H'->g x σ H' λG H2=>tb {D with nx:=N,ct:=N,bk:=D.nx} G H2):=by
 refine⟨λi m σ H=>m=xs.length - i/\i<=xs.length/\Pv i σ H,⟨xs.length,by simp,zero_le _,h0⟩,?_⟩;rintro i m σ H ⟨rfl,hi,p⟩;have q:=hl i σ H hi p;by_cases L:i < xs.length
 ·refine .inr ⟨⟨xs,xs[i],q,by simp[L]⟩,Pv (i + 1),fun σ' H' Y=>⟨xs.length - (i + 1),by omega,rfl,L,Y⟩,λx H' y=>?_⟩;obtain⟨r,v,f,α,Z,y⟩:=y;subst α Z;exact hs i v σ H r _ (y xs q) p f (bh f) ay
 ·have e:i=xs.length:=by omega
  subst e;exact .inl ⟨⟨xs,q,rfl⟩,hd σ H p⟩
section
variable {σ:St} {H:Hp} {te:TE} {R:It->Hp->Prop}
theorem FF {K:PySem.W.Frag} (h:te σ H λx H1=>(∃a,x= .ref a/\(∃xs,SqL K H1 a xs)/\R (Ite K a) H1)∨∃z,x= .str z/\R (Itz z) H1):Pa K te σ H R:=h
end
noncomputable def Kq:V->List V->Hp->VK->Prop:=λx xs H Q=>∃z y,x= .str z/\xs=[.str y]/\y.length≠0/\z.length + 2<=sizeLine/\∀D,H D=none->Q (.ref D) (upd H D (.lst ((Txt.split z y).map V.str)))
theorem yA:∀(G:List Str) (n:Nat),Vals (G.map V.str) (strsFrom n G)
 | [],_=> .nil
 | x::r,n=> .cons ⟨n,rfl⟩ (yA r (n + 1))
section
variable {X:Cx}
theorem tI:MtR X "str.split" Kq:=by
 intro pins s σ H x xs v us Q I O rs h;obtain⟨z,y,rfl,rfl,L,hz,q⟩:=h;obtain⟨t,rfl⟩:=O;obtain⟨u,rfl,Y⟩:=tR rs;obtain⟨t',rfl⟩:=Y;have L:(y.length == 0)=false:=beq_eq_false_iff_ne.mpr L;have Z:=split_le z y;have fr:=I.hok.fresh (le_refl s.heap.objs.size)
 have G:Txt.split z y=[z]->EP X pins σ Q (.ref s.heap.objs.size) {s with heap:=s.heap.push {cls:= .type "list",data:= .seq [Value.str z t].toArray}}:=λe=>
  ⟨.ref s.heap.objs.size,_,I.laid (t':=s.toks) (o:= .lst ((Txt.split z y).map V.str)) (λb o e=>Heap.get?_push_of_some _ e) (le_refl _) ⟨by rw[length_map];omega,[.str z t],0,by rw[e];exact .cons ⟨t,rfl⟩ .nil,Heap.get?_push_size _ rfl⟩,rfl,q _ fr⟩
 cases h1:(decide (z.length < y.length)||decide (Builtin.Str.strKind z < Builtin.Str.strKind y)) with
 | true=>exact call_meets F.slot_str_split (typeIs_str _ _ _) F.entry_str_split (F.args_str_split_2 _ _) (meets_str_split_cannot_occur z y t t' h1) (G (if_pos h1))
 | false=>
   cases hf:(Builtin.Str.occurrences z y 0 z.length (z.length + 1)).isEmpty with
   | true=>exact call_meets F.slot_str_split (typeIs_str _ _ _) F.entry_str_split (F.args_str_split_2 _ _) (meets_str_split_not_found z y t t' h1 L hf) (G ((if_neg (ne_true_of_eq_false h1)).trans (if_pos hf)))
   | false=>
     have e:Txt.split z y=Builtin.Str.partsBetween z (Builtin.Str.occurrences z y 0 z.length (z.length + 1)) y.length:=(if_neg (ne_true_of_eq_false h1)).trans (if_neg (ne_true_of_eq_false hf));refine call_meets F.slot_str_split (typeIs_str _ _ _) F.entry_str_split (F.args_str_split_2 _ _) (meets_str_split_sep z y t t' h1 L hf (by omega) (by rw[<-e];omega)) ?_;refine⟨.ref s.heap.objs.size,_,I.laid (λb o e=>Heap.get?_push_of_some _ e) (le_refl _) (o:= .lst ((Txt.split z y).map V.str)) ⟨by rw[length_map];omega,_,0,?_,Heap.get?_push_size _ rfl⟩,rfl,q _ fr⟩;rw[e];exact yA _ _
end
section
variable {σ:St} {H:Hp} {Q:VK} {D:Ends} {te ty tv td:TE} {x y v:V}
theorem Ar {z w:Str} (hw:w.length≠0) (hz:z.length + 2<=sizeLine) (h:∀p H2,H p=none->Same H H2->H2 p=some (.lst ((Txt.split z w).map V.str))->Q (.ref p) H2):Kq (.str z) [.str w] H Q:=⟨z,w,rfl,rfl,hw,hz,ig h⟩
theorem fg {l:Addr} {xs:List V} (e:H l=some (.lst xs)) (hz:xs.length < sizeLine) (h:∀H2,Upd H H2 l (.lst (xs++[y]))->Q .non H2):FV (.ref l) [y] H Q:=⟨l,xs,y,rfl,rfl,e,hz,h _ Upd.of⟩
def Ia (v:V) (x:V) (D:Ends) (σ:St) (y:V) (H:Hp):Prop:=∃a G,x= .ref a/\DPut H a y v G/\D.nx σ G
theorem N5 (h:tv σ H λv H1=>td σ H1 λx H2=>ty σ H2 (Ia v x D σ)):Oe td ty tv D σ H:=h
theorem ox {p:Addr} {kvs:List (Key×V)} {z:Str} (e:H p=some (.dK kvs)) (hl:kvs.length < sizeLine) (h:∀H2,Upd H H2 p (.dK (putK kvs (Sum.inr z) v))->D.nx σ H2):Ia v (.ref p) D σ (.str z) H:=⟨p,_,rfl,DPut.k (k:=Sum.inr z) e hl,h _ Upd.of⟩
theorem LR {p:Addr} {kvs:List (Key×V)} {z:Int} (e:H p=some (.dK kvs)) (hl:kvs.length < sizeLine) (h:∀H2,Upd H H2 p (.dK (putK kvs (Sum.inl z) v))->D.nx σ H2):Ia v (.ref p) D σ (.int z) H:=⟨p,_,rfl,DPut.k (k:=Sum.inl z) e hl,h _ Upd.of⟩
def Ib (x:V) (Q:VK) (y:V) (H:Hp):Prop:=∃a v,x= .ref a/\DGet H a y (some v)/\Q v H
theorem N9 (h:td σ H λx H1=>ty σ H1 (Ib x Q)):Nq td ty σ H Q:=h
theorem qo {p:Addr} {kvs:List (Key×V)} {z:Str} (e:H p=some (.dK kvs)) (l:valV kvs (Sum.inr z)=some v) (h:Q v H):Ib (.ref p) Q (.str z) H:=⟨p,v,rfl,by rw[<-l];exact DGet.k (k:=Sum.inr z) e,h⟩
theorem FJ {p:Addr} {kvs:List (Key×V)} {z:Int} (e:H p=some (.dK kvs)) (l:valV kvs (Sum.inl z)=some v) (h:Q v H):Ib (.ref p) Q (.int z) H:=⟨p,v,rfl,by rw[<-l];exact DGet.k (k:=Sum.inl z) e,h⟩
def KR (C:Addr) (m:Str) (sp:Sp) (E:XK) (tr:TA) (σ:St) (Q:VK) (x:V) (H:Hp):Prop:=∃a dx fs,x= .ref a/\H a=some (.ins C dx fs)/\fs.lookup m=none/\tr σ H λvs H2=>sp (x::(vs++[])) H2 Q E
theorem NT {C:Addr} {m:Str} {sp:Sp} {E:XK} {tr:TA} (h:te σ H (KR C m sp E tr σ Q)):Le C m sp [] E te tr σ H Q:=h
theorem aC {C dx p:Addr} {m:Str} {fs:List (Str×V)} {sp:Sp} {E:XK} {tr:TA} (e:H p=some (.ins C dx fs)) (l:fs.lookup m=none) (h:tr σ H λvs H2=>sp (.ref p::vs) H2 Q E):KR C m sp E tr σ Q (.ref p) H:=⟨p,dx,fs,rfl,e,l,by simp only[append_nil];exact h⟩
theorem LI {K:PySem.W.Frag} {p:Addr} {xs:List V} (e:SqL K H p xs) (h:∀q H2,H q=none->Same H H2->H2 q=some (.lst xs)->Q (.ref q) H2):Av K [.ref p] H Q:=⟨p,xs,rfl,.inl e,ig h⟩
theorem LH {K:PySem.W.Frag} {p:Addr} {xs:List V} (e:SqT K H p xs) (h:∀q H2,H q=none->Same H H2->H2 q=some (.lst xs)->Q (.ref q) H2):Av K [.ref p] H Q:=⟨p,xs,rfl,.inr e,ig h⟩
theorem NF {K:PySem.W.Frag} {p:Addr} {xs:List V} (e:SqL K H p xs) (h:∀q H2,H q=none->Same H H2->H2 q=some (.tup xs)->Q (.ref q) H2):FS K [.ref p] H Q:=⟨p,xs,rfl,.inl ⟨e,ig h⟩⟩
theorem ND {K:PySem.W.Frag} {p:Addr} {xs:List V} (e:SqT K H p xs) (h:Q (.ref p) H):FS K [.ref p] H Q:=⟨p,xs,rfl,.inr ⟨e,h⟩⟩
end
def Mv (ch fr:List Addr) (h h':Heap):Prop:=(∀b o,b∉ch->b∉fr->h.get? b=some o->h'.get? b=some o)/\∀b o,b∉ch->b∈fr->h.get? b=some o->∃G,h'.get? b=some {o with slots:=G}
def HZ (h:Heap) (e:Addr) (C:Value) (dx:Option Addr) (T:Option (Addr×Value)):Prop:=
 ∃G vs,h.get? e=some G/\G.cls=C/\G.dict=dx/\G.data= .fields vs/\1 < vs.size/\
   match T with
   | none=>vs[1]? =some .none
   | some (t,O)=>vs[1]? =some (.ref t)/\t≠e/\∃L ts,h.get? t=some L/\L.data= .fields ts/\ts[3]? =some O
section
variable {M:Model} {A:Around} {E:Value->Shared->Prop} {s:Shared}
theorem zv {h:Heap} {a:Addr} {o:Obj} {vs:Array Value} {i:Nat} {v:Value} (ho:h.get? a=some o) (hd:o.data= .fields vs):
  ∃o',(h.update a (Obj.mapFields (·.setIfInBounds i v))).get? a=some o'/\o'.cls=o.cls/\o'.dict=o.dict/\o'.data= .fields (vs.setIfInBounds i v):=by
 have G:=Obj.data_mapFields hd (·.setIfInBounds i v);refine⟨_,Heap.get?_update_self (Obj.mapFields (·.setIfInBounds i v)) ho (Obj.isFreed_of_fields G),Obj.cls_mapFields _ _,?_,G⟩;obtain⟨c,d,L,O⟩:=o;have hd:L= .fields vs:=hd;subst hd;rfl
theorem JS {base:Heap} {env:Env} {outer:List Env} {L e:Addr} {O:Obj} {vs:Array Value} {G:Value} {b:Bool} {Q:Unit->Shared->Prop}
  (δ:A.frames=some (env::outer)) (hl:s.heap.FunFrames base (env::outer)) (hf:env.frame=some L) (he:s.heap.get? e=some O) (hd:O.data= .fields vs) (hsz:1 < vs.size)
  (h:∀h',Mv [e] (frs (env::outer)) s.heap h'->HZ h' e O.cls O.dict (some (s.heap.objs.size,rawInt L))->Q () {s with heap:=h'}):
  wpAny M A (do let a <-frameOf env;let pl <-entryPlaceOf L b;let t <-EntryCells.newEntry G a .none (rawInt L) .none pl;setField (.ref e) 1 t) Q E s:=by
 have ne:e∉frs (env::outer):=λhm=>by
  obtain⟨_,o,ho,γ⟩:=hl.mem hm;rw[he] at ho;cases ho;exact γ vs hd
 refine wpAny_bind (wpAny_frameOf_fun δ hl hf λg1 β=>?_);refine wpAny_bind (wpAny_entryPlaceOf λpl Z=>?_);unfold EntryCells.newEntry newFields;refine wpAny_bind (wpAny_newObj_type ?_ (Z.sizeOk5 _ _ _ _ _));have θ:g1.get? e=some O:=(β.2.1 e ne).trans he;have sz:g1.objs.size=s.heap.objs.size:=β.1;generalize α:({cls:= .type "traceback",dict:=none,data:= .fields ([G,.ref L,.none,rawInt L,.none]++(if pl.isEmpty then List.replicate 6 Value.none else pl)).toArray}:Obj)=ob;have η:(g1.push ob).get? e=some O:=Heap.get?_push_of_some ob θ;refine wpAny_setField η hd hsz ?_;have lt:e < g1.objs.size:=Heap.lt_size θ;obtain⟨o',π,ο,ξ,ν⟩:=zv (i:=1) (v:= .ref g1.objs.size) η hd;have oth:∀c,c≠e->((g1.push ob).update e (Obj.mapFields (·.setIfInBounds 1 (Value.ref g1.objs.size)))).get? c=(g1.push ob).get? c:=λc ε=>Heap.get?_update_other _ _ (Ne.symm ε);have Y:∀c o,c≠e->g1.get? c=some o->((g1.push ob).update e (Obj.mapFields (·.setIfInBounds 1 (Value.ref g1.objs.size)))).get? c=some o:=λc o ε q=>(oth c ε).trans (Heap.get?_push_of_some ob q);refine h _ ⟨λc o n m q=>Y c o (λz=>n (by rw[z];exact mem_singleton.mpr rfl)) ((β.2.1 c m).trans q),λc o n m q=>?_⟩ ⟨o',_,π,ο,ξ,ν,by simpa using hsz,?_⟩
 ·obtain⟨ι,ρ⟩:=β.2.2 c o q;exact⟨ι,Y c _ (λz=>n (by rw[z];exact mem_singleton.mpr rfl)) ρ⟩
 ·have ζ:g1.objs.size≠e:=ne_of_gt lt;refine⟨by rw[<-sz];simp[hsz],by rw[<-sz];exact ζ,ob,_,?_,by rw[<-α],?_⟩
  ·rw[<-sz,oth _ ζ];exact Heap.get?_push_size g1 (by rw[<-α];rfl)
  ·first | (simp;done) | (rcases Z with rfl | ⟨_,_,_,_,_,_,_,rfl⟩<;>simp)
theorem G6 {e t:Addr} {C:Value} {dx:Option Addr} {δ:Value} {fr:Option Addr} {Q:Unit->Shared->Prop} (x:HZ s.heap e C dx (some (t,δ)))
  (h:∀h',(∀b o,b≠t->s.heap.get? b=some o->h'.get? b=some o)->HZ h' e C dx (some (t,fr.elim .none λf=>rawInt f))->Q () {s with heap:=h'}):wpAny M A (setFlight (.ref e) fr) Q E s:=by
 obtain⟨γ,vs,he,Y,O,hd,hsz,h1,G,η,ts,hT,L,Z⟩:=x;unfold setFlight;refine wpAny_bind (wpAny_field he hd h1 ?_);rw[if_pos (show(Value.ref t != Value.none)=true from by simp)];refine wpAny_setField hT L (Array.getElem?_eq_some_iff.mp Z).1 ?_;obtain⟨o',β,ζ,ε,α⟩:=zv (i:=3) (v:=fr.elim .none λf=>rawInt f) hT L;have oth:∀c,c≠t->(s.heap.update t (Obj.mapFields (·.setIfInBounds 3 (fr.elim Value.none λf=>rawInt f)))).get? c=s.heap.get? c:=λc Y=>Heap.get?_update_other _ _ (Ne.symm Y);refine h _ (λb o hb q=>(oth b hb).trans q) ⟨γ,vs,(oth e (Ne.symm G)).trans he,Y,O,hd,hsz,h1,G,o',_,β,α,?_⟩;have:=(Array.getElem?_eq_some_iff.mp Z).1;simp[this]
end
section
variable {X:Cx} {pins:List (Addr×Obj)} {σ:St} {H:Hp} {s:Shared}
theorem Inv.mv {h':Heap} {ch:List Addr} (I:Inv X pins σ H s) (m:Mv ch (frs X.stack) s.heap h') (fp:∀b∈ch,FpOk X pins H b):Inv X pins σ H {s with heap:=h'}:=by
 have L:∀b u,H b=some u->b∉ch:=λb u e z=>by rw[(fp b z).1] at e;cases e
 have O:∀b u,H b=some u->b∉frs X.stack:=λb u e z=>by rw[I.stkFree b z] at e;cases e
 have any:∀b o,b∉ch->s.heap.get? b=some o->∃Y,h'.get? b=some {o with slots:=Y}:=λb o n e=>by
  by_cases z:b∈frs X.stack
  ·exact m.2 b o n z e
  ·exact⟨o.slots,m.1 b o n z e⟩
 refine I.step (g':=s.gens) (d':=s.drawn) (t':=s.toks) (ch:=ch) (λb hb=>?_) (λb ob Z hb G e _=>m.1 b ob G (λz=>(mem_cons.mp (I.stkSub b z)).elim Z hb) e) (λb ob _ _ G e _=>any b ob G e) (λb ob _ e n=>n) (λb ob G e=>let ⟨Y,q⟩:=any b ob G e;⟨_,q⟩)
  (λb xs e=>e) (λb ob u e=>e) (λb ps e=>⟨#[],by rw[e];simp⟩) (fun ε hm=>?_) (λb u e=>?_) I.bare
 ·obtain⟨η,δ,ζ,γ,β,α⟩:=fp b hb;exact⟨γ,δ,β,α⟩
 ·obtain⟨ob,es,ep,ho,r⟩:=hm;obtain⟨Y,q⟩:=any _ ob (λz=>(fp _ z).2.1 rfl) ho;exact⟨_,es,ep,q,r⟩
 ·refine(I.hok b u e).stay (λc v G q=>m.1 c v ?_ ?_ q) (λc q=>q) λc xs q=>q
  ·rcases G with z | z
   ·rw[z];exact L b u e
   ·exact L c _ z
  ·rcases G with z | z
   ·rw[z];exact O b u e
   ·exact O c _ z
theorem gG.there {P:Program} {w:World} {h:Heap} {a:Addr} {o:HO} (x:gG P w H h a o):∃o',h.get? a=some o':=by
 cases o with
 | lst xs=>obtain⟨_,_,_,_,e⟩:=x;exact⟨_,e⟩
 | tup xs=>obtain⟨_,_,_,_,e,_⟩:=x;exact⟨_,e⟩
 | dK kvs=>obtain⟨_,_,_,_,o,_,_,e,_⟩:=x;exact⟨_,e⟩
 | dT kvs=>obtain⟨_,_,_,_,o,_,_,e,_⟩:=x;exact⟨_,e⟩
 | set S n=>obtain⟨o,_,_,_,e,_⟩:=x;exact⟨_,e⟩
 | ins C dx fs=>obtain⟨_,_,_,e,_⟩:=x;exact⟨_,e⟩
 | own y=>obtain⟨_,e⟩:=x;exact⟨_,e⟩
 | xd fs=>obtain⟨_,⟨_,_,_,e,_⟩,_⟩:=x;exact⟨_,e⟩
 | rng lo hi=>obtain⟨_,_,_,e⟩:=x;exact⟨_,e⟩
 | frz ob u=>obtain⟨e,_⟩:=x;exact⟨_,e⟩
 | tbl ps=>exact⟨_,(show h.get? a=some _ from x)⟩
 | met f y=>exact⟨_,(show h.get? a=some _ from x)⟩
 | ext φ=>obtain⟨_,⟨_,e⟩,_⟩:=x;exact⟨_,e⟩
theorem HOk.none_ {P:Program} {w:World} {h:Heap} {a:Addr} (x:HOk P w H h) (e:h.get? a=none):H a=none:=by
 cases q:H a with
 | none=>rfl
 | some u=>obtain⟨o,z⟩:=(x a u q).there;rw[e] at z;cases z
def FpN (X:Cx) (pins:List (Addr×Obj)) (H:Hp) (b:Addr):Prop:=
 H b=none/\b≠X.env.locals/\b∉X.fs/\(b∈X.ex∨X.s₀.heap.get? b=none)/\(∀x c,X.env.cells.lookup x=some c->c≠b)/\∀p∈X.pn++pins,p.1≠b
theorem FpOk.n {b:Addr} (f:FpOk X pins H b):FpN X pins H b:=⟨f.1,f.2.1,f.2.2.1,f.2.2.2.1.imp id Heap.get?_none_of_le,f.2.2.2.2⟩
theorem Inv.fpN {H':Hp} {b:Addr} (I:Inv X pins σ H s) (hb:s.heap.get? b=none) (hn:H' b=none):FpN X pins H' b:=by
 refine⟨hn,λz=>?_,λz=>?_,?_,λx c e z=>?_,λp L z=>?_⟩
 ·obtain⟨m,⟨o,es,ep,ho,r⟩,_⟩:=I.loc;rw[<-z,hb] at ho;cases ho
 ·obtain⟨_,o,ho,_⟩:=I.ok.funs.mem z;obtain⟨o',G⟩:=I.base.there b o ho λy=>I.ok.exfs b y z;rw[hb] at G;cases G
 ·by_cases z:b∈X.ex
  ·exact .inl z
  ·cases q:X.s₀.heap.get? b with
   | none=>exact .inr rfl
   | some o=>obtain⟨o',G⟩:=I.base.there b o q z;rw[hb] at G;cases G
 ·obtain⟨v,o,q,_⟩:=I.cell x c e;rw[z,hb] at q;cases q
 ·have:=(I.pin p L).1;rw[z,hb] at this;cases this
theorem Inv.mvN {h':Heap} {ch:List Addr} (I:Inv X pins σ H s) (m:Mv ch (frs X.stack) s.heap h') (fp:∀b∈ch,FpN X pins H b):Inv X pins σ H {s with heap:=h'}:=by
 have out:∀b o,X.s₀.heap.get? b=some o->b∉X.ex->b∉ch++X.ex:=λb o e n z=>by
  rcases mem_append.mp z with z | z
  ·rcases(fp b z).2.2.2.1 with y | y
   ·exact n y
   ·rw[e] at y;cases y
  ·exact n z
 have sub:∀b,b∉ch++X.ex->b∉X.ex:=λb n z=>n (mem_append_right _ z)
 have ok:Cx.Ok {X with ex:=ch++X.ex}:=⟨I.ok.mod,I.ok.kind,I.ok.glob,I.ok.blt,I.ok.above,I.ok.inj,I.ok.has,I.ok.cab,I.ok.hd,I.ok.frames,I.ok.stk,
  λb hb=>(mem_append.mp hb).elim (λz=>⟨(fp b z).2.1,(fp b z).2.2.2.2.1⟩) (I.ok.exf b),I.ok.bs,I.ok.bsz,λb o e=>out b o (I.ok.bs b o e).1 (I.ok.noex b o e),
  λb hb=>(mem_append.mp hb).elim (λz=>(fp b z).2.2.1) (I.ok.exfs b),I.ok.funs,I.ok.frf⟩
 have U:=I.base
 have J:Inv {X with ex:=ch++X.ex} pins σ H s:=⟨ok,I.os,I.bare,⟨λb o e n f z=>U.keep b o e n f (sub b z),λb o e n f z=>U.slot b o e n f (sub b z),λb o e n z=>U.free b o e n (sub b z),λb o e z=>U.there b o e (sub b z),U.tups,U.frzs,U.tbls⟩,
  I.loc,I.cell,I.free,I.freeC,I.pin,I.hok,I.len⟩
 have J':=J.mv (h':=h') (ch:=ch) m λb hb=>⟨(fp b hb).1,(fp b hb).2.1,(fp b hb).2.2.1,.inl (mem_append_left _ hb),(fp b hb).2.2.2.2⟩;have V:=J'.base
 exact⟨I.ok,J'.os,J'.bare,⟨λb o e n f z=>V.keep b o e n f (out b o e z),λb o e n f z=>V.slot b o e n f (out b o e z),λb o e n z=>V.free b o e n (out b o e z),λb o e z=>V.there b o e (out b o e z),V.tups,V.frzs,V.tbls⟩,
  J'.loc,J'.cell,J'.free,J'.freeC,J'.pin,J'.hok,J'.len⟩
structure Fly (X:Cx) (pins:List (Addr×Obj)) (H:Hp) (e:Addr) (C:Value) (dx:Option Addr) (T:Option (Addr×Value)) (h:Heap):Prop where
 at_:HZ h e C dx T
 fe:FpN X pins H e
 ft:∀t fl,T=some (t,fl)->FpN X pins H t
def Own (X:Cx):Prop:=X.stack=X.env::X.outer/\X.env.frame=some X.env.locals
theorem Gh {M:Model} {E:Value->Shared->Prop} {e:Addr} {C:Value} {dx:Option Addr} {T:Option (Addr×Value)} {Q:Unit->Shared->Prop} (I:Inv X pins σ H s) (ow:Own X) (f:Fly X pins H e C dx T s.heap)
  (h:∀h' t,Inv X pins σ H {s with heap:=h'}->Fly X pins H e C dx (some (t,rawInt X.env.locals)) h'->Q () {s with heap:=h'}):wpAny M X.A (noteFrame (.ref e) X.env) Q E s:=by
 obtain⟨ho,hf⟩:=ow;have ι:X.A.frames=some (X.env::X.outer):=by rw[I.ok.frames,ho]
 have ω:s.heap.FunFrames X.base (X.env::X.outer):=by rw[<-ho];exact I.stack
 obtain⟨⟨ζ,vs,he,ε,Y,hd,hsz,hT⟩,fe,ft⟩:=f
 have fin:∀(L:Shared) (G:Obj) (O:Array Value) (δ:Value) (b1:Bool),Inv X pins σ H L->L.heap.objs.size=s.heap.objs.size->L={s with heap:=L.heap}->L.heap.get? e=some G->G.cls=C->G.dict=dx->G.data= .fields O->1 < O.size->
   wpAny M X.A (do let a <-frameOf X.env;let pl <-entryPlaceOf X.env.locals b1;let t <-EntryCells.newEntry δ a .none (rawInt X.env.locals) .none pl;setField (.ref e) 1 t) Q E L:=by
  intro L G O δ b1 I1 hz θ φ υ τ ρ π;have γ:L.heap.FunFrames X.base (X.env::X.outer):=by rw[<-ho];exact I1.stack
  refine JS ι γ hf φ ρ π λh' m x=>?_;have ο:Inv X pins σ H {L with heap:=h'}:=I1.mvN (ch:=[e]) (by rw[ho];exact m) λb hb=>by rw[mem_singleton.mp hb];exact fe
  have e2:({L with heap:=h'}:Shared)={s with heap:=h'}:=by rw[θ]
  rw[e2] at ο ⊢;rw[υ,τ] at x;exact h h' _ ο ⟨x,fe,λt ξ z=>by cases z;exact(I1.fpOk (le_refl _) (I1.hok.fresh (le_refl _))).n⟩
 unfold noteFrame;simp only[hf];cases T with
 | none=>
   have h1:vs[1]? =some .none:=hT;refine wpAny_bind (wpAny_field he hd h1 ?_);rw[if_neg (by decide)];exact fin s ζ vs _ _ I rfl rfl he ε Y hd hsz
 | some p=>
   obtain⟨t,ξ⟩:=p;obtain⟨h1,β,χ,ts,α,Z,ν⟩:=hT;refine wpAny_bind (wpAny_field he hd h1 ?_);rw[if_pos (show(Value.ref t != Value.none)=true from by simp)];refine wpAny_bind (wpAny_field α Z ν ?_);by_cases hz:(ξ == rawInt X.env.locals)=true
   ·rw[if_pos hz];have η:=eq_of_beq hz;subst η;exact wpAny_pure (h s.heap t I ⟨⟨ζ,vs,he,ε,Y,hd,hsz,h1,β,χ,ts,α,Z,ν⟩,fe,ft⟩)
   ·rw[if_neg hz];refine wpAny_bind (wpAny_setField α Z (Array.getElem?_eq_some_iff.mp ν).1 ?_);have oth:∀c,c≠t->(s.heap.update t (Obj.mapFields (·.setIfInBounds 3 Value.none))).get? c=s.heap.get? c:=λc ε=>Heap.get?_update_other _ _ (Ne.symm ε)
    have ψ:Mv [t] (frs X.stack) s.heap (s.heap.update t (Obj.mapFields (·.setIfInBounds 3 Value.none))):=
     ⟨λb o n _ q=>(oth b (λz=>n (by rw[z];exact mem_singleton.mpr rfl))).trans q,λb o n _ q=>⟨o.slots,(oth b (λz=>n (by rw[z];exact mem_singleton.mpr rfl))).trans q⟩⟩
    have I1:=I.mvN ψ λb hb=>by rw[mem_singleton.mp hb];exact ft t ξ rfl
    exact fin _ ζ vs _ _ I1 (Heap.size_after_update ..) rfl ((oth e (Ne.symm β)).trans he) ε Y hd hsz
theorem KG {M:Model} {A:Around} {E:Value->Shared->Prop} {e t:Addr} {C:Value} {dx:Option Addr} {G:Value} {fr:Option Addr} {Q:Unit->Shared->Prop} (I:Inv X pins σ H s) (f:Fly X pins H e C dx (some (t,G)) s.heap)
  (h:∀h',Inv X pins σ H {s with heap:=h'}->Fly X pins H e C dx (some (t,fr.elim .none λf=>rawInt f)) h'->Q () {s with heap:=h'}):wpAny M A (setFlight (.ref e) fr) Q E s:=by
 refine G6 f.at_ λh' k x=>h h' (I.mvN (ch:=[t]) ⟨λb o n _ q=>k b o (λz=>n (by rw[z];exact mem_singleton.mpr rfl)) q,λb o n _ q=>⟨o.slots,k b o (λz=>n (by rw[z];exact mem_singleton.mpr rfl)) q⟩⟩ λb hb=>by rw[mem_singleton.mp hb];exact f.ft t G rfl) ⟨x,f.fe,λt' L z=>by cases z;exact f.ft t G rfl⟩
end
noncomputable abbrev XW:=St->XK
def XE (X:Cx) (W:XW) (e:Value) (s:Shared):Prop:=∃pins x C dx T σ H,e= .ref x/\Inv X pins σ H s/\Fly X pins H x C dx T s.heap/\W σ C dx H
def Thr (X:Cx) (W:XW):Prop:=∀e s,XE X W e s->X.xe e s
noncomputable abbrev Cx.thr (X:Cx) (W:XW):Cx:=X.wish (XE X W)
noncomputable abbrev W0:XW:=λ_ _ _ _=>False
section
variable {X:Cx} {W:XW} {pins:List (Addr×Obj)} {σ:St} {H:Hp} {s:Shared}
theorem Fly.wish {E:Value->Shared->Prop} {e:Addr} {C:Value} {dx:Option Addr} {T:Option (Addr×Value)} {h:Heap} (f:Fly (X.wish E) pins H e C dx T h):Fly X pins H e C dx T h:=⟨f.at_,f.fe,f.ft⟩
theorem fN:Thr (X.thr W) W:=λe s ⟨pins,x,C,dx,T,σ,H,he,I,f,w⟩=>⟨pins,x,C,dx,T,σ,H,he,I.unwish,f.wish,w⟩
theorem thr0:Thr X W0:=λe s ⟨pins,x,C,dx,T,σ,H,he,I,f,w⟩=>w.elim
theorem C8 (ow:Own X):PassesOwn (model X.prog X.w) X.A X.env (XE X W):=by
 intro e s' ⟨pins,x,C,dx,T,σ,H,he,I,f,w⟩;subst he;unfold notedBy;refine Gh I ow f λh' t β L=>?_;unfold cameBackBy;obtain⟨⟨η,vs,Z,ζ,ε,Y,δ,O,γ⟩,fe,ft⟩:=id L;refine wpAny_bind (wpAny_field Z Y O ?_);rw[if_neg (by simp)];refine KG β L λh2 α G=>?_;rw[ow.2] at G;exact⟨pins,x,C,dx,_,σ,H,rfl,α,G,w⟩
theorem oG (ow:Own X):PassesOwn (model X.prog X.w) X.A X.env (X.thr W).xe:=C8 ow
theorem PSs.thr {st:List Stmt} {t:TS} (h:PSs (X.thr W) st t) (k:Thr X W):PSs X st t:=λpins s σ H D I hw=>
 wpAny_mono (h pins s σ H D (I.wish _) hw) (λ_ _ q=>q.unwish) k
end
noncomputable def CX1 (P:Program) (w:World):CXT:=λouter H s E e s'=>∃x C dx t H',e= .ref x/\s'.os=s.os/\AllBare s'.gens/\Un (frs outer) [] H H' s.heap s'.heap/\HOk P w H' s'.heap/\
 HZ s'.heap x C dx (some (t,.none))/\s.heap.get? x=none/\s.heap.get? t=none/\H' x=none/\H' t=none/\E C dx H'
section
variable {P:Program} {w:World} {K:PySem.W.Frag} {mg:Str->Option Value} {base:Heap}
theorem BV {N:List Str} {G:Str} {scope:Scope} {f:Addr} {O:Value} {A:Around} {outer:List Env} {s:Shared} {H:Hp} {E:XK}:
  Thr (cxOf (CX1 P w) P w K mg base N G scope f O A outer s H E) λ_=>E:=by
 intro e s' ⟨pins,x,C,dx,T,σ,H',he,I,α,Y⟩;subst he;have own:Own (cxOf (CX1 P w) P w K mg base N G scope f O A outer s H E):=⟨rfl,rfl⟩;show wpAny _ _ (leaving _ _) _ _ _;unfold leaving;refine wpAny_bind (Gh I own α λh1 t β Z=>?_);refine KG (fr:=none) β Z λh2 I2 L=>?_;have fx:=L.fe;have ft:=L.ft t _ rfl;have no:∀b:Addr,(b∈([]:List Addr)∨s.heap.get? b=none)->s.heap.get? b=none:=λb z=>z.elim (λq=>absurd q (by simp)) id;exact⟨x,C,dx,t,H',rfl,I2.os,I2.bare,I2.base,I2.hok,L.at_,no x fx.2.2.2.1,no t ft.2.2.2.1,fx.1,ft.1,Y⟩
theorem Fun.okX {x G:Str} {st:Stmt} {f:Addr} {fd:FuncData} {N ps:List Str} {k:Nat} {sp:Sp} (F:Fun K x G st f fd) (S:aq N ps (ah st)) (len:∀vs H Q E,sp vs H Q E->vs.length=ps.length)
  (O:∀(L:Value) (A:Around) (outer:List Env) (s:Shared) (H:Hp) (vs:List V) (Q:VK) (E:XK),Room k (A.deeper (envOfC G (ah st) s.heap.objs.size f L))->sp vs H Q E->
   ∃t,PSs ((cxOf (CX1 P w) P w K mg base N G (ah st) f L A outer s H E).thr λ_=>E) (eT st) t/\t {nx:=λ_ H'=>Q .non H',rt:=Q} (start N vs) H):FnOk P w K mg base (CX1 P w) (k + 1) f fd ps sp:=by
 obtain⟨ε,od,kV,γ,δ,an,L,ct,α,rfl,lk,Z⟩:=F.ex;refine MF lk Z S len λA outer s H vs Q E β Y=>?_;obtain⟨t,h,q⟩:=O L A outer s H vs Q E β Y;exact⟨t,h.thr BV,q⟩
end
section
variable {X:Cx} {W:XW} {pins:List (Addr×Obj)} {σ:St} {H:Hp} {s s':Shared}
theorem Inv.afterX {e:Value} (I:Inv X pins σ H s) (hx:Thr X W) (h:CX1 X.prog X.w X.stack H s (W σ) e s'):X.xe e s':=by
 obtain⟨x,C,dx,t,H',rfl,os,bare,un,hok,ea,G,L,nx,O,w⟩:=h;refine hx _ _ ⟨pins,x,C,dx,_,σ,H',rfl,I.call' (ch:=[]) os un hok bare (λb z=>absurd z (by simp)),⟨ea,I.fpN G nx,λt' Y z=>?_⟩,w⟩;cases z;exact I.fpN L O
variable {k:Nat} {f C:Addr} {fd:FuncData} {ps:List Str} {sp:Sp} {dvs:List V} {ds:List Value} {x m:Str} {p pos apos:Pos} {e o:Expr} {es:List Expr} {ta:TE} {t:TA}
theorem FK {Q:VK} {us:List Value} {vs:List V} (F:FnOk X.prog X.w X.K X.mg X.base (CX1 X.prog X.w) k f fd ps sp) (O:Room k X.A) (hb:nQ X.K fd ps ds) (hd:Vals dvs ds) (hx:Thr X W)
  (I:Inv X pins σ H s) (r:Vals vs us) (h:sp (vs++dvs) H Q (W σ)):wpAny (model X.prog X.w) X.A (call (.ref f) us) (EP X pins σ Q) X.xe s:=by
 have L:Vals (vs++dvs) (us++ds):=r.append hd;have hl:(us++ds).length=ps.length:=by rw[<-L.length];exact F.len _ _ _ _ h
 refine wpAny_call (codeAny_mono (F.run X.A X.stack s H ⟨us,[]⟩ (us++ds) (vs++dvs) Q (W σ) O I.env0 (hb s us I.kIn hl) L h) λr s' G=>?_);cases r with
 | error e=>exact I.afterX hx G
 | ok Y=>
   cases Y with
   | ret u=>exact I.after G
   | next=>exact False.elim G
   | brk=>exact False.elim G
   | cont=>exact False.elim G
noncomputable def E5 (sp:Sp) (dvs:List V) (W:XW) (t:TA):TE:=fun σ H Q=>t σ H λvs H1=>sp (vs++dvs) H1 Q (W σ)
theorem LU {σ:St} {H:Hp} {Q:VK} {sp:Sp} {W:XW} {t:TA} (h:t σ H λvs H1=>sp vs H1 Q (W σ)):E5 sp [] W t σ H Q:=by
 unfold E5;simpa using h
theorem xC (F:FnOk X.prog X.w X.K X.mg X.base (CX1 X.prog X.w) k f fd ps sp) (O:Room k X.A) (Y:Gl X x) (hm:X.mg x=some (.ref f)) (hk:PySem.W.keepIn X.K (.ref f)=true) (hb:nQ X.K fd ps ds) (hd:Vals dvs ds) (hx:Thr X W)
  (ha:PA X (e::es) t) (L:(x == ("__debug__":Str))=false:=by decide) (he:starEach (e::es) X.env=(false,eval e X.env)::starEach es X.env:=by rfl) (G:(backTo pos (starEach es X.env)).any (·.1)=false:=by rfl):
  PE X (.Call (.Name x p) (e::es) [] pos) (E5 sp dvs W t):=by
 intro pins s σ H Q I h;refine wpAny_Call_Name_kw (rf I Y hm ?_ L);refine PySem.W.callWith_K (h₀:=X.base) I.ok.mod.kin hk (thn (ha pos pins s σ H _ I h) λus Z ⟨vs,H1,I1,r,q⟩=>⟨I1.kIn,?_⟩) he G;exact FK F O hb hd hx I1 r q
noncomputable def Kg (C:Addr) (m:Str) (sp:Sp) (dvs:List V) (W:XW) (ta:TE) (t:TA):TE:=fun σ H Q=>ta σ H λx H1=>∃a dx fs,x= .ref a/\H1 a=some (.ins C dx fs)/\fs.lookup m=none/\
 t σ H1 λvs H2=>sp (x::(vs++dvs)) H2 Q (W σ)
theorem fP {pl:Sem Bool} (he:PE X o ta) (c:Cls X.K C) (hm:Meth X.K C m f) (F:FnOk X.prog X.w X.K X.mg X.base (CX1 X.prog X.w) k f fd ps sp) (γ:Room k X.A) (hb:nQ X.K fd ps ds) (hd:Vals dvs ds) (hx:Thr X W) (ha:PA X (e::es) t)
  (G:starEach (e::es) X.env=(false,eval e X.env)::starEach es X.env:=by rfl) (L:(backTo pos (starEach es X.env)).any (·.1)=false:=by rfl)
  (ht:eval (.Call (.Attribute o m apos) (e::es) [] pos) X.env=(do
   let O <-eval o X.env
   standAt apos.atName
   let (f,first) <-holding [O] (getMethod O m pl)
   callWith pos f first (backTo pos (starEach (e::es) X.env)) (backToKw pos (keywordEach [] X.env))):=by rfl):
  PE X (.Call (.Attribute o m apos) (e::es) [] pos) (Kg C m sp dvs W ta t):=by
 intro pins s σ H Q I h;refine PySem.W.methodCall_KW (pl:=pl) (thn (he pins s σ H _ I h) λu Z ⟨x,H1,Y,α,a,dx,fs,ex,ea,l,q⟩=>?_) ht;subst ex;obtain rfl:u=Value.ref a:=α;refine rj Y ea c hm l ?_;refine PySem.W.callWith_K (first:=[.ref a]) (h₀:=X.base) I.ok.mod.kin hm.kp (thn (ha pos pins Z σ H1 _ Y q) λus δ ⟨vs,H2,I2,r,β⟩=>⟨I2.kIn,?_⟩) G L;exact FK (us:= .ref a::us) (vs:= .ref a::vs) F γ hb hd hx I2 (.cons rfl r) β
end
structure XCls (h:Heap) (C:Addr) (bmB:List Value) (newId:String):Prop where
 obj:∃bm N nm q bs hdct sn sub ab col dd k0 k1 k2 k3 k5 mN,h.get? C=some (excClassObj nm q C N bs bm hdct sn sub ab col dd k0 k1 k2 k3 k5 newId)/\h.Ns N mN/\mN "__init__"=none/\OwnTail h bmB bm
theorem K5 {K:PySem.W.Frag} {h:Heap} {C:Addr} {bmB:List Value} {newId:String} (X:K.In h) (q:PySem.W.excIn K C bmB newId=true):XCls h C bmB newId:=by
 refine⟨?_⟩;unfold PySem.W.excIn at q;split at q
 next dd δ Z ho=>
  split at q
  next ε bm k0 k1 k2 k3 n k5 hm hs=>
   simp only[Bool.and_eq_true,beq_iff_eq,Bool.not_eq_true'] at q;obtain⟨⟨⟨⟨⟨γ,β⟩,G⟩,ht⟩,hok⟩,Y⟩:=q;subst γ β;cases δ with
   | mk nm bs L ns α hd sn sub ab col del=>
   have hm:L=_:=hm;have G:del=false:=G;subst hm G;have O:Z=#[k0,k1,k2,k3,some (.builtin n),k5]:=by rw[<-hs]
   subst O;exact⟨bm,ns,nm,α,bs,hd,sn,sub,ab,col,dd,k0,k1,k2,k3,k5,_,X _ _ ho,.of_isNs (PySem.W.isNs_of_in X hok),PySem.W.nsMap_none_of_in X hok Y,PySem.W.tail_of_in X ht⟩
  next=>cases q
 next=>cases q
section
variable {X:Cx} {W:XW} {C:Addr} {x:Str} {np cpos pos:Pos} {e:Expr} {es:List Expr} {t:TA} {B newId initId:String} {bmB:List Value}
noncomputable def Kf (C:Addr) (W:XW) (t:TA):TS:=λ_ σ H=>t σ H λvs H1=>vs.length<=sizeLine/\W σ (.ref C) none H1
theorem Mn {pins:List (Addr×Obj)} {σ:St} {H:Hp} {s:Shared} {h':Heap} {a:Addr} {vs:List Value} (I:Inv X pins σ H s) (m:Heap.MadeExcOf s.heap h' a (.ref C) vs):
  Inv X pins σ H {s with heap:=h'}/\Fly X pins H a (.ref C) none none h':=by
 obtain⟨tt,G,O,L⟩:=m.there;exact⟨I.mvN (ch:=[]) ⟨λb o _ _ e=>m.keeps b o e,λb o _ _ e=>⟨o.slots,m.keeps b o e⟩⟩ λb z=>absurd z (by simp),⟨⟨_,_,G,rfl,rfl,rfl,by simp,by simp⟩,I.fpN m.new (I.hok.none_ m.new),λt Y z=>by cases z⟩⟩
theorem kR (FB:ExcBaseFacts B newId initId bmB) (q:PySem.W.excIn X.K C bmB newId=true) (hx:Thr X W) (hc:X.calm=true) (α:Gl X x) (hm:X.mg x=some (.ref C)) (ha:PA X (e::es) t)
  (Y:(x == ("__debug__":Str))=false:=by decide) (he:starEach (e::es) X.env=(false,eval e X.env)::starEach es X.env:=by rfl) (L:(backTo cpos (starEach es X.env)).any (·.1)=false:=by rfl):
  PS X (.Raise (some (.Call (.Name x np) (e::es) [] cpos)) none pos) (Kf C W t):=by
 intro pins s σ H D I h;obtain⟨tl,N,nm,Z,bs,hdct,sn,sub,ab,col,dd,k0,k1,k2,k3,k5,mN,γ,β,O,T⟩:=(K5 I.ok.mod.kin q).obj
 refine wpAny_Raise_call_subT (C:=C) (nm:=nm) (q:=Z) (N:=N) (bs:=bs) (bm:=tl) (hdct:=hdct) (sn:=sn) (sub:=sub) (ab:=ab) (col:=col) (dd:=dd) (k0:=k0) (k1:=k1) (k2:=k2) (k3:=k3) (k5:=k5)
  FB (mN:=mN) (T.hasType FB.hasBase) (I.ok.hd hc) (by rw[he];show(false||(backTo cpos (starEach es X.env)).any (·.1))=false;rw[L];rfl) O (rf I α hm ⟨rfl,?_⟩ Y)
 have G:=ha cpos pins s σ H _ I h;rw[he] at G ⊢;refine Calls.evalArgs_plain (wpAny_mono G (λus ζ ⟨vs,H1,I1,r,z,w⟩=>⟨rfl,?_,I1.bk _ _ γ,β.keeps I1.bk,T.keeps I1.bk,λh' a m=>?_⟩) λ_ _ y=>y)
 ·show us.length<=_;rw[<-r.length];exact z
 ·obtain⟨ε,δ⟩:=Mn I1 m;exact hx _ _ ⟨pins,a,.ref C,none,none,σ,H1,rfl,ε,δ,w⟩
end
structure MY (K:PySem.W.Frag) (G:Addr):Prop where
 ty:PySem.W.typeIn K (.ref G)=some (.type "type")
 cls:PySem.W.isClsIn K G=true
 base:PySem.W.mroIn K G (.type "BaseException")=some true
noncomputable def ExcO (x:Addr) (C:Value) (dx:Option Addr):HO:= .ext λh=>∃G vs,h.get? x=some G/\G.cls=C/\G.dict=dx/\G.data= .fields vs
noncomputable abbrev Cx.pin (X:Cx) (pins:List (Addr×Obj)):Cx:={X with pn:=X.pn++pins}
noncomputable abbrev Cx.mark (X:Cx) (pins:List (Addr×Obj)) (e:Value):Cx:={X with A:=X.A.mark (some e),calm:=false,pn:=X.pn++pins,xe:=λ_ _=>False}
noncomputable def Ends.less (D:Ends) (i:Nat):Ends:={nx:=fun σ H=>D.nx (σ.set i none) H,rt:=D.rt,bk:=fun σ H=>D.bk (σ.set i none) H,ct:=fun σ H=>D.ct (σ.set i none) H}
noncomputable def WTry (K:PySem.W.Frag) (G:Addr) (i:Nat) (L:XW) (ts:TS) (D:Ends):XW:=fun σ C dx H=>∃c,C= .ref c/\((PySem.W.mroIn K c (.ref G)=some true/\∀x,H x=none->ts (D.less i) (σ.set i (some (.ref x))) (upd H x (ExcO x C dx)))∨
 (PySem.W.mroIn K c (.ref G)=some false/\L σ C dx H))
structure XIsi (K:PySem.W.Frag) (D:Addr):Prop where
 cls:PySem.W.isClsIn K D=true
 ga:PySem.W.findIn K (.ref D) "__getattribute__"=some (some (.builtin "BaseException.__getattribute__"))
 gr:PySem.W.findIn K (.ref D) "__getattr__"=some none
 ha:PySem.W.findIn K (.ref D) "__class__"=some (some (.builtin "object.__class__"))
 hn:PySem.W.specialIn K (.builtin "object.__class__") "__get__"=some (some (.builtin "getset_descriptor.__get__"))
 tk:PySem.W.takesIn K (.builtin "object.__class__")=some true
 hm:PySem.W.mroIn K D (.type "object")=some true
 base:PySem.W.mroIn K D (.type "BaseException")=some true
noncomputable def dV:V->Value
 | .ref a=> .ref a
 | .ty n=> .type n
 | _=> .none
section
variable {σ:St} {H:Hp} {Q:VK} {D:Ends} {W:XW} {t:TA}
theorem LG {C:Addr} (h:t σ H λvs H1=>vs.length<=sizeLine/\W σ (.ref C) none H1):Kf C W t D σ H:=h
end
theorem xB {X:Cx} {K:PySem.W.Frag} {es:List Expr} {k:Nat} {t:TGs} {n:Nat} {pos:Pos} (h:X.K=K) (hc:X.calm=true) (ht:PGs X es t)
  (hn:(assignEach es X.env).length=n:=by rfl) (G:(assignEach es X.env).findIdx? (·.1)=none:=by rfl):PG X (.Tuple es k pos) (gTup K n t):=by subst h;exact yN hc ht hn G
noncomputable def za (kvs:List (Key×V)):List V:=kvs.map λG=>kV G.1
noncomputable def Ks:List V->Hp->VK->Prop:=λxs H Q=>∃p kvs,xs=[.ref p]/\H p=some (.dK kvs)/\∀l,H l=none->Q (.ref l) (upd H l (.lst (za kvs)))
theorem FO {k:Key} {v:Value} (h:zc k v=true):RelV (kV k) v:=by
 rcases de h with ⟨i,t,rfl,rfl⟩ | ⟨x,t,rfl,rfl⟩
 ·exact⟨t,rfl⟩
 ·exact⟨t,rfl⟩
theorem pB {α β:Type} {F:α->β->Prop}:∀{l:List α} {m:List β},l.length=m.length->(∀(i:Nat) (a:α) (b:β),l[i]? =some a->m[i]? =some b->F a b)->Paired F l m
 | [],[],_,_=> .nil
 | a::l,b::m,hl,h=> .cons (h 0 a b rfl rfl) (pB (by simpa using hl) λi x y L G=>h (i + 1) x y (by simpa using L) (by simpa using G))
 | [],_::_,hl,_=>by simp at hl
 | _::_,[],hl,_=>by simp at hl
section
variable {X:Cx}
theorem Em (hc:X.calm=true):nP X (.type "list") Ks:=by
 intro pins s σ H xs us Q I r h;obtain⟨p,kvs,rfl,ζ,q⟩:=h;obtain⟨u,rfl,γ⟩:=tR r;cases γ;obtain⟨hz,lo,vs,rel,dd⟩:=MG I.hok ζ;obtain⟨ep,Z⟩:=dd.dictAt;refine PySem.W.kdl_call (PySem.W.kdl_dict (knd:=c9 X.prog X.w) (kvs:=vs) (ep:=ep) lo) (I.ok.hd hc) Z (by rw[<-rel.length];exact hz) λh' tk L θ hk η G=>?_
 have δ:Vals (za kvs) L.toList:=by
  refine pB (by unfold za;rw[length_map,rel.length,Array.length_toList];exact G.1.symm) λi a b ha hb=>?_;unfold za at ha;rw[getElem?_map] at ha;obtain⟨α,O,rfl⟩:=map_eq_some_iff.mp ha;rw[Array.getElem?_toList] at hb;obtain⟨k,x,ε,Y⟩:=G.2 i b hb
  have e:α.1=k:=by
   have β:(kvs.map (·.1))[i]? =some α.1:=by rw[getElem?_map,O];rfl
   rw[rel.keys,getElem?_map,ε] at β;exact(Option.some.inj β).symm
  rw[e];exact FO Y
 exact⟨.ref s.heap.objs.size,_,I.laid (t':=tk) hk (le_refl _) (show gG X.prog X.w _ h' _ (.lst (za kvs)) from⟨by unfold za;rw[length_map];exact hz,L.toList,θ,δ,by simpa using η⟩),rfl,q _ (I.hok.fresh (le_refl _))⟩
end
section
variable {σ:St} {H:Hp} {Q:VK} {D:Ends} {te ty tv td:TE} {x y v:V}
theorem LJ {p:Addr} {kvs:List (Key×V)} (e:H p=some (.dK kvs)) (h:∀q H2,H q=none->Same H H2->H2 q=some (.lst (za kvs))->Q (.ref q) H2):Ks [.ref p] H Q:=⟨p,kvs,rfl,e,ig h⟩
def MX (y:V) (Q:VK) (x:V) (H:Hp):Prop:=∃a o,x= .ref a/\DGet H a y o/\Q (.bl o.isSome) H
theorem Qj (h:ty σ H λy H1=>td σ H1 (MX y Q)):tDIn ty td σ H Q:=h
theorem N8 {p:Addr} {kvs:List (Key×V)} {z:Int} (e:H p=some (.dK kvs)) (h:Q (.bl (valV kvs (Sum.inl z)).isSome) H):MX (.int z) Q (.ref p) H:=⟨p,_,rfl,DGet.k (k:=Sum.inl z) e,h⟩
theorem Kn {p:Addr} {kvs:List (Key×V)} {z:Str} (e:H p=some (.dK kvs)) (h:Q (.bl (valV kvs (Sum.inr z)).isSome) H):MX (.str z) Q (.ref p) H:=⟨p,_,rfl,DGet.k (k:=Sum.inr z) e,h⟩
def KU (y:V) (Q:VK) (x:V) (H:Hp):Prop:=∃a o,x= .ref a/\DGet H a y o/\Q (.bl (!o.isSome)) H
theorem N6 (h:ty σ H λy H1=>td σ H1 (KU y Q)):E3 ty td σ H Q:=h
theorem LS {p:Addr} {kvs:List (Key×V)} {z:Str} (e:H p=some (.dK kvs)) (h:Q (.bl (!(valV kvs (Sum.inr z)).isSome)) H):KU (.str z) Q (.ref p) H:=⟨p,_,rfl,DGet.k (k:=Sum.inr z) e,h⟩
theorem oy {l b:Addr} {xs zs:List V} (e:H l=some (.lst xs)) (G:H b=some (.lst zs)) (hz:xs.length + zs.length<=sizeLine) (h:∀p H2,H p=none->Same H H2->H2 p=some (.lst (xs++zs))->Q (.ref p) H2):rCat (.ref l) (.ref b) H Q:=⟨l,b,xs,zs,rfl,rfl,e,G,hz,ig h⟩
end
theorem BW:∀{ns:List Int} {us:List Value},Vals (ns.map V.int) us->IntsAre us ns
 | [],us,r=>by cases r;exact .nil
 | n::ns,us,r=>by
   rw[map_cons] at r;cases r with
   | cons h t=>obtain⟨t',rfl⟩:=h;exact .cons _ _ (BW t)
theorem GM:∀{ns:List Int} {us:List Value},IntsAre us ns->Vals (ns.map V.int) us:=tQ
section
variable {prog:Program} {w:World} {A:Around} {E:Value->Shared->Prop} {s:Shared} {d:Addr} {vs:List (Key×Value)} {ep:Nat}
theorem C6:plainId "list.__iadd__"=true:=by decide +kernel
theorem zP {Q:List Value->Shared->Prop} (β:A.handled=none) (lo:(d == sysModules)=false) (L:s.heap.DictAt (c9 prog w) d vs ep) (hn:vs.length<=sizeLine)
  (h:∀h' tk (Z:Array Value),(∀b o,s.heap.get? b=some o->h'.get? b=some o)->s.heap.objs.size < h'.objs.size->ItemsOf (λi v=>∃k x,vs[i]? =some (k,x)/\(c9 prog w).is k v=true) Z vs.length->Q Z.toList {s with heap:=h',toks:=tk}):
  wpAny (model prog w) A (collect (.ref d)) Q E s:=by
 unfold collect;refine wpAny_bind (wpAny_runValue (codeAny_builtin entry_proto_collect' ?_));show wpAny _ _ (do again (.builtin "list.__iadd__" ⟨[<-newList [],.ref d],[]⟩)) _ _ s;refine wpAny_bind (wpAny_newList (wpAny_pure ⟨Code.quiet_builtin _ (by decide +kernel),codeAny_builtin entry_list_iadd' ?_⟩));rw[Around.under_plainId C6 _];show wpAny _ _ (Builtin.List.listExtendWith (.ref s.heap.objs.size) (.ref d) (.ref s.heap.objs.size)) _ _ {s with heap:=s.heap.push (seqObj "list" #[] 0)};have G:=L.lt_size
 refine PySem.W.kdl_extend (R:=λr s'=>match r with
   | Except.ok (Flow.ret v)=>wpAny (model prog w) A (match v with
     | Value.ref a=>do
       let o <-load a
       match o.data with
       | .seq xs _=>pure xs.toList
       | _=>unsupported "internal:collect"
     | _=>unsupported "internal:collect") Q E s'
   | Except.ok _=>False
   | Except.error e=>E e s') (s:={s with heap:=s.heap.push (seqObj "list" #[] 0)}) (PySem.W.kdl_dict (knd:=c9 prog w) (kvs:=vs) (ep:=ep) lo) β (L.push _) s.heap.objs.size (ne_of_gt G) (ne_of_gt G) _ 0 (Heap.get?_push_size _ rfl) (λh' tk Y γ hk α O=>?_) hn
 show wpAny (model prog w) A (do
   let o <-load s.heap.objs.size
   match o.data with
   | .seq xs _=>pure xs.toList
   | _=>unsupported "internal:collect") Q E {s with heap:=h',toks:=tk}
 refine wpAny_bind (wpAny_load α ?_);exact wpAny_pure (h h' tk Y (λb o e=>hk b o (ne_of_lt (Heap.lt_size e)) (Heap.get?_push_of_some _ e)) (Heap.lt_size α) O)
theorem Ak {Q:Value->Shared->Prop} {ks:List Int} (ξ:A.handled=none) (lo:(d == sysModules)=false) (ζ:s.heap.DictAt (c9 prog w) d vs ep) (hn:vs.length<=sizeLine) (hk:vs.map (·.1)=ks.map Sum.inl) (θ:vs.length < 64)
  (h:∀h' tk a (out:Array Value) (e:Nat) (L:List Int),(∀b o,s.heap.get? b=some o->h'.get? b=some o)->s.heap.objs.size<=a->h'.get? a=some (seqObj "list" out e)->IntsAre out.toList L->L.Perm ks->L.Pairwise (·<=·)->Q (.ref a) {s with heap:=h',toks:=tk}):
  wpAny (model prog w) A (call (.builtin "sorted") [.ref d]) Q E s:=by
 refine Calls.call_function_entry kind_sorted plain_sorted entry_sorted (args_sorted1 _) ?_;unfold Builtin.«sorted»;refine wpAny_bind (m:=checkCount "sorted" 1 1 _) (wpAny_pure ?_);refine wpAny_bind (zP (by exact ξ) lo ζ hn λh' tk G δ hsz O=>?_)
 have β:(ks.map V.int).length=G.toList.length:=by
  have Z:=congrArg List.length hk;rw[length_map,length_map] at Z;have π:G.toList.length=vs.length:=by rw[Array.length_toList];exact O.1
  rw[length_map];omega
 have hI:IntsAre G.toList ks:=by
  refine BW (pB β λi a b ha hb=>?_);rw[getElem?_map] at ha;obtain⟨k,ε,rfl⟩:=map_eq_some_iff.mp ha;rw[Array.getElem?_toList] at hb;obtain⟨ι,x,ν,γ⟩:=O.2 i b hb;have Z:(vs.map (·.1))[i]? =some ι:=by rw[getElem?_map,ν];rfl
  rw[hk,getElem?_map,ε] at Z;have Z:=Option.some.inj Z;subst Z;exact FO (show zc (Sum.inl k) b=true from γ)
 have η:G.toList.length < 64:=by rw[Array.length_toList,O.1];exact θ
 refine wpAny_bind (wpAny_newList ?_);have Y:(h'.push (seqObj "list" G.toList.toArray 0)).get? h'.objs.size=some (seqObj "list" G.toList.toArray 0):=Heap.get?_push_size _ rfl;show wpAny _ _ _ _ _ {s with heap:=h'.push (seqObj "list" G.toList.toArray 0),toks:=tk};refine wpAny_bind (wpAny_holding (wpAny_call_entry slot_list_sort ⟨_,Y,rfl⟩ entry_list_sort (list_sort_tree Y hI η λout L a1 a2 ο=>⟨_,rfl,?_⟩) (args_list_sort _)));obtain⟨e,he⟩:=sortedHeap_at (out:=out) Y;refine wpAny_pure ⟨_,rfl,h _ tk h'.objs.size out e L (λb o hb=>?_) ?_ he a1 a2 ο⟩
 ·have α:=Heap.lt_size (δ b o hb);rw[sortedHeap_old (ne_of_lt α) (by rw[size_push'];exact Nat.lt_succ_of_lt α)];exact Heap.get?_push_of_some _ (δ b o hb)
 ·exact le_of_lt hsz
end
noncomputable def Kr:List V->Hp->VK->Prop:=λxs H Q=>∃(p:Addr) (ks:List Int) (kvs:List (Key×V)),xs=[.ref p]/\H p=some (.dK kvs)/\kvs.map (·.1)=ks.map Sum.inl/\kvs.length < 64/\
 ∀(l:Addr) (ns:List Int),H l=none->ns.Perm ks->ns.Pairwise (·<=·)->Q (.ref l) (upd H l (.lst (ns.map V.int)))
theorem El {X:Cx} (hc:X.calm=true):nP X (.builtin "sorted") Kr:=by
 intro pins s σ H xs us Q I r h;obtain⟨p,ks,kvs,rfl,δ,hk,Z,q⟩:=h;obtain⟨u,rfl,β⟩:=tR r;cases β;obtain⟨hz,lo,vs,rel,dd⟩:=MG I.hok δ;obtain⟨ep,Y⟩:=dd.dictAt;refine Ak (ks:=ks) (I.ok.hd hc) lo Y (by rw[<-rel.length];exact hz) (by rw[<-rel.keys];exact hk) (by rw[<-rel.length];exact Z) λh' tk a out e G kp ha he hi L O=>?_;have γ:=GM hi
 have hl:(G.map V.int).length<=sizeLine:=by
  have α:=congrArg List.length hk;rw[length_map,length_map] at α;rw[length_map,L.length_eq,<-α];exact hz
 refine⟨.ref a,_,I.laid (t':=tk) kp ha (show gG X.prog X.w _ h' _ (.lst (G.map V.int)) from⟨hl,out.toList,e,γ,by simpa using he⟩),rfl,q _ G (I.hok.fresh ha) L O⟩
section
variable {H:Hp} {Q:VK}
theorem LF {p:Addr} {kvs:List (Key×V)} {ks:List Int} (e:H p=some (.dK kvs)) (hk:kvs.map (·.1)=ks.map Sum.inl) (G:kvs.length < 64) (h:∀(l:Addr) (ns:List Int) (H2:Hp),H l=none->Same H H2->H2 l=some (.lst (ns.map V.int))->ns.Perm ks->ns.Pairwise (·<=·)->Q (.ref l) H2):Kr [.ref p] H Q:=
 ⟨p,ks,kvs,rfl,e,hk,G,λl ns hl L hw=>h l ns _ hl (bh hl) ay L hw⟩
end
open AutoSeq1 (wpAny_loadPart')
section
variable {prog:Program} {w:World} {A:Around} {E:Value->Shared->Prop} {s:Shared}
theorem qK {L t:Addr} {i:Nat} {items:Array Value} {x:Value} {Q:Value->Shared->Prop} (G:s.heap.IsTupleIter L t i) (ht:s.heap.IsTuple t items) (hx:items[i]? =some x)
  (α:∀h',h'.IsTupleIter L t (i + 1)->Heap.SameBut L s.heap h'->Q x {s with heap:=h'}):
  wpAny (model prog w) A (Builtin.SmallTypes.nextOf (.ref L)) Q E s:=by
 obtain⟨o,ho,Z,hd⟩:=id G;obtain⟨β,O,_,γ,Y⟩:=ht;unfold Builtin.SmallTypes.nextOf
 refine wpAny_bind (wpAny_callSpecial?_slot (name:=Str.ofString "__next__") G.typeIs F.slot_tuple_iterator_next
  (wpAny_call_entry F.slot_tuple_iterator_next G.typeIs F.entry_tuple_iterator_next ?_ (F.args_tuple_iterator_next_1 _)))
 show wpAny _ _ (field (.ref L) 0 >>=_) _ _ s;refine wpAny_bind (wpAny_field ho hd (x:= .ref t) rfl ?_);show wpAny _ _ (if (Value.ref t == Value.none)=true then _ else _) _ _ s;rw[if_neg (show ¬((Value.ref t == Value.none)=true) from Bool.false_ne_true)];show wpAny _ _ (field (.ref L) 1 >>=_) _ _ s;refine wpAny_bind (wpAny_field ho hd (x:= .int i 0) rfl ?_);show wpAny _ _ (seqItems? (.ref t) >>=_) _ _ s;refine wpAny_bind (wpAny_seqItems O Y ?_);simp only[Int.toNat_natCast,hx];refine wpAny_bind (wpAny_setField ho hd (by simp) (wpAny_pure ⟨x,rfl,wpAny_pure (α _ ?_ (Heap.SameBut.update ..))⟩))
 exact⟨_,Heap.get?_update_self _ ho (Obj.isFreed_of_fields (Obj.data_mapFields hd _)),(Obj.cls_mapFields ..).trans Z,by
  rw[Obj.data_mapFields hd];simp[rawInt]⟩
theorem sy {L t:Addr} {i:Nat} {items:Array Value} {Q:Value->Shared->Prop} (Z:A.handled=none) (G:s.heap.IsTupleIter L t i) (ht:s.heap.IsTuple t items) (hx:items[i]? =none)
  (α:∀h' e,Heap.ExtBut L s.heap h'->(∃o,h'.get? e=some o/\o.cls= .type "StopIteration")->E (.ref e) {s with heap:=h'}):
  wpAny (model prog w) A (Builtin.SmallTypes.nextOf (.ref L)) Q E s:=by
 obtain⟨o,ho,δ,hd⟩:=id G;obtain⟨β,O,_,γ,Y⟩:=ht;unfold Builtin.SmallTypes.nextOf
 refine wpAny_bind (wpAny_callSpecial?_slot (name:=Str.ofString "__next__") G.typeIs F.slot_tuple_iterator_next
  (wpAny_call_entry F.slot_tuple_iterator_next G.typeIs F.entry_tuple_iterator_next ?_ (F.args_tuple_iterator_next_1 _)))
 show wpAny _ _ (field (.ref L) 0 >>=_) _ _ s;refine wpAny_bind (wpAny_field ho hd (x:= .ref t) rfl ?_);show wpAny _ _ (if (Value.ref t == Value.none)=true then _ else _) _ _ s;rw[if_neg (show ¬((Value.ref t == Value.none)=true) from Bool.false_ne_true)];show wpAny _ _ (field (.ref L) 1 >>=_) _ _ s;refine wpAny_bind (wpAny_field ho hd (x:= .int i 0) rfl ?_);show wpAny _ _ (seqItems? (.ref t) >>=_) _ _ s;refine wpAny_bind (wpAny_seqItems O Y ?_);simp only[Int.toNat_natCast,hx];refine wpAny_bind (wpAny_rule (wpAny_bind (wpAny_setField ho hd (by simp) ?_)));show wpAny _ _ (newExc (.type "StopIteration") [] >>=_) _ _ _;refine wpAny_bind ?_;simp only[newExc,newTuple];refine wpAny_bind (wpAny_newObj_type ?_ (by size_fits));refine wpAny_bind (m:=firstArgMember _ _) (wpAny_of_eq (a:=Value.none) (by first | rfl | (simp only[firstArgMember];rfl)) ?_);refine wpAny_newObj_type ?_ (by size_fits);simp only[raiseNew];refine wpAny_bind (wpAny_handled ?_)
 first | rw[show A.in1.handled=none from Z] | rw[Z]
 refine wpAny_bind (wpAny_pure (wpAny_throw ?_));exact α _ _ (((Heap.SameBut.update ..).extBut.push _).push _) ⟨_,Heap.get?_push_size _ rfl,rfl⟩
end
theorem Draws.tuple {prog:Program} {w:World} {A:Around} (Z:A.handled=none) (G l:Addr) (Y:l≠G) (items:Array Value):
  Draws prog w A G [G,l] items.size (λi v=>items[i]? =some v) (λi h=>h.IsTupleIter G l i/\h.IsTuple l items) where
 live:=λ_ _ st=>let ⟨o,ho,_⟩:=st.1;⟨o,ho⟩
 frame:=λ_ _ _ st hk=>⟨let ⟨o,ho,r⟩:=st.1;⟨o,hk G (by simp) o ho,r⟩,let ⟨o,ho,r⟩:=st.2;⟨o,hk l (by simp) o ho,r⟩⟩
 item:=λi s Q E hi st α=>by
  refine qK st.1 st.2 (x:=items[i]) (by simp[hi]) λh' O L=>?_;exact α _ h' s.toks (by simp[hi]) ⟨O,st.2.extBut L.extBut Y⟩ L
 done:=λs Q E st β=>sy Z st.1 st.2 (by simp) β
theorem nE (l:Addr) (items:Array Value) (n:Nat) (L:Option Addr) (Y:Array (Option Value)):
  Meets (Builtin.«enumerate.__new__» ⟨[.type "enumerate",.ref l],[]⟩) (λ_ R s=>s.heap.get? l=some {cls:= .type "tuple",dict:=L,data:= .seq items n,slots:=Y}/\
   R (.ok (.ret (.ref (s.heap.push {cls:= .type "tuple_iterator",data:= .fields #[.ref l,.int 0 0]}).objs.size)))
     {s with heap:=(s.heap.push {cls:= .type "tuple_iterator",data:= .fields #[.ref l,.int 0 0]}).push {cls:= .type "enumerate",data:= .fields #[.none,.bool false,.ref s.heap.objs.size,rawInt 0,.none,.none]}}):=
 .of_wp λprog w A R s h=>by
  obtain⟨Z,g,d,tk,os⟩:=s;obtain⟨hl,h⟩:=h;have O:=sub_enumerate;have G:Heap.IsTuple (Shared.heap ⟨Z,g,d,tk,os⟩) l items:=⟨_,hl,rfl,n,rfl⟩
  wp_walk using wpAny_loadPart' hl
  refine wpAny_stack_any λst=>wpAny_pure ?_;split
  ·rename_i c _ _ _ _ _;cases(c == Value.type "enumerate")
   ·wp_walk using wpAny_loadPart' hl,wpAny_pyIter_tuple G
    exact⟨_,rfl,h⟩
   ·wp_walk using wpAny_loadPart' hl,wpAny_pyIter_tuple G
    exact⟨_,rfl,h⟩
  ·wp_walk using wpAny_loadPart' hl,wpAny_pyIter_tuple G
   exact⟨_,rfl,h⟩
theorem nM {prog:Program} {w:World} {A:Around} {E:Value->Shared->Prop} {s:Shared} {l:Addr} {items:Array Value} {Q:Value->Shared->Prop} (Y:s.heap.IsTuple l items)
  (h:∀h',IsEnum h' (s.heap.objs.size + 1) s.heap.objs.size 0 .none->h'.IsTupleIter s.heap.objs.size l 0->h'.objs.size=s.heap.objs.size + 2->
   (∀b o,s.heap.get? b=some o->h'.get? b=some o)->Q (.ref (s.heap.objs.size + 1)) {s with heap:=h'}):
  wpAny (model prog w) A (call (.type "enumerate") [.ref l]) Q E s:=by
 obtain⟨⟨c,L,Z,O⟩,hl,G,n,hd⟩:=Y;replace G:c= .type "tuple":=G;replace hd:Z= .seq items n:=hd;subst G hd
 refine callType_new F.called_enumerate (by decide) (F.typeCall_enumerate_1 _) (F.newCall_enumerate_1 _) (λobj=>F.args_object_init_2 obj _) F.entry_enumerate_new
  (nE l items n L O) ⟨hl,?_⟩
 have hz:(s.heap.push {cls:= .type "tuple_iterator",data:= .fields #[.ref l,.int 0 0]}).objs.size=s.heap.objs.size + 1:=Heap.size_push ..
 show _/\_;rw[hz]
 have he:IsEnum ((s.heap.push {cls:= .type "tuple_iterator",data:= .fields #[.ref l,.int 0 0]}).push
   {cls:= .type "enumerate",data:= .fields #[.none,.bool false,.ref s.heap.objs.size,rawInt 0,.none,.none]}) (s.heap.objs.size + 1) s.heap.objs.size 0 .none:=by
  have:=Heap.get?_push_size (s.heap.push {cls:= .type "tuple_iterator",data:= .fields #[.ref l,.int 0 0]})
   (o:={cls:= .type "enumerate",data:= .fields #[.none,.bool false,.ref s.heap.objs.size,rawInt 0,.none,.none]}) rfl
  rw[hz] at this;exact this
 refine⟨⟨_,he,rfl⟩,h _ he ⟨_,Heap.get?_push_of_some _ (Heap.get?_push_size _ rfl),rfl,rfl⟩ (by rw[Heap.size_push,hz]) λb o x=>Heap.get?_push_of_some _ (Heap.get?_push_of_some _ x)⟩
noncomputable def Itet (K:PySem.W.Frag) (a:Addr):It:=
 ⟨λi H=>∃xs x,SqT K H a xs/\xs[i]? =some x,λi H x H'=>∃p v,H p=none/\x= .ref p/\H'=upd H p (.tup [.int i,v])/\∀xs,SqT K H a xs->xs[i]? =some v,λi H=>∃xs,SqT K H a xs/\xs.length=i⟩
theorem Cn {P:Program} {w:World} {K:PySem.W.Frag} {γ:List Expr} {k:Nat} {pos:Pos} (a e Y:Addr) (Z:e≠Y):
  Turn P w K (.Tuple γ k pos) (Itet K a) [e,Y] e (λi h=>(∃O,IsEnum h e Y i O)/\h.IsTupleIter Y a i) where
 mem:=by simp
 obj:=λi h st b hb=>by
  obtain⟨⟨O,he⟩,⟨o,ho,ρ,hd⟩⟩:=st;rcases mem_cons.mp hb with z | z
  ·subst z;exact⟨_,he,λv z=>by cases z⟩
  ·rw[mem_singleton.mp z];exact⟨o,ho,λv z=>by rw[hd] at z;cases z⟩
 keep:=λi h h' st k=>⟨let ⟨O,he⟩:=st.1;⟨O,k e (by simp) _ he⟩,(let ⟨o,ho,r⟩:=st.2;⟨o,k Y (by simp) o ho,r⟩)⟩
 item:=by
  intro X ω hw hK ρ i pins s σ H E I hf st φ;subst ω hw hK;obtain⟨xs,x,π,ο⟩:=φ;obtain⟨its,ξ,p,hz⟩:=I.tuple π;have δ:s.heap.IsTuple a its.toArray:=p;obtain⟨⟨O,he⟩,hl⟩:=st
  have ζ:a≠Y:=λz=>by
   obtain⟨o,ho,ε,_⟩:=hl;obtain⟨o',L,G,_⟩:=δ;rw[z,ho] at L;cases L;rw[ε] at G;exact absurd G (by decide)
  have η:a≠e:=λz=>by
   obtain⟨o',L,G,_⟩:=δ;rw[z,he] at L;cases L;exact absurd (show Value.type "enumerate"= .type "tuple" from G) (by decide)
  have W:=WalksT.enumerateD (prog:=X.prog) (w:=X.w) (A:=X.A) (Draws.tuple (A:=X.A.in1) (I.ok.hd ρ) Y a ζ its.toArray) e Z (by simp[Z,Ne.symm η]) (by simp);have hi:i < its.toArray.size:=by have:=ξ.length;have:=(List.getElem?_eq_some_iff.mp ο).1;simp;omega
  refine W.item i s _ _ hi ⟨⟨O,he⟩,hl,δ⟩ λT a3 h' tk ψ hT θ β hk=>⟨_,rfl,W.go γ k pos i T _ _ _ β λa0 ι ν=>?_⟩;obtain⟨t,τ,υ,rfl⟩:=ψ;have χ:=W.apart i T h' β
  have ru:RelV x τ:=by
   obtain⟨u,hu,r⟩:=ξ.get ο;have α:its[i]? =some τ:=by simpa using υ
   rw[hu] at α;cases α;exact r
  have kk:∀b u,b∉[e,Y]->s.heap.get? b=some u->a0.get? b=some u:=λb u hb q=>ν b u hb (hk b u hb q);have fr:H T=none:=I.hok.fresh hT;refine⟨.ref T,upd H T (.tup [.int i,x]),I.laidCh (t':=tk) kk hT ⟨EZ,[.int i t,τ],.cons ⟨t,rfl⟩ (.cons ru .nil),?_⟩ hf,rfl,⟨T,x,fr,rfl,rfl,λys hy=>by rw[I.tuple_inj hy π];exact ο⟩,⟨ι.1,ι.2.1⟩,λb hb=>?_⟩
  ·obtain⟨o,ho,r⟩:=θ;exact⟨o,ν T o χ ho,r⟩
  ·have fb:=(hf b hb);rw[aG (λz=>?_)]
   ·exact fb.1
   ·have lt:b < s.heap.objs.size:=by
     rcases mem_cons.mp hb with z | z
     ·subst z;exact Heap.lt_size he
     ·rw[mem_singleton.mp z];obtain⟨o,ho,_⟩:=hl;exact Heap.lt_size ho
    rw[z] at lt;exact absurd (lt_of_lt_of_le lt hT) (lt_irrefl _)
 done:=by
  intro X ω hw hK ρ i pins s σ H E I hf st φ;subst ω hw hK;obtain⟨xs,π,ο⟩:=φ;obtain⟨its,ξ,p,hz⟩:=I.tuple π;have δ:s.heap.IsTuple a its.toArray:=p;obtain⟨⟨O,he⟩,hl⟩:=st
  have ζ:a≠Y:=λz=>by
   obtain⟨o,ho,ε,_⟩:=hl;obtain⟨o',L,G,_⟩:=δ;rw[z,ho] at L;cases L;rw[ε] at G;exact absurd G (by decide)
  have η:a≠e:=λz=>by
   obtain⟨o',L,G,_⟩:=δ;rw[z,he] at L;cases L;exact absurd (show Value.type "enumerate"= .type "tuple" from G) (by decide)
  have W:=WalksT.enumerateD (prog:=X.prog) (w:=X.w) (A:=X.A) (Draws.tuple (A:=X.A.in1) (I.ok.hd ρ) Y a ζ its.toArray) e Z (by simp[Z,Ne.symm η]) (by simp);have hn:its.toArray.size=i:=by have:=ξ.length;simp;omega
  subst hn;exact W.done s _ _ ⟨⟨O,he⟩,hl,δ⟩ λh' tk hk=>⟨rfl,I.turnedCh hk hf⟩
 self:=λ_ _ _ _ _ st h=>let ⟨_,he⟩:=st.1;wpAny_pyIter_enum he h
noncomputable def KC (K:PySem.W.Frag) (tl:TE):TI:=fun σ H R=>tl σ H λx H1=>∃a,x= .ref a/\(((∃xs,SqL K H1 a xs)/\R (Ite K a) H1)∨((∃xs,SqT K H1 a xs)/\R (Itet K a) H1))
section
variable {X:Cx} {K:PySem.W.Frag}
theorem ph {l:Expr} {tl:TE} {Z:List Expr} {k:Nat} {tpos p pos:Pos} (h:X.K=K) (ε:Gl X "enumerate") (hm:X.mg "enumerate"=none) (hl:PE X l tl) (hs:starEach [l] X.env=[(false,eval l X.env)]:=by rfl):
  PI X (.Tuple Z k tpos) (.Call (.Name "enumerate" p) [l] [] pos) (KC K tl):=by
 subst h;intro pins s σ H R I h;refine Call_ (rG I ε hm boot_enumerate (PyProof.Rows.callWith_type1 (thn (aa hl ae hs pos pins s σ H (λvs H1=>match vs with | [x]=>∃a,x= .ref a/\(((∃xs,SqL X.K H1 a xs)/\R (Ite X.K a) H1)∨((∃xs,SqT X.K H1 a xs)/\R (Itet X.K a) H1)) | _=>False) I h) λus G ⟨vs,H1,I1,α,O⟩=>?_) hs rfl))
 match vs,α,O with
 | [x],α,O=>
 obtain⟨u,rfl,δ⟩:=α.one;obtain⟨a,rfl,O⟩:=O;cases δ
 have fin:∀b∈[G.heap.objs.size + 1,G.heap.objs.size],FpOk X pins H1 b:=λb hb=>by
  have Y:G.heap.objs.size<=b:=(mem_cons.mp hb).elim (λz=>by rw[z];exact le_succ _) (λz=>by rw[mem_singleton.mp z];exact le_refl _);exact I1.fpOk Y (I1.hok.fresh Y)
 rcases O with ⟨⟨xs,β⟩,q⟩ | ⟨⟨xs,β⟩,q⟩
 ·obtain⟨its,γ,pl,hz⟩:=I1.list β;refine call_enumerate_list pl.isList λh' he L hsz hk=>wpAny_pyIter_enum he ?_;exact⟨G.heap.objs.size + 1,[G.heap.objs.size + 1,G.heap.objs.size],_,_,H1,rfl,I1.kept (t':=G.toks) hk,wz a _ _ (ne_of_gt (lt_succ_self _)),⟨⟨_,he⟩,L⟩,fin,q⟩
 ·obtain⟨its,γ,pl,hz⟩:=I1.tuple β;refine nM (show G.heap.IsTuple a its.toArray from pl) λh' he L hsz hk=>wpAny_pyIter_enum he ?_;exact⟨G.heap.objs.size + 1,[G.heap.objs.size + 1,G.heap.objs.size],_,_,H1,rfl,I1.kept (t':=G.toks) hk,Cn a _ _ (ne_of_gt (lt_succ_self _)),⟨⟨_,he⟩,L⟩,fin,q⟩
end
theorem Ej {K:PySem.W.Frag} {n:Nat} {fx:List Nat} {g:TG} {tc:TT} {te:TE} {σ:St} {H1:Hp} {D:Addr} {Q:Hp->Prop} {a:Addr} {xs:List V} (Pv:Nat->List V->Hp->Prop) (h0:Pv 0 [] (upd H1 D (.lst []))) (hl:∀i ys H,i<=xs.length->Pv i ys H->SqL K H a xs)
  (hs:∀i x ys H p H',xs[i]? =some x->Pv i ys H->H p=none->Same H H'->H' p=some (.tup [.int i,x])->g (.ref p) (eA n fx σ) H' λG α=>tc G α λb Z=>if b=true then te G Z λv Y=>Y D=some (.lst ys)/\ys.length < sizeLine/\Pv (i + 1) (ys++[v]) (upd Y D (.lst (ys++[v]))) else Pv (i + 1) ys Z)
  (hd:∀ys H,Pv xs.length ys H->Q H):
  ∃W:Nat->Nat->List V->Hp->Prop,(∃m,W 0 m [] (upd H1 D (.lst [])))/\∀i m ys H2,W i m ys H2->((Ite K a).stop i H2/\Q H2)∨
    ((Ite K a).go i H2/\∃N:List V->Hp->Prop,(∀L H',N L H'->∃β,β < m/\W (i + 1) β L H')/\∀x γ,(Ite K a).yld i H2 x γ->g x (eA n fx σ) γ λG α=>tc G α λb Z=>
      if b=true then te G Z λv Y=>Y D=some (.lst ys)/\ys.length < sizeLine/\N (ys++[v]) (upd Y D (.lst (ys++[v]))) else N ys Z):=by
 refine⟨λi m ys H=>m=xs.length - i/\i<=xs.length/\Pv i ys H,⟨xs.length,by simp,zero_le _,h0⟩,?_⟩;rintro i m ys H ⟨rfl,hi,p⟩;have q:=hl i ys H hi p;by_cases O:i < xs.length
 ·refine .inr ⟨⟨xs,xs[i],q,by simp[O]⟩,Pv (i + 1),λL H' δ=>⟨xs.length - (i + 1),by omega,rfl,O,δ⟩,λx H' y=>?_⟩;obtain⟨r,v,f,ζ,ε,y⟩:=y;subst ζ ε;exact hs i v ys H r _ (y xs q) p f (bh f) ay
 ·have e:i=xs.length:=by omega
  subst e;exact .inl ⟨⟨xs,q,rfl⟩,hd ys H p⟩
theorem rq {K:PySem.W.Frag} {n:Nat} {fx:List Nat} {g:TG} {tc:TT} {te:TE} {σ:St} {H1:Hp} {D:Addr} {Q:Hp->Prop} {a:Addr} {xs:List V} (Pv:Nat->List V->Hp->Prop) (h0:Pv 0 [] (upd H1 D (.lst []))) (hl:∀i ys H,i<=xs.length->Pv i ys H->SqT K H a xs)
  (hs:∀i x ys H p H',xs[i]? =some x->Pv i ys H->H p=none->Same H H'->H' p=some (.tup [.int i,x])->g (.ref p) (eA n fx σ) H' λG α=>tc G α λb Z=>if b=true then te G Z λv Y=>Y D=some (.lst ys)/\ys.length < sizeLine/\Pv (i + 1) (ys++[v]) (upd Y D (.lst (ys++[v]))) else Pv (i + 1) ys Z)
  (hd:∀ys H,Pv xs.length ys H->Q H):
  ∃W:Nat->Nat->List V->Hp->Prop,(∃m,W 0 m [] (upd H1 D (.lst [])))/\∀i m ys H2,W i m ys H2->((Itet K a).stop i H2/\Q H2)∨
    ((Itet K a).go i H2/\∃N:List V->Hp->Prop,(∀L H',N L H'->∃β,β < m/\W (i + 1) β L H')/\∀x γ,(Itet K a).yld i H2 x γ->g x (eA n fx σ) γ λG α=>tc G α λb Z=>
      if b=true then te G Z λv Y=>Y D=some (.lst ys)/\ys.length < sizeLine/\N (ys++[v]) (upd Y D (.lst (ys++[v]))) else N ys Z):=by
 refine⟨λi m ys H=>m=xs.length - i/\i<=xs.length/\Pv i ys H,⟨xs.length,by simp,zero_le _,h0⟩,?_⟩;rintro i m ys H ⟨rfl,hi,p⟩;have q:=hl i ys H hi p;by_cases O:i < xs.length
 ·refine .inr ⟨⟨xs,xs[i],q,by simp[O]⟩,Pv (i + 1),λL H' δ=>⟨xs.length - (i + 1),by omega,rfl,O,δ⟩,λx H' y=>?_⟩;obtain⟨r,v,f,ζ,ε,y⟩:=y;subst ζ ε;exact hs i v ys H r _ (y xs q) p f (bh f) ay
 ·have e:i=xs.length:=by omega
  subst e;exact .inl ⟨⟨xs,q,rfl⟩,hd ys H p⟩
section
variable {σ:St} {H:Hp} {te:TE} {R:It->Hp->Prop}
theorem cU {K:PySem.W.Frag} (h:te σ H λx H1=>∃a,x= .ref a/\(((∃xs,SqL K H1 a xs)/\R (Ite K a) H1)∨((∃xs,SqT K H1 a xs)/\R (Itet K a) H1))):KC K te σ H R:=h
end
namespace ZP
noncomputable abbrev Busy (h:Heap) (z TI TO T:Addr) (G:Bool):Prop:=h.get? z=some {cls:= .type "zip",data:= .fields #[rawInt T,.bool G,.bool false,.ref TI,.ref TO]}
section
variable {prog:Program} {w:World} {A:Around} {E:Value->Shared->Prop} {s:Shared}
structure ZGot (h:Heap) (lo:Nat) (xs ys:Array Value) (as:List Addr):Prop where
 rise:as.Pairwise (· < ·)
 above:∀a∈as,lo<=a/\a < h.objs.size
 pairs:∀(j:Nat) (a:Addr),as[j]? =some a->∃x y,xs[j]? =some x/\ys[j]? =some y/\h.IsTuple a #[x,y]
structure ZSt (h:Heap) (z TI TO i1 i2 l1 l2:Addr) (lo:Nat) (xs ys:Array Value) (i:Nat) (as:List Addr):Prop where
 zp:(i=0/\IsZip h z TI TO .none)∨∃T fl,Busy h z TI TO T fl/\as[0]? =some T
 hI:IsPair h TI (.ref i1) (.ref i2)
 hO:∃a b,IsPair h TO a b
 h1:h.IsListIter i1 l1 i
 h2:h.IsListIter i2 l2 i
 hl1:h.IsList l1 xs
 hl2:h.IsList l2 ys
 len:as.length=i
 got:ZGot h lo xs ys as
structure Und (z TI TO i1 i2 l1 l2 S:Addr) (lo:Nat):Prop where
 ap:ZipApart z TI TO i1 i2 l1 l2
 Sz:S≠z
 STI:S≠TI
 STO:S≠TO
 Si1:S≠i1
 Si2:S≠i2
 Sl1:S≠l1
 Sl2:S≠l2
 z:z < lo
 TO:TO < lo
 i1:i1 < lo
 i2:i2 < lo
 S:S < lo
structure New (h:Heap) (z TI TO i1 i2 l1 l2:Addr) (xs ys:Array Value):Prop where
 ap:ZipApart z TI TO i1 i2 l1 l2
 hz:IsZip h z TI TO .none
 hI:IsPair h TI (.ref i1) (.ref i2)
 hO:∃a b,IsPair h TO a b
 h1:h.IsListIter i1 l1 0
 h2:h.IsListIter i2 l2 0
 hl1:h.IsList l1 xs
 hl2:h.IsList l2 ys
end
end ZP
open PySem PySem.Spec PyProof.Rows
structure FunD (K:PySem.W.Frag) (x qual:Str) (st:Stmt) (f:Addr) (fd:FuncData) (dv:Value):Prop where
 ex:∃(oc:Value) (od:Option Addr) (T:Addr) (kV doc pm:Value) (an:Option Addr) (cdv ct:Value) (osl:Array (Option Value)) (tc:Value) (td:Option Addr) (n:Nat) (tsl:Array (Option Value)),
  fd=PySem.W.fnOf x qual (g6 st) (eT st) (ah st) (.ref T) kV doc pm an cdv ct/\K.lookup f=some ⟨oc,od,.func fd,osl⟩/\PySem.W.codeIn K cdv qual=true/\K.lookup T=some ⟨tc,td,.seq #[dv] n,tsl⟩
 kp:PySem.W.keepIn K (.ref f)=true
section
variable {P:Program} {w:World} {K:PySem.W.Frag} {mg:Str->Option Value} {base:Heap}
theorem FunD.okX {x G:Str} {st:Stmt} {f:Addr} {fd:FuncData} {dv:Value} {N ps:List Str} {k:Nat} {sp:Sp} (F:FunD K x G st f fd dv) (S:aq N ps (ah st)) (len:∀vs H Q E,sp vs H Q E->vs.length=ps.length)
  (O:∀(L:Value) (A:Around) (outer:List Env) (s:Shared) (H:Hp) (vs:List V) (Q:VK) (E:XK),Room k (A.deeper (envOfC G (ah st) s.heap.objs.size f L))->sp vs H Q E->
   ∃t,PSs ((cxOf (CX1 P w) P w K mg base N G (ah st) f L A outer s H E).thr λ_=>E) (eT st) t/\t {nx:=λ_ H'=>Q .non H',rt:=Q} (start N vs) H):FnOk P w K mg base (CX1 P w) (k + 1) f fd ps sp:=by
 obtain⟨ζ,od,T,kV,δ,ε,an,L,ct,β,tc,td,n,α,rfl,lk,Z,_⟩:=F.ex;refine MF lk Z S len λA outer s H vs Q E γ Y=>?_;obtain⟨t,h,q⟩:=O L A outer s H vs Q E γ Y;exact⟨t,h.thr BV,q⟩
theorem FunD.binds {x G:Str} {st:Stmt} {f:Addr} {fd:FuncData} {dv:Value} {ps:List Str} {ds:List Value} (F:FunD K x G st f fd dv)
  (h:∀(T:Addr) (kV L Y:Value) (an:Option Addr) (O ct:Value) (us:List Value),(us++ds).length=ps.length->∃k:Option (Array Value)->Sem (List (Str×Value)),bindArgs (PySem.W.fnOf x G (g6 st) (eT st) (ah st) (.ref T) kV L Y an O ct) ⟨us,[]⟩=(seqItems? (.ref T) >>=k)/\k (some #[dv])=pure (ps.zip (us++ds))):nQ K fd ps ds:=by
 obtain⟨η,od,T,kV,L,Y,an,O,ct,α,tc,td,n,Z,rfl,lk,γ,β⟩:=F.ex;intro s us δ hl;obtain⟨k,ζ,ε⟩:=h T kV L Y an O ct us hl;exact BindsTo.of_defaults (T:=T) rfl (δ T _ β) rfl ζ ε
theorem MD {x G:Str} {st:Stmt} {f T:Addr} {β tc dv:Value} {od an td:Option Addr} {Z Y:Array (Option Value)} {n:Nat} {kV O α L ct:Value} (l:K.lookup f=some ⟨β,od,.func (PySem.W.fnOf x G (g6 st) (eT st) (ah st) (.ref T) kV O α an L ct),Z⟩)
  (γ:K.lookup T=some ⟨tc,td,.seq #[dv] n,Y⟩) (c:PySem.W.codeIn K L G=true) (k:PySem.W.keepIn K (.ref f)=true):FunD K x G st f (PySem.W.fnOf x G (g6 st) (eT st) (ah st) (.ref T) kV O α an L ct) dv:=⟨⟨β,od,T,kV,O,α,an,L,ct,Z,tc,td,n,Y,rfl,l,c,γ⟩,k⟩
end
section
variable {σ:St} {H:Hp} {Q:VK} {te:TE}
def HV (C:Addr) (m:Str) (sp:Sp) (dvs:List V) (W:XW) (tr:TA) (σ:St) (Q:VK) (x:V) (H:Hp):Prop:=∃a dx fs,x= .ref a/\H a=some (.ins C dx fs)/\fs.lookup m=none/\tr σ H λvs H2=>sp (x::(vs++dvs)) H2 Q (W σ)
theorem fB {C:Addr} {m:Str} {sp:Sp} {dvs:List V} {W:XW} {tr:TA} (h:te σ H (HV C m sp dvs W tr σ Q)):Kg C m sp dvs W te tr σ H Q:=h
theorem d0 {C dx p:Addr} {m:Str} {fs:List (Str×V)} {sp:Sp} {dvs:List V} {W:XW} {tr:TA} (e:H p=some (.ins C dx fs)) (l:fs.lookup m=none) (h:tr σ H λvs H2=>sp (.ref p::(vs++dvs)) H2 Q (W σ)):HV C m sp dvs W tr σ Q (.ref p) H:=⟨p,dx,fs,rfl,e,l,h⟩
end
noncomputable abbrev xBM:List Value:=[.type "ValueError",.type "Exception",.type "BaseException",.type "object"]
structure XOwn (K:PySem.W.Frag) (C W f:Addr):Prop where
 lk:∃nm q N bs sn sub ab col dd k0 k1 k2 k3 k5,K.lookup C=some (excClassObj nm q C N bs (.ref W::xBM) true sn sub ab col dd k0 k1 k2 k3 k5 "ValueError.__new__")
 up:PySem.W.excIn K W xBM "ValueError.__new__"=true
 init:PySem.W.findIn K (.ref C) "__init__"=some (some (.ref f))
 fn:PySem.W.isFn K (.ref f)=true
 kp:PySem.W.keepIn K (.ref C)=true
 sa:PySem.W.findIn K (.ref C) "__setattr__"=some (some (.builtin "object.__setattr__"))
 mo:PySem.W.mroIn K C (.type "object")=some true
 mv:PySem.W.mroIn K C (.type "ValueError")=some true
section
variable {X:Cx} {pins:List (Addr×Obj)} {σ:St} {H:Hp} {s:Shared} {p C W f:Addr} {fs:List (Str×V)}
structure QI (K:PySem.W.Frag) (W:Addr):Prop where
 ga:PySem.W.specialIn K (.ref W) "__getattribute__"=some (some (.builtin "type.__getattribute__"))
 rd:PySem.W.readsIn K W (.type "type")=true
 fd:PySem.W.findCls K (.ref W) (.type "type") "__init__"=some (.val (.builtin "ValueError.__init__"))
theorem gP {st:Stmt}:PS X st (λ_ _ _=>False):=λ_ _ _ _ _ _ h=>h.elim
end
end L2
namespace PySem
theorem F.entry_dict_update_loop:entryFor table "dict.update.loop"=some Builtin.«dict.update.loop»:=entryFor_of_fast (by kernel_rfl)
theorem F.plain_dict_update_loop:plainId "dict.update.loop"=true:=by decide +kernel
theorem F.list_keys_none:typeLookup (.type "list") "keys"=pure none:=by rw[typeLookup_type,builtinLookup_eq_fast];kernel_rfl
theorem AI {prog:Program} {w:World} {A:Around} {E:Value->Shared->Prop} {s:Shared} {a:Addr} {xs:Array Value} {k:Nat} {name:Str} {Q:Option Value->Shared->Prop}
  (Z:s.heap.get? a=some {cls:= .type "list",data:= .seq xs k}) (L:typeLookup (.type "list") name=pure none) (G:(["__module__","__name__","__qualname__","__doc__","__annotations__"]:List Str).contains name=false) (β:A.handled=none)
  (h:∀h' tk,(∀b o,s.heap.get? b=some o->h'.get? b=some o)->Q none {s with heap:=h',toks:=tk}) (hsz:name.length + 100<=sizeLine:=by size_fits):
  wpAny (model prog w) A (getAttr? (.ref a) name) Q E s:=by
 obtain⟨α,g,d,tk,os⟩:=s;have hT:∀O,(⟨α,g,d,O,os⟩:Shared).TypeIs (.ref a) "list":=λ_=>⟨_,Z,rfl⟩;have η:=sub_AttributeError;have ζ:=F.slot_list_getattribute.lookup;have ε:=F.slot_list_getattribute.bind (.ref a);have δ:=am_list_getattr_none;unfold getAttr? getAttrBy? getAttrBy
 repeat (any_goals (first | assumption | exact hT _ | ((with_reducible show wpAny _ _ (call (Value.builtin "list.__getattribute__") _ _) _ _ _);refine call_meets F.slot_list_getattribute (hT _) am_entry_list_getattribute (F.args_list_getattribute_2 _ _) (meets_getattribute_miss_list a xs k #[] name _ L G hsz) ⟨Z,β,λh' O e Y=>?_⟩) | wp_step))
 obtain⟨t',γ,he⟩:=Y.there;show wpAny _ _ (getattributeRaised _ _ _ _ _ _ _) _ _ _;unfold getattributeRaised
 repeat (any_goals (first | assumption | wp_step))
 exact h _ _ Y.keeps
section
variable {prog:Program} {w:World} {K:Type} [DecidableEq K] {knd:KeyKind prog w K} {A:Around} {R:Result->Shared->Prop} {I:Addr} {fp wr:List Addr} {n:Nat} {P:Nat->Value->Prop} {St:Nat->Heap->Prop}
def KQ (knd:KeyKind prog w K) (h:Heap) (a:Addr) (L:K×Value):Prop:=∃G o n,h.get? a=some o/\o.cls= .type "tuple"/\o.data= .seq #[G,L.2] n/\knd.is L.1 G=true
theorem vj {h h':Heap} {d:Addr} {kvs:List (K×Value)} (hm:h.DictOf knd d kvs) (f:∀o,h.get? d=some o->h'.get? d=some o):h'.DictOf knd d kvs:=let ⟨o,es,ep,ho,r⟩:=hm;⟨o,es,ep,f o ho,r⟩
theorem oY (W:Walks prog w A.in1 I fp wr n P St) (d:Addr) (ξ:d∉fp) (more:List (K×Value)) (hn:more.length=n) (hsz:n<=sizeLine) (tup:Nat->Addr) (Z:∀i,i < n->tup i∉wr/\tup i≠d) (hP:∀i v,i < n->P i v->v= .ref (tup i)):
  ∀(k j:Nat) (s:Shared) (τ:Int) (t:Tok),n - j=k->j<=n->St j s.heap->s.heap.DictOf knd d (merged [] (more.take j))->(∀i L,more[i]? =some L->KQ knd s.heap (tup i) L)->
  (∀h' tk,h'.DictOf knd d (merged [] more)->(∀b o,b∉wr->b≠d->s.heap.get? b=some o->h'.get? b=some o)->R (.ok (.ret .none)) {s with heap:=h',toks:=tk})->
  codeAny (model prog w) A (.builtin "dict.update.loop" ⟨[.ref d,.ref I,.int τ t,.none],[]⟩) R s:=by
 have ν:d∉wr:=λh=>ξ (W.sub _ h);intro k
 induction k with
 | zero=>
   intro j s τ t hk hj α hd υ hR;have χ:j=n:=by omega
   subst χ;refine codeAny_builtin F.entry_dict_update_loop ?_;rw[Around.under_plainId F.plain_dict_update_loop _];show wpAny _ A.in1 (pyNext (.ref I) >>=_) _ _ s;refine wpAny_bind (W.done s _ _ α λh' tk G=>?_);show wpAny _ A.in1 (Builtin.Dict.addKeywords d [] >>=_) _ _ _;refine wpAny_bind (wpAny_pure (wpAny_pure ?_));rw[<-hn,take_length] at hd;exact hR h' tk (vj hd λo e=>G d o ν e) λb o hb _ e=>G b o hb e
 | succ k ih=>
   intro j s τ t hk hj α hd υ hR;have O:j < n:=by omega
   refine codeAny_builtin F.entry_dict_update_loop ?_;rw[Around.under_plainId F.plain_dict_update_loop _];show wpAny _ A.in1 (pyNext (.ref I) >>=_) _ _ s;refine wpAny_bind (W.item j s _ _ O α λv h' tk a4 ε G=>?_);have ev:=hP j v O a4;subst ev;obtain⟨L,η⟩:∃L,more[j]? =some L:=⟨_,getElem?_eq_getElem (by omega)⟩;obtain⟨γ,ob,m,ht,a3,ψ,θ⟩:=υ j L η;have δ:=G _ _ (Z j O).1 ht;show wpAny _ A.in1 (holding [Value.ref (tup j)] _ >>=_) _ _ _;refine wpAny_bind (wpAny_holding (wpAny_bind (wpAny_tryCatch ?_)));unfold Builtin.Dict.pairItems;refine wpAny_bind (wpAny_typeOf (T:="tuple") ⟨_,δ,a3⟩ ?_);rw[if_pos (by decide)];refine wpAny_bind (wpAny_seqItems δ ψ ?_);refine wpAny_pure ?_;show wpAny _ A.in1 (holding [γ,L.2] (dictSet d γ L.2)) _ _ _;have a0:h'.DictOf knd d (merged [] (more.take j)):=vj hd λo e=>G d o ν e;refine wpAny_holding (wpAny_dictSet_pairs (s:={s with heap:=h',toks:=tk}) θ a0 (λh2 ο ζ=>?_) (hsz:=by have:=merged_length_le [] (more.take j);rw[List.length_nil,length_take] at this;omega));rw[<-merged_take_succ [] more j L η] at ο;have kp:∀b o,b∉wr->b≠d->s.heap.get? b=some o->h2.get? b=some o:=λb o hb Y e=>(ζ.2 b Y).trans (G b o hb e);refine wpAny_pure ⟨plainId_quiet F.plain_dict_update_loop _,ih (j + 1) _ _ _ (by omega) O (W.frame _ _ _ ε λb hb o e=>?_) ο (λi ρ hi=>?_) λh3 π ω φ=>?_⟩
   ·exact(ζ.2 b λz=>ξ (z ▸ hb)).trans e
   ·obtain⟨β,o',m',e',x'⟩:=υ i ρ hi;have ι:i < n:=by rw[<-hn];exact(List.getElem?_eq_some_iff.mp hi).1
    exact⟨β,o',m',kp _ _ (Z i ι).1 (Z i ι).2 e',x'⟩
   ·exact hR h3 π ω λb o hb Y e=>φ b o hb Y (kp b o hb Y e)
end
section
variable {prog:Program} {w:World} {K:Type} [DecidableEq K] {knd:KeyKind prog w K} {A:Around} {E:Value->Shared->Prop} {s:Shared}
theorem vv {l:Addr} {its:Array Value} {c:Nat} {more:List (K×Value)} {tup:Nat->Addr} {Q:Value->Shared->Prop} (ξ:A.handled=none) (hl:s.heap.get? l=some {cls:= .type "list",data:= .seq its c})
  (hn:more.length=its.size) (hsz:its.size<=sizeLine) (ι:∀(i:Nat) (v:Value),its[i]? =some v->v= .ref (tup i)) (ν:∀i Y,more[i]? =some Y->KQ knd s.heap (tup i) Y) (nd:(more.map (·.1)).Nodup)
  (h:∀h' tk,h'.DictOf knd s.heap.objs.size more->(∀b o,s.heap.get? b=some o->h'.get? b=some o)->Q (.ref s.heap.objs.size) {s with heap:=h',toks:=tk}):
  wpAny (model prog w) A (call (.type "dict") [.ref l]) Q E s:=by
 refine callType_codes (Q₁:=λobj O=>obj= .ref s.heap.objs.size/\O={s with heap:=s.heap.push {cls:= .type "dict",data:= .dict #[]}}) F.kt_called_dict (F.kt_typeCall_dict_1 _) F.entry_dict_init (kt_code_dict_new _ ⟨rfl,rfl⟩) ?_;rintro obj O ⟨rfl,rfl⟩;have G:(s.heap.push {cls:= .type "dict",data:= .dict #[]}).DictOf knd s.heap.objs.size []:=Heap.DictOf.new s.heap;have Z:(s.heap.push {cls:= .type "dict",data:= .dict #[]}).get? l=some {cls:= .type "list",data:= .seq its c}:=Heap.get?_push_of_some _ hl;refine⟨G.typeIs,F.args_dict_init_2 _ _,?_⟩;unfold Builtin.«dict.__init__»;refine wpAny_bind ?_;unfold Builtin.Dict.selfAndRest;refine wpAny_bind (wpAny_notOrdered_dict G.typeIs ?_);show wpAny _ _ (pure (s.heap.objs.size,[Value.ref l])) _ _ _;refine wpAny_pure ?_;show wpAny _ _ (Builtin.Dict.updateFrom "dict.__init__" s.heap.objs.size (.ref l) [] .none) _ _ _;unfold Builtin.Dict.updateFrom;refine wpAny_bind (wpAny_typeOf (T:="list") ⟨_,Z,rfl⟩ ?_);rw[if_pos (by decide)];refine wpAny_bind (AI Z F.list_keys_none (by decide) ξ λh' tk hk=>?_);rw[if_pos (show(none:Option Value).isNone=true from rfl)];have hl2:=hk _ _ Z;have β:l < s.heap.objs.size:=Heap.lt_size hl;have δ:h'.DictOf knd s.heap.objs.size []:=vj G λo e=>hk _ _ e;have L:s.heap.objs.size < h'.objs.size:=by obtain⟨o,_,_,ho,_⟩:=δ;exact Heap.lt_size ho
 have α:∀i,i < its.size->tup i < s.heap.objs.size:=λi hi=>by
  obtain⟨Y,η⟩:∃Y,more[i]? =some Y:=⟨_,getElem?_eq_getElem (by omega)⟩;obtain⟨_,_,_,e,_⟩:=ν i Y η;exact Heap.lt_size e
 refine wpAny_bind (wpAny_rule ?_);refine wpAny_bind (wpAny_pyIter_list (items:=its) ⟨_,hl2,rfl,c,rfl⟩ ?_);have W:=Walks.list (prog:=prog) (w:=w) (A:=A.in1.in1) ξ h'.objs.size l (ne_of_lt (lt_trans β L)) its;refine wpAny_pure ⟨plainId_quiet F.plain_dict_update_loop _,oY (knd:=knd) (A:=A.in1) W s.heap.objs.size ?_ more hn hsz tup (λi hi=>⟨?_,?_⟩) (λi v _ e=>ι i v e) _ 0 _ _ _ rfl (zero_le _) ⟨⟨_,Heap.get?_push_size _ rfl,rfl,rfl⟩,?_⟩ ?_ (λi Y hi=>?_) fun ο ε γ θ=>?_⟩
 ·intro hm;rcases mem_cons.mp hm with e | hm
  ·exact absurd e (ne_of_lt L)
  ·exact absurd (mem_singleton.mp hm).symm (ne_of_lt β)
 ·intro hm;exact absurd (mem_singleton.mp hm) (ne_of_lt (lt_trans (α i hi) L))
 ·exact ne_of_lt (α i hi)
 ·exact⟨_,Heap.get?_push_of_some _ hl2,rfl,c,rfl⟩
 ·exact δ.push _
 ·obtain⟨ζ,ob,m,e,x⟩:=ν i Y hi;exact⟨ζ,ob,m,Heap.get?_push_of_some _ (hk _ _ (Heap.get?_push_of_some _ e)),x⟩
 ·rw[merged_nil_of_nodup more nd] at γ;refine⟨rfl,h ο ε γ λb o e=>θ b o (λhm=>?_) ?_ (Heap.get?_push_of_some _ (hk _ _ (Heap.get?_push_of_some _ e)))⟩
  ·exact absurd (mem_singleton.mp hm) (ne_of_lt (lt_trans (Heap.lt_size e) L))
  ·exact ne_of_lt (Heap.lt_size e)
end
end PySem
namespace L2
open PySem PySem.Spec PyProof.Rows
noncomputable def Kt:List V->Hp->VK->Prop:=λxs H Q=>∃(l:Addr) (ps:List (Addr×Key×V)),xs=[.ref l]/\H l=some (.lst (ps.map λq=>V.ref q.1))/\(∀q∈ps,H q.1=some (.tup [kV q.2.1,q.2.2]))/\(ps.map λq=>q.2.1).Nodup/\
 ∀d,H d=none->Q (.ref d) (upd H d (.dK (ps.map (·.2))))
section
variable {X:Cx}
theorem xa (hc:X.calm=true):nP X (.type "dict") Kt:=by
 intro pins s σ H xs us Q I r h;obtain⟨l,ps,rfl,hl,ht,nd,q⟩:=h;obtain⟨u,rfl,θ⟩:=tR r;cases θ;obtain⟨z,its,c,Z,γ,el⟩:=I.lstM hl;rw[length_map] at z γ
 have get:∀(i:Nat) q,ps[i]? =some q->its[i]? =some (.ref q.1)/\∃G v o n,s.heap.get? q.1=some o/\o.cls= .type "tuple"/\o.data= .seq #[G,v] n/\(c9 X.prog X.w).is q.2.1 G=true/\RelV q.2.2 v:=λi q L=>by
  obtain⟨u,τ,ι⟩:=Vals.get (x:=V.ref q.1) Z (by rw[getElem?_map,L];rfl);cases ι;refine⟨τ,?_⟩;have e:=ht q (mem_of_getElem? L);obtain⟨_,us,rt,ρ⟩:=I.hok _ _ e;obtain⟨a,b,rfl,ξ,ν⟩:=Vals.two rt;obtain⟨o,ho,η,n,ζ⟩:=ρ;exact⟨a,b,o,n,ho,η,ζ,DP ξ,ν⟩
 obtain⟨vs,Y⟩:∃vs:List (Key×Value),vs=(List.range ps.length).map λi=>match ps[i]? with
  | some q=>(q.2.1,match s.heap.get? q.1 with | some o=>(match o.data with | .seq xs _=>xs.getD 1 .none | _=> .none) | none=> .none)
  | none=>(.inl 0,.none):=⟨_,rfl⟩
 have ε:∀(i:Nat) q,ps[i]? =some q->∃G v o n,vs[i]? =some (q.2.1,v)/\s.heap.get? q.1=some o/\o.cls= .type "tuple"/\o.data= .seq #[G,v] n/\(c9 X.prog X.w).is q.2.1 G=true/\RelV q.2.2 v:=λi q L=>by
  obtain⟨_,G,v,o,n,e,α,δ,k,Z⟩:=get i q L;have hi:=(List.getElem?_eq_some_iff.mp L).1;refine⟨G,v,o,n,?_,e,α,δ,k,Z⟩;rw[Y,getElem?_map,getElem?_range hi];show some (match ps[i]? with | some q=>_ | none=>_)=_;rw[L];show some (q.2.1,match s.heap.get? q.1 with | some o=>_ | none=>_)=_;rw[e];show some (q.2.1,match o.data with | .seq xs _=>_ | _=>_)=_;rw[δ];rfl
 have β:vs.length=ps.length:=by rw[Y,length_map,length_range]
 clear Y
 have keys:vs.map (·.1)=ps.map λq=>q.2.1:=by
  apply List.ext_getElem?;intro i;rw[getElem?_map,getElem?_map];cases L:ps[i]? with
  | none=>rw[getElem?_eq_none (by rw[β];exact List.getElem?_eq_none_iff.mp L)];rfl
  | some q=>obtain⟨_,v,_,_,e,_⟩:=ε i q L;rw[e];rfl
 have π:KV (ps.map (·.2)) vs:=by
  refine pB (by rw[length_map,β]) λi a b ha hb=>?_;rw[getElem?_map] at ha;obtain⟨q,L,rfl⟩:=map_eq_some_iff.mp ha;obtain⟨_,v,_,_,e,_,_,_,_,Z⟩:=ε i q L;rw[e] at hb;cases hb;exact⟨rfl,Z⟩
 refine vv (knd:=c9 X.prog X.w) (its:=its.toArray) (c:=c) (more:=vs) (tup:=λi=>match ps[i]? with | some q=>q.1 | none=>0) (I.ok.hd hc) el (by rw[β,γ];simp) (by simpa using(γ ▸ z)) (λi v e=>?_) (λi ο e=>?_) (by rw[keys];exact nd) λh' tk hd hk=>?_
 ·have hi:i < ps.length:=by rw[γ];have:=(Array.getElem?_eq_some_iff.mp e).1;simpa using this
  obtain⟨O,L⟩:∃O,ps[i]? =some O:=⟨_,getElem?_eq_getElem hi⟩;have α:=(get i O L).1;have e:its[i]? =some v:=by simpa using e
  rw[α] at e;cases e;rw[L]
 ·have hi:i < ps.length:=by rw[<-β];exact(List.getElem?_eq_some_iff.mp e).1
  obtain⟨O,L⟩:∃O,ps[i]? =some O:=⟨_,getElem?_eq_getElem hi⟩;obtain⟨G,v,o,n,χ,α,δ,φ,υ,_⟩:=ε i O L;rw[χ] at e;cases e;rw[L];exact⟨G,o,n,α,δ,φ,υ⟩
 ·refine⟨.ref s.heap.objs.size,_,I.laid (t':=tk) hk (le_refl _) (show gG X.prog X.w _ h' _ (.dK (ps.map (·.2))) from⟨by rw[length_map];exact z,beq_eq_false_iff_ne.mpr λe=>absurd e.symm (ne_of_lt I.big),vs,π,hd⟩),rfl,q _ (I.hok.fresh (le_refl _))⟩
end
section
variable {H:Hp} {Q:VK}
theorem FH {l:Addr} {ps:List (Addr×Key×V)} (e:H l=some (.lst (ps.map λq=>V.ref q.1))) (ht:∀q∈ps,H q.1=some (.tup [kV q.2.1,q.2.2])) (nd:(ps.map λq=>q.2.1).Nodup) (h:∀d H2,H d=none->Same H H2->H2 d=some (.dK (ps.map (·.2)))->Q (.ref d) H2):Kt [.ref l] H Q:=⟨l,ps,rfl,e,ht,nd,ig h⟩
end
end L2
namespace PySem
end PySem
namespace L2
open PySem PySem.Spec PyProof.Rows
noncomputable def del (H:Hp) (p:Addr):Hp:=λb=>if b=p then none else H b
inductive PH (X:Cx) (Wo:XW):List ExceptHandler->(Ends->XW)->Prop where
 | nil:PH X Wo [] (λ_=>Wo)
 | cons {G:Addr} {g n:Str} {i:Nat} {gp hp:Pos} {b₀:Stmt} {suite:List Stmt} {ts:TS} {hs:List ExceptHandler} {WR:Ends->XW} (cg:MY X.K G) (hg:Gl X g) (hm:X.mg g=some (.ref G)) (hi:X.N[i]? =some n) (hk:X.env.scope.names.lookup n=some .local)
   (hs':∀pins e,PSs (X.mark pins e) (b₀::suite) ts) (hdb:(g == ("__debug__":Str))=false) (r:PH X Wo hs WR):PH X Wo (.ExceptHandler (some (.Name g gp)) (some n) (b₀::suite) hp::hs) (λD=>WTry X.K G i (WR D) ts D)
structure M3 (osc:Scope) (ON N:List Str) (n:Nat) (fx:List Nat) (x0:Str) (sc:Scope):Prop where
 kind:sc.kind= .function
 one:∃pre post,sc.names=pre++(x0,.cell)::post/\(∀y∈pre,y.2≠.cell)/\∀y∈post,y.2≠.cell
 its:sc.names.lookup x0=some .cell
 own:∀y∈sc.names,y.2= .local->sc.names.lookup y.1=some .local
 fre:∀y∈sc.names,y.2= .free->osc.names.lookup y.1=some .cell∨osc.names.lookup y.1=some .free
 len:N.length=n + fx.length
 frn:∀k,k < fx.length->∃x j,N[n + k]? =some x/\fx[k]? =some j/\ON[j]? =some x/\sc.names.lookup x=some .free
noncomputable def iSeq (K:PySem.W.Frag) (tl:TE):TI:=fun σ H R=>tl σ H λx H1=>∃a,x= .ref a/\(((∃xs,SqL K H1 a xs)/\R (Itl K a) H1)∨((∃xs,SqT K H1 a xs)/\R (Itt K a) H1))
theorem L3 {X:Cx} {K:PySem.W.Frag} {tg l:Expr} {tl:TE} (h:X.K=K) (hl:PE X l tl):PI X tg l (iSeq K tl):=by
 subst h;intro pins s σ H R I h;refine thn (hl pins s σ H _ I h) λv G ⟨x,H1,I1,Y,O⟩=>?_;obtain⟨a,e,O⟩:=O;subst e;rcases O with ⟨L,q⟩ | ⟨L,q⟩
 ·cases Y;obtain⟨xs,L⟩:=L;obtain⟨its,Z,p,hz⟩:=I1.list L;refine wpAny_pyIter_list p.isList ?_;refine⟨G.heap.objs.size,[G.heap.objs.size],_,_,H1,rfl,I1.kept (t':=G.toks) λb o e=>Heap.get?_push_of_some _ e,yB a _,⟨_,Heap.get?_push_size _ rfl,rfl,rfl⟩,λb hb=>?_,q⟩;have e:b=G.heap.objs.size:=by simpa using hb
  subst e;exact I1.fpOk (le_refl _) (I1.hok.fresh (le_refl _))
 ·cases Y;obtain⟨xs,L⟩:=L;obtain⟨its,Z,p,hz⟩:=I1.tuple L;refine wpAny_pyIter_tuple (show G.heap.IsTuple a its.toArray from p) ?_;refine⟨G.heap.objs.size,[G.heap.objs.size],_,_,H1,rfl,I1.kept (t':=G.toks) λb o e=>Heap.get?_push_of_some _ e,wy a _,⟨_,Heap.get?_push_size _ rfl,rfl,rfl⟩,λb hb=>?_,q⟩;have e:b=G.heap.objs.size:=by simpa using hb
  subst e;exact I1.fpOk (le_refl _) (I1.hok.fresh (le_refl _))
theorem N0 {K:PySem.W.Frag} {te:TE} {σ:St} {H:Hp} {R:It->Hp->Prop} (h:te σ H λx H1=>∃a,x= .ref a/\(((∃xs,SqL K H1 a xs)/\R (Itl K a) H1)∨((∃xs,SqT K H1 a xs)/\R (Itt K a) H1))):iSeq K te σ H R:=h
end L2
set_option autoImplicit false
namespace M
theorem Mx (a b:Nat):(a||| b) / 2=a / 2||| b / 2:=by
 apply eq_of_testBit_eq;intro i;simp[Nat.testBit_div_two,Nat.testBit_or]
theorem JI (a b:Nat):(a&&&b) / 2=a / 2&&&b / 2:=by
 apply eq_of_testBit_eq;intro i;simp[Nat.testBit_div_two,testBit_and]
theorem BZ (a b:Nat):(a^^^b) / 2=a / 2^^^b / 2:=by
 apply eq_of_testBit_eq;intro i;simp[Nat.testBit_div_two,testBit_xor]
theorem or_sum (a:Nat):∀b:Nat,a||| b=(a^^^b) + (a&&&b):=by
 induction a using Nat.strongRecOn with
 | ind a ih=>
   intro b;by_cases ha:a=0
   ·subst ha;simp
   ·have h:=ih (a / 2) (by omega) (b / 2);have O:=Nat.div_add_mod (a||| b) 2;have L:=Nat.div_add_mod (a^^^b) 2;have G:=Nat.div_add_mod (a&&&b) 2;rw[Mx] at O;rw[BZ] at L;rw[JI] at G;have α:(a||| b) % 2=(a % 2||| b % 2):=by have:=@Nat.or_mod_two_pow a b 1;simpa using this
    have Z:(a^^^b) % 2=(a % 2^^^b % 2):=by have:=@Nat.xor_mod_two_pow a b 1;simpa using this
    have Y:(a&&&b) % 2=(a % 2&&&b % 2):=by have:=@Nat.and_mod_two_pow a b 1;simpa using this
    have c:(a % 2||| b % 2)=(a % 2^^^b % 2) + (a % 2&&&b % 2):=by
     rcases mod_two_eq_zero_or_one a with h1 | h1<;>rcases mod_two_eq_zero_or_one b with h2 | h2<;>rw[h1,h2]<;>decide
    omega
noncomputable def pb:Nat->Nat->Bool
 | 0,_=>false
 | w + 1,m=>(m.testBit w)^^(pb w m)
theorem Ku (w a b:Nat):pb w (a^^^b)=(pb w a^^pb w b):=by
 induction w with
 | zero=>rfl
 | succ w ih=>
   simp only[pb,testBit_xor,ih];cases a.testBit w<;>cases b.testBit w<;>cases pb w a<;>cases pb w b<;>rfl
theorem xE (h j m:Nat):pb (h + j) m=(pb h m^^pb j (m>>>h)):=by
 induction j with
 | zero=>simp[pb]
 | succ j ih=>
   rw[Nat.add_succ];simp only[pb,ih,Nat.testBit_shiftRight];cases m.testBit (h + j)<;>cases pb h m<;>cases pb j (m>>>h)<;>rfl
theorem Kv (h m:Nat):pb h (m % 2 ^ h)=pb h m:=by
 suffices ∀j,j<=h->pb j (m % 2 ^ h)=pb j m from this h (le_refl h)
 intro j
 induction j with
 | zero=>intro _;rfl
 | succ j ih=>
   intro G;simp only[pb];rw[ih (by omega),Nat.testBit_mod_two_pow];simp[show j < h by omega]
theorem L9 (w j m:Nat) (hm:m < 2 ^ w):pb (w + j) m=pb w m:=by
 rw[xE,shiftRight_eq_div_pow,Nat.div_eq_of_lt hm]
 have:∀j,pb j 0=false:=by intro j;induction j with
  | zero=>rfl
  | succ j ih=>simp[pb,ih]
 rw[this];simp
theorem pb_up {w G m:Nat} (hm:m < 2 ^ w) (h:w<=G):pb G m=pb w m:=by
 obtain⟨j,rfl⟩:=Nat.exists_eq_add_of_le h;exact L9 w j m hm
theorem pb_fold (w h m:Nat) (hw:h<=w) (hm:m < 2 ^ w) (h2:w<=2 * h):pb h ((m>>>h)^^^(m&&&(2 ^ h - 1)))=pb w m:=by
 rw[Nat.and_two_pow_sub_one_eq_mod,Ku,Kv];obtain⟨j,rfl⟩:=Nat.exists_eq_add_of_le hw;rw[xE]
 have G:m>>>h < 2 ^ j:=by
  rw[shiftRight_eq_div_pow];exact Nat.div_lt_of_lt_mul (by rw[<-pow_add];exact hm)
 rw[pb_up G (show j<=h by omega)];cases pb j (m>>>h)<;>cases pb h m<;>rfl
theorem fold_lt (w h m:Nat) (hm:m < 2 ^ w) (h2:w<=2 * h):(m>>>h)^^^(m&&&(2 ^ h - 1)) < 2 ^ h:=by
 apply Nat.xor_lt_two_pow
 ·rw[shiftRight_eq_div_pow];refine Nat.div_lt_of_lt_mul ?_;rw[<-pow_add];exact lt_of_lt_of_le hm (pow_le_pow_right (by decide) (by omega))
 ·rw[Nat.and_two_pow_sub_one_eq_mod];exact Nat.mod_lt _ (two_pow_pos h)
noncomputable def pl (w m:Nat):List Nat:=(List.range w).filter m.testBit
theorem pl_up {w G m:Nat} (hm:m < 2 ^ w) (h:w<=G):pl G m=pl w m:=by
 obtain⟨j,rfl⟩:=Nat.exists_eq_add_of_le h;unfold pl;rw[List.range_add,filter_append]
 have:List.filter m.testBit (List.map (λx=>w + x) (List.range j))=[]:=by
  rw[List.filter_eq_nil_iff];intro a ha;obtain⟨k,_,rfl⟩:=mem_map.mp ha;rw[testBit_lt_two_pow (lt_of_lt_of_le hm (pow_le_pow_right (by decide) (Nat.le_add_right w k)))];simp
 rw[this,append_nil]
noncomputable def xm (ps:List Nat):Nat:=ps.foldl (λa p=>a^^^2 ^ p) 0
theorem K4 (ps:List Nat):∀(a k:Nat),(ps.foldl (λa p=>a^^^2 ^ p) a).testBit k=(a.testBit k^^(ps.count k % 2 == 1)):=by
 induction ps with
 | nil=>intro a k;simp
 | cons p ps ih=>
   intro a k;rw[List.foldl_cons,ih,testBit_xor,testBit_two_pow,List.count_cons];by_cases h:p=k
   ·subst h;simp only[decide_true,beq_self_eq_true,if_true];rcases mod_two_eq_zero_or_one (List.count p ps) with z | z
    ·have e:(List.count p ps + 1) % 2=1:=by omega
     rw[z,e];cases a.testBit p<;>rfl
    ·have e:(List.count p ps + 1) % 2=0:=by omega
     rw[z,e];cases a.testBit p<;>rfl
   ·have hb:(p == k)=false:=beq_eq_false_iff_ne.mpr h;simp[hb,h]
theorem M9 (ps:List Nat) (k:Nat):(xm ps).testBit k=(ps.count k % 2 == 1):=by
 unfold xm;rw[K4];simp
theorem p5 (w k:Nat) (p:Nat->Bool):((List.range w).filter p).count k=if k < w/\p k=true then 1 else 0:=by
 have nd:((List.range w).filter p).Nodup:=List.Pairwise.filter p List.nodup_range;by_cases h:k < w/\p k=true
 ·rw[if_pos h];have hm:k∈(List.range w).filter p:=mem_filter.mpr ⟨mem_range.mpr h.1,h.2⟩;exact List.Nodup.count nd |>.trans (by rw[if_pos hm])
 ·rw[if_neg h];refine List.count_eq_zero.mpr λhm=>h ?_;obtain⟨a,b⟩:=mem_filter.mp hm;exact⟨mem_range.mp a,b⟩
theorem Ju (w m k:Nat):(pl w m).count k=if k < w/\m.testBit k=true then 1 else 0:=p5 w k m.testBit
theorem xm_ext {w m:Nat} {ps:List Nat} (hm:m < 2 ^ w) (h:∀k,ps.count k % 2=(pl w m).count k % 2):xm ps=m:=by
 apply eq_of_testBit_eq;intro k;rw[M9,h,Ju];by_cases hk:k < w
 ·cases e:m.testBit k<;>simp[hk,e]
 ·rw[testBit_lt_two_pow (lt_of_lt_of_le hm (pow_le_pow_right (by decide) (Nat.not_lt.mp hk)))];simp[hk]
noncomputable def Span:List Nat->Nat->Prop
 | [],x=>x=0
 | r::rs,x=>Span rs x∨Span rs (x^^^r)
theorem span_zero:∀rs:List Nat,Span rs 0
 | []=>rfl
 | _::rs=> .inl (span_zero rs)
theorem cF (x r:Nat):x^^^r^^^r=x:=by rw[xor_assoc,xor_self,xor_zero]
theorem gi (a b c:Nat):a^^^b^^^c=a^^^c^^^b:=by rw[xor_assoc,xor_comm b c,<-xor_assoc]
theorem span_snoc:∀(rs:List Nat) (r x:Nat),Span (rs++[r]) x↔Span rs x∨Span rs (x^^^r)
 | [],r,x=>Iff.rfl
 | q::rs,r,x=>by
   show Span (rs++[r]) x∨Span (rs++[r]) (x^^^q)↔(Span rs x∨Span rs (x^^^q))∨(Span rs (x^^^r)∨Span rs (x^^^r^^^q));rw[span_snoc rs r x,span_snoc rs r (x^^^q),gi x q r];constructor
   ·rintro((h | h) | (h | h))
    ·exact .inl (.inl h)
    ·exact .inr (.inl h)
    ·exact .inl (.inr h)
    ·exact .inr (.inr h)
   ·rintro((h | h) | (h | h))
    ·exact .inl (.inl h)
    ·exact .inr (.inl h)
    ·exact .inl (.inr h)
    ·exact .inr (.inr h)
theorem span_xor:∀{rs:List Nat} {x y:Nat},Span rs x->Span rs y->Span rs (x^^^y)
 | [],x,y,h,k=>by
   have h:x=0:=h;have k:y=0:=k;subst h;subst k;exact rfl
 | r::rs,x,y,h,k=>by
   rcases h with h | h<;>rcases k with k | k
   ·exact .inl (span_xor h k)
   ·refine .inr ?_;have:=span_xor h k;rwa [<-xor_assoc] at this
   ·refine .inr ?_;have:=span_xor h k;rwa [gi] at this
   ·refine .inl ?_;have:=span_xor h k;rwa [<-xor_assoc,gi x r y,cF] at this
noncomputable def sm:List Nat->Nat->Nat
 | [],_=>0
 | r::rs,p=>(if p.testBit 0 then r else 0)^^^sm rs (p / 2)
theorem sm_zero:∀rs:List Nat,sm rs 0=0
 | []=>rfl
 | r::rs=>by show(if (0:Nat).testBit 0 then r else 0)^^^sm rs (0 / 2)=0;rw[show(0:Nat) / 2=0 from rfl,sm_zero rs];simp
theorem xor4 (a b c d:Nat):a^^^b^^^(c^^^d)=a^^^c^^^(b^^^d):=by
 rw[xor_assoc,<-xor_assoc b c d,xor_comm b c,xor_assoc c b d,<-xor_assoc a c]
theorem sm_xor:∀(rs:List Nat) (p q:Nat),sm rs (p^^^q)=sm rs p^^^sm rs q
 | [],p,q=>by show(0:Nat)=0^^^0;simp
 | r::rs,p,q=>by
   show(if (p^^^q).testBit 0 then r else 0)^^^sm rs ((p^^^q) / 2)=((if p.testBit 0 then r else 0)^^^sm rs (p / 2))^^^((if q.testBit 0 then r else 0)^^^sm rs (q / 2));rw[BZ,sm_xor rs,testBit_xor,xor4];congr 1;cases p.testBit 0<;>cases q.testBit 0<;>simp
theorem l9:∀(rs:List Nat) (r p:Nat),sm (rs++[r]) p=sm rs p^^^(if p.testBit rs.length then r else 0)
 | [],r,p=>by show(if p.testBit 0 then r else 0)^^^0=0^^^_;rw[xor_zero,zero_xor];rfl
 | q::rs,r,p=>by
   show(if p.testBit 0 then q else 0)^^^sm (rs++[r]) (p / 2)=((if p.testBit 0 then q else 0)^^^sm rs (p / 2))^^^_;rw[l9 rs r (p / 2),Nat.testBit_div_two,xor_assoc];rfl
theorem ka {rs:List Nat} {r p:Nat} (h:p < 2 ^ rs.length):sm (rs++[r]) p=sm rs p:=by
 rw[l9,testBit_lt_two_pow h];simp
theorem Kk (rs:List Nat) (r:Nat):sm (rs++[r]) (2 ^ rs.length)=r:=by
 rw[l9]
 have e:sm rs (2 ^ rs.length)=0:=by
  have:∀(rs:List Nat) (k:Nat),rs.length<=k->sm rs (2 ^ k)=0:=by
   intro rs
   induction rs with
   | nil=>intro k _;rfl
   | cons q rs ih=>
     intro k hk;have hk:rs.length + 1<=k:=hk;obtain⟨j,rfl⟩:∃j,k=j + 1:=⟨k - 1,by omega⟩;show(if (2 ^ (j + 1)).testBit 0 then q else 0)^^^sm rs (2 ^ (j + 1) / 2)=0;have L:(2 ^ (j + 1)) / 2=2 ^ j:=by rw[pow_succ];omega
     have G:(2 ^ (j + 1)).testBit 0=false:=by rw[testBit_two_pow];simp
     rw[L,G,ih j (by omega)];simp
  exact this rs _ (le_refl _)
 rw[e,Nat.testBit_two_pow_self];simp
theorem sm_span:∀(rs:List Nat) (p:Nat),Span rs (sm rs p)
 | [],p=>rfl
 | r::rs,p=>by
   show Span rs _∨Span rs _;have ih:=sm_span rs (p / 2);cases h:p.testBit 0 with
   | true=>refine .inr ?_;rw[show sm (r::rs) p=r^^^sm rs (p / 2) from by show(if p.testBit 0 then r else 0)^^^_=_;rw[h];rfl,xor_comm r,cF];exact ih
   | false=>refine .inl ?_;rw[show sm (r::rs) p=sm rs (p / 2) from by show(if p.testBit 0 then r else 0)^^^_=_;rw[h];simp];exact ih
theorem xh:∀{rs:List Nat} {x:Nat},Span rs x->∃p,p < 2 ^ rs.length/\sm rs p=x
 | [],x,h=>⟨0,Nat.one_pos,(show x=0 from h).symm⟩
 | r::rs,x,h=>by
   rcases h with h | h
   ·obtain⟨p,G,e⟩:=xh h;refine⟨2 * p,by rw[length_cons,pow_succ];omega,?_⟩;show(if (2 * p).testBit 0 then r else 0)^^^sm rs (2 * p / 2)=x;rw[show 2 * p / 2=p by omega,show(2 * p).testBit 0=false by simp[Nat.testBit_zero],e];simp
   ·obtain⟨p,G,e⟩:=xh h;refine⟨2 * p + 1,by rw[length_cons,pow_succ];omega,?_⟩;show(if (2 * p + 1).testBit 0 then r else 0)^^^sm rs ((2 * p + 1) / 2)=x;rw[show(2 * p + 1) / 2=p by omega,show(2 * p + 1).testBit 0=true by simp[Nat.testBit_zero],e];show r^^^(x^^^r)=x;rw[xor_comm,cF]
theorem Gq {x t:Nat} (h1:2 ^ t<=x) (h2:x < 2 ^ (t + 1)):x.log2=t:=by
 have G:x≠0:=by have:=two_pow_pos t;omega
 have a:=(log2_lt G).mpr h2;have b:t<=x.log2:=(Nat.le_log2 G).mpr h1;omega
theorem p7 {x:Nat} (h:x≠0):x.testBit x.log2=true:=by
 have:=Nat.testBit_log2 h;exact this
theorem xor_lt_pow {x y t:Nat} (h1:x < 2 ^ t) (h2:y < 2 ^ t):x^^^y < 2 ^ t:=Nat.xor_lt_two_pow h1 h2
theorem Im {x y:Nat} (hx:x≠0) (hy:y≠0) (h:x.log2=y.log2):x^^^y < 2 ^ x.log2:=by
 have h1:x^^^y < 2 ^ (x.log2 + 1):=xor_lt_pow lt_log2_self (by rw[h];exact lt_log2_self)
 have hb:(x^^^y).testBit x.log2=false:=by
  rw[testBit_xor,p7 hx,show y.testBit x.log2=true by rw[h];exact p7 hy];rfl
 apply Nat.lt_pow_two_of_testBit;intro i hi;rcases Nat.lt_or_eq_of_le hi with hi | hi
 ·exact testBit_lt_two_pow (lt_of_lt_of_le h1 (pow_le_pow_right (by decide) hi))
 ·rw[<-hi];exact hb
theorem xor_less {x y:Nat} (hx:x≠0) (hy:y≠0) (h:x.log2=y.log2):x^^^y < x:=
 lt_of_lt_of_le (Im hx hy h) (Nat.log2_self_le hx)
theorem oP {x y:Nat} (hy:y≠0) (h:x < 2 ^ y.log2):(x^^^y).log2=y.log2:=by
 have h1:x^^^y < 2 ^ (y.log2 + 1):=xor_lt_pow (lt_of_lt_of_le h (pow_le_pow_right (by decide) (by omega))) lt_log2_self;have hb:(x^^^y).testBit y.log2=true:=by rw[testBit_xor,testBit_lt_two_pow h,p7 hy];rfl
 exact Gq (Nat.ge_two_pow_of_testBit hb) h1
theorem AS {x y:Nat} (hx:x≠0) (hy:y≠0) (h:x.log2≠y.log2):(x^^^y).log2=x.log2∨(x^^^y).log2=y.log2:=by
 rcases Nat.lt_or_gt_of_ne h with h | h
 ·exact .inr (oP hy (lt_of_lt_of_le lt_log2_self (pow_le_pow_right (by decide) h)))
 ·refine .inl ?_;rw[xor_comm];exact oP hx (lt_of_lt_of_le lt_log2_self (pow_le_pow_right (by decide) h))
def Fre (rows:List Nat) (i:Nat):Prop:=i < rows.length/\¬Span (rows.take i) (rows.getD i 0)
theorem Fre.snoc {rows:List Nat} {i:Nat} (r:Nat) (h:Fre rows i):Fre (rows++[r]) i:=by
 obtain⟨hi,hn⟩:=h;refine⟨by rw[length_append];omega,?_⟩;rw[List.take_append_of_le_length (le_of_lt hi),getD_eq_getElem?_getD,getElem?_append_left hi,<-getD_eq_getElem?_getD];exact hn
theorem Fre.last {rows:List Nat} {r:Nat} (h:¬Span rows r):Fre (rows++[r]) rows.length:=by
 refine⟨by rw[length_append];simp,?_⟩;rw[List.take_left,getD_eq_getElem?_getD,getElem?_append_right (le_refl _),sub_self];exact h
def Frs (rows:List Nat) (q:Nat):Prop:=∀i,q.testBit i=true->Fre rows i
theorem Frs.zero (rows:List Nat):Frs rows 0:=λi h=>by rw[zero_testBit] at h;cases h
theorem Frs.xor {rows:List Nat} {p q:Nat} (G:Frs rows p) (hq:Frs rows q):Frs rows (p^^^q):=λi h=>by
 rw[testBit_xor] at h;cases h1:p.testBit i with
 | true=>exact G i h1
 | false=>rw[h1] at h;exact hq i (by simpa using h)
theorem Frs.snoc {rows:List Nat} {q:Nat} (r:Nat) (h:Frs rows q):Frs (rows++[r]) q:=λi hi=>(h i hi).snoc r
theorem Frs.more {rows:List Nat} {q r:Nat} (h:Frs rows q) (G:¬Span rows r):Frs (rows++[r]) (q^^^2 ^ rows.length):=(h.snoc r).xor λi hi=>by
 rw[testBit_two_pow] at hi;have e:rows.length=i:=by simpa using hi
 rw[<-e];exact Fre.last G
structure Ech (es:List (Nat×Nat)) (rows:List Nat):Prop where
 nz:∀e∈es,e.1≠0
 lt:∀e∈es,e.2 < 2 ^ rows.length
 sm:∀e∈es,sm rows e.2=e.1
 nd:(es.map λe=>e.1.log2).Nodup
 all:∀y,Span rows y->y≠0->∃e∈es,e.1.log2=y.log2
 sub:∀e∈es,Frs rows e.2
theorem Ech.nil:Ech [] []:=⟨λ_ h=>absurd h (by simp),λ_ h=>absurd h (by simp),λ_ h=>absurd h (by simp),.nil,λy h n=>absurd h n,λ_ h=>absurd h (by simp)⟩
theorem Ech.span {es:List (Nat×Nat)} {rows:List Nat} (I:Ech es rows) {e:Nat×Nat} (h:e∈es):Span rows e.1:=by
 rw[<-I.sm e h];exact sm_span _ _
theorem Fy {rows:List Nat} {r p:Nat} (h:p < 2 ^ rows.length):sm (rows++[r]) (p^^^2 ^ rows.length)=sm rows p^^^r:=by
 rw[sm_xor,ka h,Kk]
theorem Gk {n p:Nat} (h:p < 2 ^ n):p^^^2 ^ n < 2 ^ (n + 1):=
 xor_lt_pow (lt_of_lt_of_le h (pow_le_pow_right (by decide) (by omega))) (pow_lt_pow_right (by decide) (by omega))
theorem Ech.null {es:List (Nat×Nat)} {rows:List Nat} (I:Ech es rows) {r q:Nat} (hq:q < 2 ^ rows.length) (e:r^^^M.sm rows q=0):Span rows r/\Ech es (rows++[r]):=by
 have G:r=M.sm rows q:=by
  have:=congrArg (·^^^M.sm rows q) e;simpa[cF] using this
 have hs:Span rows r:=by rw[G];exact sm_span _ _
 refine⟨hs,I.nz,λe h=>?_,λe h=>?_,I.nd,λy hy n=>?_,λe h=>(I.sub e h).snoc r⟩
 ·rw[length_append];exact lt_of_lt_of_le (I.lt e h) (pow_le_pow_right (by decide) (by simp))
 ·rw[ka (I.lt e h)];exact I.sm e h
 ·rcases(span_snoc rows r y).mp hy with hy | hy
  ·exact I.all y hy n
  ·have:=span_xor hy hs;rw[cF] at this;exact I.all y this n
theorem Ech.more {es:List (Nat×Nat)} {rows:List Nat} (I:Ech es rows) {r q:Nat} (hq:q < 2 ^ rows.length) (e:r^^^M.sm rows q≠0) (hn:∀e∈es,e.1.log2≠(r^^^M.sm rows q).log2) (hf:Frs rows q):
  ¬Span rows r/\Ech (es++[(r^^^M.sm rows q,q^^^2 ^ rows.length)]) (rows++[r]):=by
 have L:¬Span rows r:=λhs=>by
  obtain⟨x,G,ex⟩:=I.all _ (span_xor hs (sm_span rows q)) e;exact hn x G ex
 refine⟨L,λx h=>?_,λx h=>?_,λx h=>?_,?_,λy hy n=>?_,λx h=>(mem_append.mp h).elim (λh=>(I.sub x h).snoc r) λh=>by rw[mem_singleton] at h;subst h;exact hf.more L⟩
 ·rcases mem_append.mp h with h | h
  ·exact I.nz x h
  ·rw[mem_singleton] at h;subst h;exact e
 ·rw[length_append];rcases mem_append.mp h with h | h
  ·exact lt_of_lt_of_le (I.lt x h) (pow_le_pow_right (by decide) (by simp))
  ·rw[mem_singleton] at h;subst h;exact Gk hq
 ·rcases mem_append.mp h with h | h
  ·rw[ka (I.lt x h)];exact I.sm x h
  ·rw[mem_singleton] at h;subst h;show M.sm _ (q^^^_)=r^^^M.sm rows q;rw[Fy hq,xor_comm]
 ·rw[map_append,nodup_append];refine⟨I.nd,by simp,λa ha b hb=>?_⟩;obtain⟨x,G,rfl⟩:=mem_map.mp ha;rw[map_singleton,mem_singleton] at hb;subst hb;exact hn x G
 ·rcases(span_snoc rows r y).mp hy with hy | hy
  ·obtain⟨x,G,ex⟩:=I.all y hy n;exact⟨x,mem_append_left _ G,ex⟩
  ·
   have hz:=span_xor hy (sm_span rows q)
   have ey:y=(y^^^r^^^M.sm rows q)^^^(r^^^M.sm rows q):=by
    rw[xor4,xor_self,xor_zero,cF]
   generalize Y:y^^^r^^^M.sm rows q=z at hz ey;by_cases O:z=0
   ·refine⟨_,mem_append_right _ (mem_singleton.mpr rfl),?_⟩;show(r^^^M.sm rows q).log2=y.log2;rw[ey,O,zero_xor]
   ·obtain⟨x,G,ex⟩:=I.all z hz O;have ne:z.log2≠(r^^^M.sm rows q).log2:=by rw[<-ex];exact hn x G
    rcases AS O e ne with h | h
    ·exact⟨x,mem_append_left _ G,by rw[ex,ey,h]⟩
    ·refine⟨_,mem_append_right _ (mem_singleton.mpr rfl),?_⟩;show(r^^^M.sm rows q).log2=y.log2;rw[ey,h]
noncomputable def tt (p:Prop):Bool:=@decide p (Classical.propDecidable p)
theorem Nf {p:Prop} (h:p):tt p=true:=@decide_eq_true _ (Classical.propDecidable _) h
theorem Ng {p:Prop} (h:¬p):tt p=false:=@decide_eq_false _ (Classical.propDecidable _) h
noncomputable def fr (rows:List Nat):List Nat:=(List.range rows.length).filter λi=> !tt (Span (rows.take i) (rows.getD i 0))
theorem G4 (rows:List Nat) (r:Nat):fr (rows++[r])=fr rows++(if tt (Span rows r)=true then [] else [rows.length]):=by
 unfold fr;rw[length_append,length_singleton,range_succ,filter_append]
 have G:(List.range rows.length).filter (λi=> !tt (Span ((rows++[r]).take i) ((rows++[r]).getD i 0)))=(List.range rows.length).filter (λi=> !tt (Span (rows.take i) (rows.getD i 0))):=by
  apply List.filter_congr;intro i hi;have hi:=mem_range.mp hi;have a:(rows++[r]).take i=rows.take i:=List.take_append_of_le_length (le_of_lt hi)
  have b:(rows++[r]).getD i 0=rows.getD i 0:=by
   rw[getD_eq_getElem?_getD,getD_eq_getElem?_getD,getElem?_append_left hi]
  rw[a,b]
 rw[G];congr 1;have a:(rows++[r]).take rows.length=rows:=List.take_left
 have b:(rows++[r]).getD rows.length 0=r:=by
  rw[getD_eq_getElem?_getD,getElem?_append_right (le_refl _),sub_self];rfl
 rw[filter_cons,a,b];cases tt (Span rows r)<;>rfl
theorem fr_len (rows:List Nat):(fr rows).length<=rows.length:=by
 have:=length_filter_le (λi=> !tt (Span (rows.take i) (rows.getD i 0))) (List.range rows.length);rw[length_range] at this;exact this
theorem fr_in {rows:List Nat} {r:Nat} (h:Span rows r):fr (rows++[r])=fr rows:=by rw[G4,Nf h];simp
theorem fr_out {rows:List Nat} {r:Nat} (h:¬Span rows r):fr (rows++[r])=fr rows++[rows.length]:=by rw[G4,Ng h];rfl
structure Nul (nms rows:List Nat):Prop where
 lt:∀x∈nms,x < 2 ^ rows.length
 nz:∀x∈nms,x≠0
 sm:∀x∈nms,sm rows x=0
 pw:nms.Pairwise λa b=>a.log2 < b.log2
 len:nms.length + (fr rows).length=rows.length
theorem Nul.nil:Nul [] []:=⟨λ_ h=>absurd h (by simp),λ_ h=>absurd h (by simp),λ_ h=>absurd h (by simp),.nil,rfl⟩
theorem Nul.keep {nms rows:List Nat} (I:Nul nms rows) {r:Nat} (h:¬Span rows r):Nul nms (rows++[r]) where
 lt:=λx G=>by rw[length_append];exact lt_of_lt_of_le (I.lt x G) (pow_le_pow_right (by decide) (by simp))
 nz:=I.nz
 sm:=λx G=>by rw[ka (I.lt x G)];exact I.sm x G
 pw:=I.pw
 len:=by rw[fr_out h,length_append,length_append,<-I.len];simp;omega
theorem y2 {n q:Nat} (h:q < 2 ^ n):q^^^2 ^ n≠0/\(q^^^2 ^ n).log2=n:=by
 have e:(2 ^ n:Nat).log2=n:=Gq (le_refl _) (pow_lt_pow_right (by decide) (by omega));have G:(2 ^ n:Nat)≠0:=by have:=two_pow_pos n;omega
 have hl:=oP (x:=q) G (by rw[e];exact h);refine⟨λz=>?_,by rw[hl,e]⟩;have hb:(q^^^2 ^ n).testBit n=true:=by rw[testBit_xor,testBit_lt_two_pow h,Nat.testBit_two_pow_self];rfl
 rw[z] at hb;simp at hb
theorem log2_under {n q:Nat} (h0:q≠0) (h:q < 2 ^ n):q.log2 < n:=(log2_lt h0).mpr h
theorem Nul.snoc {nms rows:List Nat} (I:Nul nms rows) {r q:Nat} (hq:q < 2 ^ rows.length) (e:r^^^M.sm rows q=0) (hs:Span rows r):Nul (nms++[q^^^2 ^ rows.length]) (rows++[r]) where
 lt:=λx hx=>by
  rw[length_append];rcases mem_append.mp hx with hx | hx
  ·exact lt_of_lt_of_le (I.lt x hx) (pow_le_pow_right (by decide) (by simp))
  ·rw[mem_singleton] at hx;subst hx;exact Gk hq
 nz:=λx hx=>by
  rcases mem_append.mp hx with hx | hx
  ·exact I.nz x hx
  ·rw[mem_singleton] at hx;subst hx;exact(y2 hq).1
 sm:=λx hx=>by
  rcases mem_append.mp hx with hx | hx
  ·rw[ka (I.lt x hx)];exact I.sm x hx
  ·rw[mem_singleton] at hx;subst hx;rw[Fy hq,xor_comm];exact e
 pw:=by
  rw[List.pairwise_append];refine⟨I.pw,List.pairwise_singleton _ _,λa ha b hb=>?_⟩;rw[mem_singleton] at hb;subst hb;rw[(y2 hq).2];exact log2_under (I.nz a ha) (I.lt a ha)
 len:=by rw[fr_in hs,length_append,length_append,<-I.len];simp;omega
def Inj (ws:List Nat):Prop:=∀p,p < 2 ^ ws.length->sm ws p=0->p=0
theorem Lz {t:Nat}:∀{ws:List Nat} (p:Nat),(∀x∈ws,x < 2 ^ t)->sm ws p < 2 ^ t
 | [],p,_=>two_pow_pos t
 | w::ws,p,h=>by
   refine xor_lt_pow ?_ (Lz _ λx G=>h x (mem_cons_of_mem _ G));split
   ·exact h w (mem_cons_self ..)
   ·exact two_pow_pos t
theorem BP:∀(n:Nat) (l:List Nat),l.Nodup->(∀x∈l,x < n)->l.length<=n
 | 0,l,_,h=>by
   cases l with
   | nil=>exact le_refl _
   | cons x r=>exact absurd (h x (mem_cons_self ..)) (not_lt_zero _)
 | n + 1,l,nd,h=>by
   have ih:=BP n (l.erase n) (nd.erase n) λx G=>by
    have hm:=(nd.mem_erase_iff).mp G;have:=h x hm.2;have:=hm.1;omega
   by_cases hm:n∈l
   ·rw[List.length_erase_of_mem hm] at ih;omega
   ·rw[List.erase_of_not_mem hm] at ih;omega
theorem span_lt {t:Nat}:∀{rs:List Nat} {x:Nat},(∀r∈rs,r < 2 ^ t)->Span rs x->x < 2 ^ t
 | [],x,_,h=>by have h:x=0:=h;rw[h];exact two_pow_pos t
 | r::rs,x,b,h=>by
   have ih:=λx=>span_lt (rs:=rs) (x:=x) λy G=>b y (mem_cons_of_mem _ G);rcases h with h | h
   ·exact ih x h
   ·have:=xor_lt_pow (ih _ h) (b r (mem_cons_self ..));rwa [cF] at this
structure Sums (ks rows:List Nat):Prop where
 nd:ks.Nodup
 all:∀x,x∈ks↔Span rows x
theorem Sums.zero:Sums [0] []:=⟨by simp,λx=>by rw[mem_singleton];exact Iff.rfl⟩
theorem K0 {a b r:Nat} (h:a^^^r=b^^^r):a=b:=by
 have:=congrArg (·^^^r) h;simpa[cF] using this
theorem Sums.step {ks rows:List Nat} (S:Sums ks rows) {r:Nat} (h:¬Span rows r):Sums (ks++ks.map (·^^^r)) (rows++[r]):=by
 refine⟨?_,λx=>?_⟩
 ·rw[nodup_append];refine⟨S.nd,?_,λa ha b hb e=>?_⟩
  ·exact List.Pairwise.map _ (λa b G e=>G (K0 e)) S.nd
  ·obtain⟨c,O,rfl⟩:=mem_map.mp hb;subst e;have:=span_xor ((S.all _).mp ha) ((S.all _).mp O);rw[gi,xor_self,zero_xor] at this;exact h this
 ·rw[mem_append,span_snoc,S.all,mem_map];constructor
  ·rintro(h | ⟨y,L,rfl⟩)
   ·exact .inl h
   ·refine .inr ?_;rw[cF];exact(S.all _).mp L
  ·rintro(h | h)
   ·exact .inl h
   ·exact .inr ⟨x^^^r,(S.all _).mpr h,cF x r⟩
theorem Sums.keep {ks rows:List Nat} (S:Sums ks rows) {r:Nat} (h:Span rows r):Sums ks (rows++[r]):=
 ⟨S.nd,λx=>by
  rw[S.all,span_snoc];refine⟨.inl,λq=>q.elim id λq=>?_⟩;have:=span_xor q h;rwa [cF] at this⟩
theorem Sums.few {ks rows:List Nat} (S:Sums ks rows) {t:Nat} (h:∀r∈rows,r < 2 ^ t):ks.length<=2 ^ t:=BP _ _ S.nd λx G=>span_lt h ((S.all x).mp G)
end M
namespace Sx
open PySem L2
noncomputable abbrev nat (k:Nat):V:= .int (k:Int)
theorem qx {k:Nat} {A:Around} (r:Room k A):A.units + 100 < cLine:=by have:=r.un;omega
theorem iteB {c:Bool} {A B:Prop} (h1:c=true->A) (h2:c=false->B):if c=true then A else B:=by
 cases c
 ·rw[if_neg Bool.false_ne_true];exact h2 rfl
 ·rw[if_pos rfl];exact h1 rfl
theorem xA (h:Nat):(2:Int) ^ h=((2 ^ h:Nat):Int):=by norm_cast
theorem shl1 (k:Nat):(1:Int) * 2 ^ ((k:Int).toNat)=((2 ^ k:Nat):Int):=by rw[Int.toNat_natCast,Int.one_mul];norm_cast
theorem HA (a b:Nat):Builtin.bitOr (a:Int) (b:Int)=((a||| b:Nat):Int):=by
 have L:Builtin.bitNot (a:Int)= -(a:Int) - 1:=by first | rfl | (unfold Builtin.bitNot;omega)
 have G:Builtin.bitNot (b:Int)= -(b:Int) - 1:=by first | rfl | (unfold Builtin.bitNot;omega)
 unfold Builtin.bitOr Builtin.bitAnd;rw[decide_eq_false (show ¬(0:Int)<=Builtin.bitNot (a:Int) by rw[L];omega),decide_eq_false (show ¬(0:Int)<=Builtin.bitNot (b:Int) by rw[G];omega)];have n:∀x:Int,Builtin.bitNot (Builtin.bitNot x)=x:=λx=>by unfold Builtin.bitNot;omega
 simp only[n,Int.toNat_natCast]
theorem cI (a b:Nat):Builtin.bitXor (a:Int) (b:Int)=((a^^^b:Nat):Int):=by
 unfold Builtin.bitXor;rw[HA,dE];have:=M.or_sum a b;omega
theorem zS:Builtin.Int.intBits ((0:Nat):Int)=0:=by decide
theorem nh {m:Nat} (h:m≠0):Builtin.Int.intBits (m:Int)=m.log2 + 1:=by
 unfold Builtin.Int.intBits;have e:((m:Int) == 0)=false:=by rw[beq_eq_false_iff_ne];omega
 rw[e,if_neg Bool.false_ne_true,Int.natAbs_natCast]
theorem Cd (m i:Nat):Builtin.bitAnd ((m:Int) / 2 ^ ((0 + (i:Int)).toNat)) 1=if m.testBit i then 1 else 0:=by
 have L:(0 + (i:Int)).toNat=i:=by omega
 rw[L,xA];have G:(m:Int) / ((2 ^ i:Nat):Int)=((m>>>i:Nat):Int):=by rw[shiftRight_eq_div_pow];norm_cast
 rw[G,show(1:Int)=((1:Nat):Int) from rfl,dE,Nat.and_one_is_mod]
 have:m.testBit i=(m>>>i % 2 == 1):=by
  rw[Nat.testBit_eq_decide_div_mod_eq,shiftRight_eq_div_pow];rcases mod_two_eq_zero_or_one (m / 2 ^ i) with h | h<;>rw[h]<;>rfl
 rw[this];rcases mod_two_eq_zero_or_one (m>>>i) with h | h<;>rw[h]<;>rfl
structure En where
 a:Addr
 m:Nat
 p:Nat
noncomputable def pN (es:List En):List (Key×V):=es.map λe=>(Sum.inl ((e.m.log2:Nat):Int),V.ref e.a)
theorem tS:∀(es:List En) (z:Int),(∃e∈es,((e.m.log2:Nat):Int)=z/\valV (pN es) (Sum.inl z)=some (.ref e.a))∨((∀e∈es,((e.m.log2:Nat):Int)≠z)/\valV (pN es) (Sum.inl z)=none)
 | [],z=> .inr ⟨λ_ h=>absurd h (by simp),rfl⟩
 | e::es,z=>by
   by_cases h:((e.m.log2:Nat):Int)=z
   ·exact .inl ⟨e,mem_cons_self ..,h,kD (by show(Sum.inl _:Key)=_;rw[h])⟩
   ·have G:valV (pN (e::es)) (Sum.inl z)=valV (pN es) (Sum.inl z):=kE (by show ¬(Sum.inl _:Key)=_;intro q;exact h (Sum.inl.inj q));rcases tS es z with ⟨x,hx,O,L⟩ | ⟨h1,h2⟩
    ·exact .inl ⟨x,mem_cons_of_mem _ hx,O,by rw[G];exact L⟩
    ·refine .inr ⟨λx hx=>?_,by rw[G];exact h2⟩;rcases mem_cons.mp hx with rfl | hx
     ·exact h
     ·exact h1 x hx
theorem BI {kvs:List (Key×V)} {k:Key} {v:V} (h:valV kvs k=none):putK kvs k v=kvs++[(k,v)]:=by
 unfold putK;rw[o3,h];rfl
structure StA (H:Hp) (C p d f n:Addr) (rows:List Nat):Prop where
 ho:∃dx,H p=some (.ins C dx [("by_top",.ref d),("free_places",.ref f),("null_masks",.ref n)])
 he:∃es:List En,H d=some (.dK (pN es))/\(∀e∈es,H e.a=some (.tup [nat e.m,nat e.p]))/\M.Ech (es.map λe=>(e.m,e.p)) rows/\es.length=(M.fr rows).length
 hf:H f=some (.lst ((M.fr rows).map nat))
 hn:∃nms,H n=some (.lst (nms.map nat))/\M.Nul nms rows
 ne:f≠n
theorem StA.same {H H2:Hp} {C p d f n:Addr} {rows:List Nat} (x:StA H C p d f n rows) (s:Same H H2):StA H2 C p d f n rows where
 ho:=let ⟨dx,h⟩:=x.ho;⟨dx,s _ _ h⟩
 he:=let ⟨es,h,t,g,l⟩:=x.he;⟨es,s _ _ h,λe he=>s _ _ (t e he),g,l⟩
 hf:=s _ _ x.hf
 hn:=let ⟨nms,h,g⟩:=x.hn;⟨nms,s _ _ h,g⟩
 ne:=x.ne
theorem StA.null {H H2:Hp} {C p d f n:Addr} {rows:List Nat} (x:StA H C p d f n rows) {r q:Nat} (hq:q < 2 ^ rows.length) (e:r^^^M.sm rows q=0) {nms:List Nat} (hn:M.Nul nms rows) (hl:H n=some (.lst (nms.map nat)))
  (u:Upd H H2 n (.lst (nms.map nat++[nat (q^^^2 ^ rows.length)]))):StA H2 C p d f n (rows++[r]):=by
 obtain⟨dx,ho⟩:=x.ho;obtain⟨es,hd,ht,g,l⟩:=x.he;obtain⟨hs,g2⟩:=g.null hq e;refine⟨⟨dx,u.oth _ _ (b4 ho hl (by simp)) ho⟩,⟨es,u.oth _ _ (b4 hd hl (by simp)) hd,λe he=>u.oth _ _ (b4 (ht e he) hl (by simp)) (ht e he),g2,by rw[M.fr_in hs];exact l⟩,?_,⟨nms++[q^^^2 ^ rows.length],?_,hn.snoc hq e hs⟩,x.ne⟩
 ·rw[M.fr_in hs];exact u.oth _ _ x.ne x.hf
 ·rw[map_append];exact u.at'
theorem StA.more {H H2 β α:Hp} {C p d f n t:Addr} {rows:List Nat} (x:StA H C p d f n rows) {r q:Nat} (hq:q < 2 ^ rows.length) (e:r^^^M.sm rows q≠0) (hn:∀y,M.Span rows y->y≠0->y.log2≠(r^^^M.sm rows q).log2) (hf:M.Frs rows q)
  (u:Upd H H2 f (.lst ((M.fr rows).map nat++[nat rows.length]))) (s:Same H2 β) (ht:β t=some (.tup [nat (r^^^M.sm rows q),nat (q^^^2 ^ rows.length)])) {es:List En} (hd:H d=some (.dK (pN es))) (G:∀e∈es,H e.a=some (.tup [nat e.m,nat e.p])) (g:M.Ech (es.map λe=>(e.m,e.p)) rows) (l:es.length=(M.fr rows).length)
  (Y:Upd β α d (.dK (putK (pN es) (Sum.inl (((r^^^M.sm rows q).log2:Nat):Int)) (.ref t)))):StA α C p d f n (rows++[r]):=by
 obtain⟨dx,ho⟩:=x.ho;obtain⟨nms,L,δ⟩:=x.hn;have O:∀e∈es.map (λe=>(e.m,e.p)),e.1.log2≠(r^^^M.sm rows q).log2:=λe he=>hn e.1 (g.span he) (g.nz e he);obtain⟨hs,g2⟩:=g.more hq e O hf;have Z:=s _ _ (u.oth _ _ (b4 hd x.hf (by simp)) hd)
 have γ:valV (pN es) (Sum.inl (((r^^^M.sm rows q).log2:Nat):Int))=none:=by
  rcases tS es (((r^^^M.sm rows q).log2:Nat):Int) with ⟨z,hz,ε,_⟩ | ⟨_,h⟩
  ·exact absurd (Int.ofNat_inj.mp ε) (O (z.m,z.p) (mem_map.mpr ⟨z,hz,rfl⟩))
  ·exact h
 have go:∀(b:Addr) (ob:HO),H b=some ob->b≠f->b≠d->α b=some ob:=λb ob h h1 h2=>Y.oth _ _ h2 (s _ _ (u.oth _ _ h1 h));refine⟨⟨dx,go _ _ ho (b4 ho x.hf (by simp)) (b4 ho hd (by simp))⟩,⟨es++[⟨t,r^^^M.sm rows q,q^^^2 ^ rows.length⟩],?_,λe he=>?_,?_,?_⟩,?_,⟨nms,go _ _ L (Ne.symm x.ne) (b4 L hd (by simp)),δ.keep hs⟩,x.ne⟩
 ·rw[Y.at',BI γ];unfold pN;rw[map_append];rfl
 ·rcases mem_append.mp he with he | he
  ·exact go _ _ (G e he) (b4 (G e he) x.hf (by simp)) (b4 (G e he) hd (by simp))
  ·rw[mem_singleton] at he;subst he;exact Y.oth _ _ (b4 ht Z (by simp)) ht
 ·rw[map_append];exact g2
 ·rw[M.fr_out hs,length_append,length_append,l];rfl
 ·rw[M.fr_out hs,map_append];exact Y.oth _ _ (λz=>by rw[z] at x;have:=x.hf;rw[hd] at this;cases this) (s _ _ u.at')
def Nw (C:Addr):Sp:=λvs H Q _=>∃p d f n rows x,vs=[.ref p,nat x]/\StA H C p d f n rows/\
 ∀t H2 q,H t=none->Same H H2->H2 t=some (.tup [nat (x^^^M.sm rows q),nat q])->q < 2 ^ rows.length->(x^^^M.sm rows q≠0->∀y,M.Span rows y->y≠0->y.log2≠(x^^^M.sm rows q).log2)->M.Frs rows q->Q (.ref t) H2
def Nx (C:Addr):Sp:=λvs H Q _=>∃p d f n rows r,vs=[.ref p,nat rows.length,nat r]/\StA H C p d f n rows/\rows.length<=1000/\
 ∀H2,(∀b o,b≠d->b≠f->b≠n->H b=some o->H2 b=some o)->StA H2 C p d f n (rows++[r])->Q .non H2
def Lh (C:Addr):Sp:=λvs H Q _=>∃x dx r rows,vs=[.ref x,.ref r]/\H r=some (.lst (rows.map nat))/\rows.length<=1000/\H x=some (.ins C dx [])/\
 ∀H2 d f n,(∀b o,b≠x->H b=some o->H2 b=some o)->StA H2 C x d f n rows->Q .non H2
theorem aF {α:Type} {f:α->V} {ws:List α} {i:Nat} {x:V} (h:(ws.map f)[i]? =some x):∃k,ws[i]? =some k/\x=f k:=by
 rw[getElem?_map] at h;cases e:ws[i]? with
 | none=>rw[e] at h;cases h
 | some k=>rw[e] at h;exact⟨k,rfl,(Option.some.inj h).symm⟩
theorem take_succ {α:Type} {ws:List α} {i:Nat} {w:α} (h:ws[i]? =some w):ws.take (i + 1)=ws.take i++[w]:=by rw[List.take_succ,h];rfl
theorem Bv {α:Type} {ws:List α} {i:Nat} {w:α} (h:ws[i]? =some w):(ws.take i).length=i:=by
 rw[length_take];have:=(List.getElem?_eq_some_iff.mp h).1;omega
theorem G7 (ns:List Nat):(ns.map nat).all nL=true:=by simp[nL]
theorem BY {A:Around} {k:Nat} (G:Room k A):A.units < cLine:=by have:=G.un;omega
def Kj:Sp:=λvs H Q _=>∃c k,vs=[.int c,.int k]/\0<=k/\k < 100000/\∀r:Nat,r < 2147483587->Q (nat r) H
def By (K:PySem.W.Frag):Sp:=λvs H Q _=>∃(a:Addr) (ns:List Int),vs=[.ref a]/\SqL K H a (ns.map V.int)/\ns.length<=63/\∀H',Q (.bl true) H'
theorem Pr {H:Hp} {Q:VK} {E:XK} {c k:Int} (h0:0<=k) (h1:k < 100000) (q:∀r:Nat,r < 2147483587->Q (nat r) H):Kj [.int c,.int k] H Q E:=⟨c,k,rfl,h0,h1,q⟩
structure Prs (H:Hp) (ws:List Nat) (D:Addr) (ps:List (Addr×Nat)):Prop where
 l:H D=some (.lst (ps.map λq=>V.ref q.1))
 t:∀q∈ps,H q.1=some (.tup [nat q.2,nat (M.sm ws q.2)])
 b:∀q∈ps,q.2 < 2 ^ ws.length
end Sx
namespace M
theorem wD:∀(l:List Nat) (j:Nat),sm l (2 ^ j)=l.getD j 0
 | [],j=>by simp[sm]
 | r::l,0=>by
   show(if (2 ^ 0).testBit 0 then r else 0)^^^sm l (2 ^ 0 / 2)=r;rw[show(2 ^ 0:Nat) / 2=0 from rfl,sm_zero];simp
 | r::l,j + 1=>by
   show(if (2 ^ (j + 1)).testBit 0 then r else 0)^^^sm l (2 ^ (j + 1) / 2)=l.getD j 0;have L:(2 ^ (j + 1)) / 2=2 ^ j:=by rw[pow_succ];omega
   have G:(2 ^ (j + 1)).testBit 0=false:=by rw[testBit_two_pow];simp
   rw[L,G,wD l j];simp
theorem Jc {P:List Nat->Prop} (h0:P []) (hs:∀l w,P l->P (l++[w])):∀l,P l:=by
 intro l;rw[<-List.reverse_reverse l];generalize l.reverse=k
 induction k with
 | nil=>exact h0
 | cons a k ih=>rw[reverse_cons];exact hs _ _ ih
theorem pl_next (i m:Nat):pl (i + 1) m=pl i m++(if m.testBit i then [i] else []):=by
 unfold pl;rw[range_succ,filter_append];congr 1;by_cases h:m.testBit i=true
 ·rw[if_pos h];simp[h]
 ·rw[if_neg h];simp[h]
theorem pl_lt {w m n:Nat} (h:m < 2 ^ n):∀x∈pl w m,x < n:=by
 intro x G;have hb:=(mem_filter.mp G).2;refine Nat.lt_of_not_le λhn=>?_;rw[testBit_lt_two_pow (lt_of_lt_of_le h (pow_le_pow_right (by decide) hn))] at hb;cases hb
noncomputable def xs (rows ps:List Nat):Nat:=ps.foldl (λa k=>a^^^rows.getD k 0) 0
end M
namespace Sx
open PySem L2
theorem Mg (l:List Nat):l.map nat=(l.map λ(k:Nat)=>(k:Int)).map V.int:=by rw[map_map];rfl
section
variable {H:Hp} {Q:VK}
theorem JQ (l:List Nat):eqVs (l.map nat) []=l.isEmpty:=by
 unfold eqVs;cases l with
 | nil=>rfl
 | cons x l=>simp
theorem LQ {K:PySem.W.Frag} {neg:Bool} {p q:Addr} {l:List Nat} (e:SqL K H p (l.map nat)) (G:SqL K H q []) (h:Q (.bl (if neg then !l.isEmpty else l.isEmpty)) H):rEqL K neg (.ref p) (.ref q) H Q:=by
 refine⟨p,q,_,_,rfl,rfl,e,G,G7 l,rfl,?_⟩;rw[JQ];exact h
end
theorem Bc (m:Nat):m < 2 ^ Builtin.Int.intBits (m:Int):=by
 by_cases h:m=0
 ·subst h;decide
 ·rw[nh h];exact lt_log2_self
theorem Bd {m w:Nat} (hm:m < 2 ^ w):Builtin.Int.intBits (m:Int)<=w:=by
 by_cases h:m=0
 ·subst h;rw[zS];exact zero_le _
 ·rw[nh h];exact(log2_lt h).mpr hm
def Lr:Sp:=λvs H Q _=>∃m:Nat,vs=[nat m]/\m < 2 ^ 1000/\∀D H2,H D=none->Same H H2->H2 D=some (.lst ((M.pl 1000 m).map nat))->Q (.ref D) H2
theorem MM {rows:List Nat} {k:Nat} (h:k < rows.length):atI (rows.map nat) (k:Int)=some (nat (rows.getD k 0)):=fI (by rw[getElem?_map,getElem?_eq_getElem h,getD_eq_getElem?_getD,getElem?_eq_getElem h];rfl)
end Sx
namespace M
noncomputable abbrev od (m:Nat):Bool:=pb 1000 m
theorem od_xor (a b:Nat):od (a^^^b)=(od a^^od b):=Ku 1000 a b
theorem and_xor (m a b:Nat):m&&&(a^^^b)=(m&&&a)^^^(m&&&b):=by
 apply eq_of_testBit_eq;intro i;simp only[testBit_and,testBit_xor];cases m.testBit i<;>simp
theorem K1 (m a b:Nat):(a^^^b)&&&m=(a&&&m)^^^(b&&&m):=by
 apply eq_of_testBit_eq;intro i;simp only[testBit_and,testBit_xor];cases m.testBit i<;>simp
theorem xD:∀w:Nat,pb w 0=false
 | 0=>rfl
 | w + 1=>by show((0:Nat).testBit w^^pb w 0)=false;rw[xD w];simp
theorem pb_pow {w t:Nat} (h:t < w):pb w (2 ^ t)=true:=by
 rw[pb_up (w:=t + 1) (pow_lt_pow_right (by decide) (by omega)) h];show((2 ^ t).testBit t^^pb t (2 ^ t))=true
 have e:pb t (2 ^ t)=false:=by
  rw[<-Kv,Nat.mod_self,xD]
 rw[e,Nat.testBit_two_pow_self];rfl
theorem L1 (t y:Nat):2 ^ t&&&y=if y.testBit t then 2 ^ t else 0:=by
 apply eq_of_testBit_eq;intro i;rw[testBit_and,testBit_two_pow];by_cases h:t=i
 ·subst h;cases y.testBit t<;>simp
 ·cases y.testBit t<;>simp[h,testBit_two_pow]
theorem od_pow {t:Nat} (h:t < 1000) (y:Nat):od (2 ^ t&&&y)=y.testBit t:=by
 rw[L1];cases y.testBit t with
 | true=>rw[if_pos rfl];exact pb_pow h
 | false=>rw[if_neg Bool.false_ne_true];exact xD 1000
theorem od_zero:od 0=false:=xD 1000
theorem Kz {y k:Nat} (h:y < 2 ^ k):y.testBit k=false:=testBit_lt_two_pow h
theorem E1 {y t k:Nat} (h:y≠0) (e:y.log2=t) (l:t < k):y < 2 ^ k:=lt_of_lt_of_le (by rw[<-e];exact lt_log2_self) (pow_le_pow_right (by decide) l)
structure Bar (rows:List Nat) (b m:Nat):Prop where
 ev:∀y,Span rows y->od (m&&&y)=false
 bit:m.testBit b=true
 low:∀k,k < b->m.testBit k=false
 oth:∀k,k≠b->(∀y,Span rows y->y≠0->y.log2≠k)->m.testBit k=false
 lt:∀W,(∀r∈rows,r < 2 ^ W)->b < W->m < 2 ^ W
structure BarI (es:List (Nat×Nat)) (ts:List Nat) (b m:Nat):Prop where
 ev:∀e∈es,e.1.log2∈ts->od (m&&&e.1)=false
 bit:m.testBit b=true
 low:∀k,k < b->m.testBit k=false
 oth:∀k,k≠b->(∀e∈es,e.1.log2≠k)->m.testBit k=false
 lt:∀W,(∀e∈es,e.1 < 2 ^ W)->b < W->m < 2 ^ W
theorem BarI.zero (es:List (Nat×Nat)) (b:Nat):BarI es [] b (2 ^ b) where
 ev:=λ_ _ h=>absurd h (by simp)
 bit:=Nat.testBit_two_pow_self
 low:=λk h=>by rw[testBit_two_pow];simp;omega
 oth:=λk h _=>by rw[testBit_two_pow];simp;omega
 lt:=λW _ h=>pow_lt_pow_right (by decide) h
theorem JB {m y b:Nat} (h:∀k,k < b->m.testBit k=false) (hy:y < 2 ^ b):m&&&y=0:=by
 apply eq_of_testBit_eq;intro i;rw[testBit_and,zero_testBit];by_cases hi:i < b
 ·rw[h i hi];rfl
 ·rw[testBit_lt_two_pow (lt_of_lt_of_le hy (pow_le_pow_right (by decide) (by omega)))];simp
theorem Bp {es:List (Nat×Nat)} (nd:(es.map λe=>e.1.log2).Nodup) {e f:Nat×Nat} (he:e∈es) (hf:f∈es) (h:e.1.log2=f.1.log2):e=f:=by
 obtain⟨i,hi,rfl⟩:=mem_iff_getElem.mp he;obtain⟨j,L,rfl⟩:=mem_iff_getElem.mp hf
 have G:∀i j (hi:i < es.length) (L:j < es.length),i < j->es[i].1.log2≠es[j].1.log2:=λi j hi L O=>by
  have:=List.pairwise_iff_getElem.mp nd i j (by rw[length_map];exact hi) (by rw[length_map];exact L) O;rw[List.getElem_map,List.getElem_map] at this;exact this
 rcases Nat.lt_trichotomy i j with h1 | h1 | h1
 ·exact absurd h (G i j hi L h1)
 ·subst h1;rfl
 ·exact absurd h.symm (G j i L hi h1)
theorem BarI.keep {es:List (Nat×Nat)} {ts:List Nat} {b m:Nat} (I:BarI es ts b m) {e:Nat×Nat} (nd:(es.map λe=>e.1.log2).Nodup) (he:e∈es) (h:od (m&&&e.1)=false):BarI es (ts++[e.1.log2]) b m where
 ev:=λf hf hm=>by
  rcases mem_append.mp hm with hm | hm
  ·exact I.ev f hf hm
  ·rw[mem_singleton] at hm;rw[Bp nd hf he hm];exact h
 bit:=I.bit
 low:=I.low
 oth:=I.oth
 lt:=I.lt
theorem BarI.flip {es:List (Nat×Nat)} {ts:List Nat} {b m:Nat} (I:BarI es ts b m) {e:Nat×Nat} (nd:(es.map λe=>e.1.log2).Nodup) (nz:∀e∈es,e.1≠0) (he:e∈es) (h:od (m&&&e.1)=true) (up:∀t∈ts,t < e.1.log2) (hb:e.1.log2≠b) (G:e.1.log2 < 1000):BarI es (ts++[e.1.log2]) b (m^^^2 ^ e.1.log2):=by
 have α:b < e.1.log2:=by
  refine Nat.lt_of_le_of_ne (Nat.le_of_not_lt λL=>?_) (Ne.symm hb);rw[JB I.low (E1 (nz e he) rfl L),od_zero] at h;cases h
 have Z:=nz e he;refine⟨λf hf hm=>?_,?_,λk hk=>?_,λk hk hn=>?_,λW Y O=>?_⟩
 ·rw[K1,od_xor,od_pow G];rcases mem_append.mp hm with hm | hm
  ·rw[I.ev f hf hm,Kz (E1 (nz f hf) rfl (up _ hm))];rfl
  ·rw[mem_singleton] at hm;rw[Bp nd hf he hm,h,p7 Z];rfl
 ·rw[testBit_xor,I.bit,testBit_two_pow];simp;omega
 ·rw[testBit_xor,I.low k hk,testBit_two_pow];simp;omega
 ·rw[testBit_xor,I.oth k hk hn,testBit_two_pow];have:=hn e he;simp;omega
 ·exact xor_lt_pow (I.lt W Y O) (lt_of_le_of_lt (Nat.log2_self_le Z) (Y e he))
theorem Ech.even_all {es:List (Nat×Nat)} {rows:List Nat} (g:Ech es rows) {m:Nat} (h:∀e∈es,od (m&&&e.1)=false):∀y,Span rows y->od (m&&&y)=false:=by
 intro y
 induction y using Nat.strongRecOn with
 | ind y ih=>
   intro L;by_cases G:y=0
   ·subst G;rw[and_zero,od_zero]
   ·obtain⟨e,he,el⟩:=g.all y L G;have Y:=g.nz e he;have hl:=xor_less G Y el.symm;have h1:=ih _ hl (span_xor L (g.span he));have h2:=h e he;have O:od (m&&&(y^^^e.1))=(od (m&&&y)^^od (m&&&e.1)):=by rw[and_xor,od_xor]
    rw[h1,h2] at O;simpa using O.symm
theorem BarI.done {es:List (Nat×Nat)} {rows:List Nat} (g:Ech es rows) {ts:List Nat} {b m:Nat} (I:BarI es ts b m) (all:∀e∈es,e.1.log2∈ts):Bar rows b m where
 ev:=g.even_all λe he=>I.ev e he (all e he)
 bit:=I.bit
 low:=I.low
 oth:=λk hk h=>I.oth k hk λe he=>h e.1 (g.span he) (g.nz e he)
 lt:=λW G hb=>I.lt W (λe he=>span_lt G (g.span he)) hb
theorem Bar.odd {rows:List Nat} {b m x q:Nat} (B:Bar rows b m) (h0:x^^^sm rows q≠0) (hb:(x^^^sm rows q).log2=b) (G:b < 1000):od (m&&&x)=true:=by
 have O:m&&&x=(m&&&(x^^^sm rows q))^^^(m&&&sm rows q):=by rw[<-and_xor,cF]
 rw[O,od_xor,B.ev _ (sm_span rows q)]
 have L:m&&&(x^^^sm rows q)=2 ^ b:=by
  apply eq_of_testBit_eq;intro i;rw[testBit_and,testBit_two_pow];rcases Nat.lt_trichotomy i b with h | h | h
  ·rw[B.low i h];simp;omega
  ·subst h;rw[B.bit,<-hb,p7 h0];simp
  ·rw[Kz (E1 h0 hb h)];simp;omega
 rw[L];show(pb 1000 (2 ^ b)^^false)=true;rw[pb_pow G];rfl
theorem Ct:∀rows:List Nat,∃ks,Sums ks rows/\ks.length=2 ^ (fr rows).length:=by
 refine Jc ⟨[0],Sums.zero,rfl⟩ λrows r ih=>?_;obtain⟨ks,S,e⟩:=ih;by_cases h:Span rows r
 ·exact⟨ks,S.keep h,by rw[fr_in h];exact e⟩
 ·refine⟨_,S.step h,?_⟩;rw[fr_out h,length_append,length_append,length_map,e,length_singleton,pow_succ];omega
theorem rank_le {rows:List Nat} {t:Nat} (h:∀r∈rows,r < 2 ^ t):(fr rows).length<=t:=by
 obtain⟨ks,S,e⟩:=Ct rows;have:=S.few h;rw[e] at this;exact(Nat.pow_le_pow_iff_right (by decide)).mp this
theorem pb_half (w m:Nat):pb (w + 1) m=(m.testBit 0^^pb w (m / 2)):=by
 rw[add_comm,xE 1 w m,shiftRight_eq_div_pow];congr 1;show(m.testBit 0^^false)=_;simp
theorem IC {l:List Nat} {m:Nat} (h:m∈l):Span l m:=by
 obtain⟨j,G,rfl⟩:=mem_iff_getElem.mp h;have:=sm_span l (2 ^ j);rw[wD,getD_eq_getElem?_getD,getElem?_eq_getElem G] at this;exact this
end M
namespace Sx
open PySem L2
noncomputable def cell (ns:List Int) (k:Int):Int:=if k < ns.length then ns.getD k.toNat 0 else 41 * k + 3
def Bz (K:PySem.W.Frag):Sp:=λvs H Q _=>∃(p:Addr) (ns:List Int) (k:Int),vs=[.ref p,.int k]/\SqL K H p (ns.map V.int)/\0<=k/\Q (.int (cell ns k)) H
theorem rA {K:PySem.W.Frag} {H:Hp} {Q:VK} {E:XK} {p:Addr} {ns:List Int} {k:Int} (e:SqL K H p (ns.map V.int)) (h0:0<=k) (q:Q (.int (cell ns k)) H):Bz K [.ref p,.int k] H Q E:=⟨p,ns,k,rfl,e,h0,q⟩
def Lp:Sp:=λvs H Q _=>∃m:Nat,vs=[nat m]/\m < 2 ^ 1000/\Q (.bl (!M.od m)) H
theorem G9 (n h:Nat):Builtin.bitXor ((n:Int) / 2 ^ ((h:Int).toNat)) (Builtin.bitAnd (n:Int) (1 * 2 ^ ((h:Int).toNat) - 1))=(((n>>>h)^^^(n&&&(2 ^ h - 1)):Nat):Int):=by
 rw[Int.toNat_natCast,Int.one_mul,xA];have L:(n:Int) / ((2 ^ h:Nat):Int)=((n>>>h:Nat):Int):=by rw[shiftRight_eq_div_pow];norm_cast
 have G:((2 ^ h:Nat):Int) - 1=((2 ^ h - 1:Nat):Int):=by have:=two_pow_pos h;omega
 rw[L,G,dE,cI]
theorem GQ (wd:Nat):((wd:Int) + 1) / 2=(((wd + 1) / 2:Nat):Int):=by omega
theorem Jx {n:Nat} (h:n < 2):decide (nat n=V.int 0)= !M.od n:=by
 have:n=0∨n=1:=by omega
 rcases this with rfl | rfl
 ·rw[M.od_zero];decide
 ·rw[show M.od 1=true from M.pb_pow (t:=0) (by decide)];decide
def PM (rows:List Nat) (b:Nat):Prop:=∀y,M.Span rows y->y≠0->y.log2≠b
def Nz (C:Addr):Sp:=λvs H Q _=>∃(p d f n:Addr) (rows:List Nat) (b:Nat),vs=[.ref p,nat b]/\StA H C p d f n rows/\b < 1000/\(∀r∈rows,r < 2 ^ 1000)/\(M.fr rows).length < 64/\PM rows b/\
 ∀m H2,Same H H2->M.Bar rows b m->Q (nat m) H2
structure Acr (rows:List Nat) (wd:Nat) (ms:List Nat):Prop where
 len:ms.length + (M.fr rows).length=wd
 inj:M.Inj ms
 lt:∀m∈ms,m < 2 ^ wd
 ev:∀m∈ms,∀y,M.Span rows y->M.od (m&&&y)=false
 all:∀z,z < 2 ^ wd->(∀y,M.Span rows y->M.od (z&&&y)=false)->M.Span ms z
theorem JE (es:List En):(pN es).map (·.1)=(es.map λe=>((e.m.log2:Nat):Int)).map Sum.inl:=by unfold pN;rw[map_map,map_map];rfl
theorem Af {es:List En} {ns:List Int} (Z:ns.Perm (es.map λe=>((e.m.log2:Nat):Int))) (hw:ns.Pairwise (·<=·)) (nd:(es.map λe=>e.m.log2).Nodup):
  ∃ts:List Nat,ns=ts.map (λ(k:Nat)=>(k:Int))/\ts.Pairwise (· < ·)/\(∀t,t∈ts↔∃e∈es,e.m.log2=t):=by
 have hn:∀x∈ns,((x.toNat:Nat):Int)=x:=λx O=>by
  obtain⟨e,_,rfl⟩:=mem_map.mp (Z.mem_iff.mp O);omega
 have α:ns=(ns.map Int.toNat).map (λ(k:Nat)=>(k:Int)):=by
  rw[map_map];exact(map_id ns).symm.trans (List.map_congr_left λx O=>(hn x O).symm)
 have G:(ns.map Int.toNat).Perm (es.map λe=>e.m.log2):=by
  have:=Z.map Int.toNat;rw[map_map] at this;exact this
 refine⟨ns.map Int.toNat,α,?_,λt=>?_⟩
 ·have L:(ns.map Int.toNat).Nodup:=G.nodup_iff.mpr nd
  have Y:(ns.map Int.toNat).Pairwise (·<=·):=by
   rw[List.pairwise_map];exact hw.imp λh=>by omega
  exact List.Pairwise.imp (R:=λa b=>a<=b/\a≠b) (λh=>by omega) (List.Pairwise.and Y L)
 ·rw[G.mem_iff,mem_map]
end Sx
namespace M
noncomputable def cm (a b:Nat):Nat:=if b=0 then 0 else (if b % 2=1 then a else 0)^^^2 * cm a (b / 2)
termination_by b
decreasing_by omega
def Dv (d x:Nat):Prop:=∃q,cm q d=x
structure Rm (d x r:Nat):Prop where
 lt:r < 2 ^ d.log2
 dv:Dv d (x^^^r)
end M
namespace Sx
open PySem L2
noncomputable def dg (m:Nat):Int:=(Builtin.Int.intBits (m:Int):Int) - 1
end Sx
namespace M
structure Ord (d e:Nat):Prop where
 pos:1<=e
 one:Rm d (2 ^ e) 1
 least:∀j,1<=j->j < e->¬Rm d (2 ^ j) 1
 le:e<=2 ^ d.log2
end M
namespace Sx
open PySem L2
noncomputable def EX (k:String):Bool:=subB k "int"&& !subB k "bool"
noncomputable def jc (x:V) (w:Int):Bool:=match x with
 | .int i=>decide (0<=i)&&decide (((Builtin.Int.intBits i:Nat):Int)<=w)
 | _=>false
def tG (K:PySem.W.Frag):Sp:=λvs H Q _=>∃x k,vs=[x]/\jE K H x k/\Q (.bl (EX k)) H
def Ai (K:PySem.W.Frag):Sp:=λvs H Q _=>∃x k w,vs=[x,.int w]/\jE K H x k/\Q (.bl (jc x w)) H
theorem eU {K:PySem.W.Frag} {H:Hp} {Q:VK} {E:XK} {x:V} {k:String} (hk:jE K H x k) (q:Q (.bl (EX k)) H):tG K [x] H Q E:=⟨x,k,rfl,hk,q⟩
theorem h7 {K:PySem.W.Frag} {H:Hp} {Q:VK} {E:XK} {x:V} {k:String} {i:Int} (hk:jE K H x k) (q:Q (.bl (jc x i)) H):Ai K [x,.int i] H Q E:=⟨x,k,i,rfl,hk,q⟩
theorem fo {c m:Int} (h:0 < m):∃k:Nat,c % m=(k:Int)/\(k:Int) < m:=by
 obtain⟨k,hk⟩:=Int.eq_ofNat_of_zero_le (Int.emod_nonneg c (Int.ne_of_gt h));exact⟨k,hk,by rw[<-hk];exact Int.emod_lt_of_pos c h⟩
theorem NL {H:Hp} {Q:VK} {l:Addr} {k:Int} {xs:List V} (e:H l=some (.lst xs)) (h0: -(2 ^ 63)<=k) (h1:k < 2 ^ 63) (hz:xs.length * k.toNat<=sizeLine) (h:∀p H2,H p=none->Same H H2->H2 p=some (.lst (List.replicate k.toNat xs).flatten)->Q (.ref p) H2):rRep (.ref l) (.int k) H Q:=
 ⟨l,k,xs,rfl,rfl,e,h0,h1,hz,ig h⟩
end Sx
namespace M
noncomputable def bn (b:Bool):Nat:=if b then 1 else 0
noncomputable def pk (s:Nat->Bool) (t:Nat):Nat->Nat
 | 0=>0
 | L + 1=>pk s t L^^^(if s (t + L) then 2 ^ L else 0)
theorem pk_lt (s:Nat->Bool) (t:Nat):∀L,pk s t L < 2 ^ L
 | 0=>Nat.one_pos
 | L + 1=>by
   have ih:=pk_lt s t L;refine xor_lt_pow (lt_of_lt_of_le ih (pow_le_pow_right (by decide) (by omega))) ?_;split
   ·exact pow_lt_pow_right (by decide) (by omega)
   ·exact two_pow_pos _
theorem pk_bit (s:Nat->Bool) (t:Nat):∀L p,(pk s t L).testBit p=(decide (p < L)&&s (t + p))
 | 0,p=>by simp[pk]
 | L + 1,p=>by
   rw[pk,testBit_xor,pk_bit s t L p];rcases Nat.lt_trichotomy p L with h | h | h
   ·have e:(if s (t + L)=true then 2 ^ L else 0:Nat).testBit p=false:=by
     cases s (t + L)<;>simp[testBit_two_pow];omega
    rw[e];simp[h,show p < L + 1 by omega]
   ·subst h;cases hs:s (t + p)<;>simp[Nat.testBit_two_pow_self]
   ·have e:(if s (t + L)=true then 2 ^ L else 0:Nat).testBit p=false:=by
     cases s (t + L)<;>simp[testBit_two_pow];omega
    rw[e];simp[show ¬p < L by omega,show ¬p < L + 1 by omega]
theorem BJ {s u:Nat->Bool} {t v:Nat}:∀{L:Nat},(∀p,p < L->s (t + p)=u (v + p))->pk s t L=pk u v L
 | 0,_=>rfl
 | L + 1,h=>by rw[pk,pk,BJ λp G=>h p (by omega),h L (by omega)]
noncomputable def lf (G:Nat):Nat->(Nat->Bool)->Nat->Bool
 | 0,_,_=>false
 | L + 1,s,t=>lf G L s t^^(G.testBit L&&s (t + L))
noncomputable def tr (G:List Nat) (x:Nat):Nat:=pk (λk=>od (G.getD k 0&&&x)) 0 G.length
noncomputable def stt (G:List Nat) (x:Nat):Nat->Nat
 | 0=>x
 | t + 1=>tr G (stt G x t)
noncomputable def ans (G:List Nat) (o x t:Nat):Bool:=od (o&&&stt G x t)
noncomputable def lm (L G:Nat):List Nat:=(List.range (L - 1)).map (λp=>2 ^ (p + 1))++(if 0 < L then [G] else [])
end M
namespace Sx
open PySem L2
noncomputable abbrev Pr3:=Addr×Nat×Nat
noncomputable def refs (ps:List Pr3):List V:=ps.map λq=>V.ref q.1
def Prt (H:Hp) (ps:List Pr3):Prop:=∀q∈ps,H q.1=some (.tup [nat q.2.1,nat q.2.2])
theorem Prt.same {H H2:Hp} {ps:List Pr3} (x:Prt H ps) (s:Same H H2):Prt H2 ps:=λq h=>s _ _ (x q h)
structure MaA (H:Hp) (C p:Addr) (m:Nat) (nx os:List Pr3):Prop where
 ho:∃dx tn to,H p=some (.ins C dx [("inputs",nat m),("nexts",.ref tn),("outs",.ref to)])/\H tn=some (.tup (refs nx))/\H to=some (.tup (refs os))
 hn:Prt H nx
 hs:Prt H os
theorem MaA.same {H H2:Hp} {C p:Addr} {m:Nat} {nx os:List Pr3} (x:MaA H C p m nx os) (s:Same H H2):MaA H2 C p m nx os:=
 ⟨let ⟨dx,G,to,a,b,c⟩:=x.ho;⟨dx,G,to,s _ _ a,s _ _ b,s _ _ c⟩,x.hn.same s,x.hs.same s⟩
noncomputable def sq (bs:List Bool):Nat->Bool:=λi=>bs.getD i false
def Fk:Sp:=λvs H Q _=>∃(r:Addr) (ps:List Nat),vs=[.ref r]/\H r=some (.lst (ps.map nat))/\(∀p∈ps,p < 1000)/\Q (nat (M.xm ps)) H
def IJ:Sp:=λvs H Q _=>∃(t:Addr) (x y n m:Nat),vs=[.ref t,nat n,nat m]/\H t=some (.tup [nat x,nat y])/\x < 2 ^ n/\y < 2 ^ m/\Q (.bl true) H
structure Tab (H:Hp) (n o:Addr) (m:Nat) (nx os:List Pr3):Prop where
 m6:m<=6
 n:H n=some (.lst (refs nx))
 o:H o=some (.lst (refs os))
 pn:Prt H nx
 po:Prt H os
 ln:nx.length<=120
 lo:os.length<=6
 bn:∀q∈nx++os,q.2.1 < 2 ^ nx.length/\q.2.2 < 2 ^ m
def Lq:Sp:=λvs H Q _=>∃(n o:Addr) (m:Nat) (nx os:List Pr3),vs=[nat m,.ref n,.ref o]/\Tab H n o m nx os/\∀H2,Same H H2->Q .non H2
def Ln (C:Addr):Sp:=λvs H Q _=>∃(x dx n o:Addr) (m:Nat) (nx os:List Pr3),vs=[.ref x,nat m,.ref n,.ref o]/\H x=some (.ins C dx [])/\Tab H n o m nx os/\∀H2,(∀b ob,b≠x->H b=some ob->H2 b=some ob)->MaA H2 C x m nx os->Q .non H2
def Fe (C:Addr):Sp:=λvs H Q _=>∃(p:Addr) (m:Nat) (nx os:List Pr3),vs=[.ref p]/\MaA H C p m nx os/\Q (nat nx.length) H
structure Lfsr (nx os:List Pr3) (L G:Nat):Prop where
 nx:nx.map (λq=>q.2.1)=M.lm L G
 os:∃t,os=[(t,(if 0 < L then 1 else 0),0)]
theorem cX {a n:Nat} (h:a < 2 ^ n):jc (nat a) (n:Int)=true:=by
 have:=Bd h;show(decide ((0:Int)<=(a:Int))&&decide (((Builtin.Int.intBits (a:Int):Nat):Int)<=(n:Int)))=true;rw[decide_eq_true (by omega),decide_eq_true (by omega)];rfl
theorem K3 {ps:List Nat} {i k:Nat} (h:ps[i]? =some k):M.xm (ps.take (i + 1))=M.xm (ps.take i)^^^2 ^ k:=by rw[take_succ h];unfold M.xm;rw[foldl_append];rfl
theorem M8 {w m:Nat} (h:m < 2 ^ w):M.xm (M.pl w m)=m:=M.xm_ext h λk=>rfl
noncomputable abbrev ms (nx:List Pr3):List Nat:=nx.map λq=>q.2.1
end Sx
namespace M
noncomputable def tr2 (ps:List (Nat×Nat)) (x r:Nat):Nat:=pk (λk=>od ((ps.getD k (0,0)).1&&&x)^^od ((ps.getD k (0,0)).2&&&r)) 0 ps.length
theorem tr2_bit (ps:List (Nat×Nat)) (x r k:Nat):(tr2 ps x r).testBit k=(decide (k < ps.length)&&(od ((ps.getD k (0,0)).1&&&x)^^od ((ps.getD k (0,0)).2&&&r))):=by unfold tr2;rw[pk_bit,zero_add]
theorem Bu (ps:List (Nat×Nat)) (x r:Nat):tr2 ps x r < 2 ^ ps.length:=pk_lt _ _ _
theorem tr2_snoc (ps:List (Nat×Nat)) (p:Nat×Nat) (x r:Nat):tr2 (ps++[p]) x r=tr2 ps x r^^^(if (od (p.1&&&x)^^od (p.2&&&r)) then 2 ^ ps.length else 0):=by
 unfold tr2;rw[length_append,length_singleton,pk,zero_add];have L:(ps++[p]).getD ps.length (0,0)=p:=by rw[getD_eq_getElem?_getD,getElem?_append_right (le_refl _),sub_self];rfl
 rw[L]
 have G:pk (λk=>od (((ps++[p]).getD k (0,0)).1&&&x)^^od (((ps++[p]).getD k (0,0)).2&&&r)) 0 ps.length=pk (λk=>od ((ps.getD k (0,0)).1&&&x)^^od ((ps.getD k (0,0)).2&&&r)) 0 ps.length:=BJ λk hk=>by
  rw[zero_add,getD_eq_getElem?_getD,getD_eq_getElem?_getD,getElem?_append_left hk]
 rw[G]
theorem Ae (ps:List (Nat×Nat)) (x y r s:Nat):tr2 ps (x^^^y) (r^^^s)=tr2 ps x r^^^tr2 ps y s:=by
 apply eq_of_testBit_eq;intro i;rw[testBit_xor,tr2_bit,tr2_bit,tr2_bit,and_xor,od_xor,and_xor,od_xor];cases decide (i < ps.length)<;>cases od ((ps.getD i (0,0)).1&&&x)<;>cases od ((ps.getD i (0,0)).1&&&y)<;>cases od ((ps.getD i (0,0)).2&&&r)<;>cases od ((ps.getD i (0,0)).2&&&s)<;>rfl
theorem tr2_zero (ps:List (Nat×Nat)):tr2 ps 0 0=0:=by
 apply eq_of_testBit_eq;intro i;rw[tr2_bit,and_zero,and_zero,od_zero];simp
noncomputable def wst (ps:List (Nat×Nat)):Nat->List Nat->Nat
 | x,[]=>x
 | x,r::rs=>wst ps (tr2 ps x r) rs
noncomputable def wan (ps os:List (Nat×Nat)):Nat->List Nat->List Nat
 | _,[]=>[]
 | x,r::rs=>tr2 os x r::wan ps os (tr2 ps x r) rs
theorem wst_snoc (ps:List (Nat×Nat)) (r:Nat):∀(rs:List Nat) (x:Nat),wst ps x (rs++[r])=tr2 ps (wst ps x rs) r
 | [],_=>rfl
 | _::rs,_=>wst_snoc ps r rs _
theorem wan_snoc (ps os:List (Nat×Nat)) (r:Nat):∀(rs:List Nat) (x:Nat),wan ps os x (rs++[r])=wan ps os x rs++[tr2 os (wst ps x rs) r]
 | [],_=>rfl
 | _::rs,_=>congrArg (_::·) (wan_snoc ps os r rs _)
theorem wan_len (ps os:List (Nat×Nat)):∀(rs:List Nat) (x:Nat),(wan ps os x rs).length=rs.length
 | [],_=>rfl
 | _::rs,_=>congrArg (· + 1) (wan_len ps os rs _)
theorem wst_lt {ps:List (Nat×Nat)}:∀{rs:List Nat} {x:Nat},x < 2 ^ ps.length->wst ps x rs < 2 ^ ps.length
 | [],_,h=>h
 | r::rs,x,_=>wst_lt (rs:=rs) (Bu ps x r)
theorem wst_app (ps:List (Nat×Nat)):∀(rs qs:List Nat) (x:Nat),wst ps x (rs++qs)=wst ps (wst ps x rs) qs
 | [],_,_=>rfl
 | _::rs,qs,_=>wst_app ps rs qs _
theorem xm_snoc (qs:List Nat) (k:Nat):xm (qs++[k])=xm qs^^^2 ^ k:=by unfold xm;rw[foldl_append];rfl
theorem rev_ind {α:Type} {P:List α->Prop} (h0:P []) (h1:∀l x,P l->P (l++[x])) (l:List α):P l:=by
 have:∀l:List α,P l.reverse:=λl=>by
  induction l with
  | nil=>exact h0
  | cons x l ih=>rw[reverse_cons];exact h1 _ _ ih
 have:=this l.reverse;rwa [List.reverse_reverse] at this
theorem AG (s x r:Nat) (ps:List (Nat×Nat)) (h:ps.length<=1000):od (s&&&tr2 ps x r)=(od (sm (ps.map (·.1)) s&&&x)^^od (sm (ps.map (·.2)) s&&&r)):=by
 induction ps using rev_ind with
 | h0=>show od (s&&&0)=(od (0&&&x)^^od (0&&&r));rw[and_zero,zero_and,zero_and,od_zero];rfl
 | h1 ps p ih=>
   rw[length_append,length_singleton] at h;have ih:=ih (by omega);rw[tr2_snoc,and_xor,od_xor,ih,map_append,map_append,map_singleton,map_singleton,l9,l9,length_map,length_map];generalize hb:(od (p.1&&&x)^^od (p.2&&&r))=b
   have L:od (s&&&(if b=true then 2 ^ ps.length else 0))=(b&&s.testBit ps.length):=by
    cases b with
    | true=>rw[if_pos rfl,Nat.and_comm,od_pow (by omega)];simp
    | false=>rw[if_neg Bool.false_ne_true,and_zero,od_zero];simp
   rw[L];have G:∀u v t:Nat,od ((u^^^v)&&&t)=(od (u&&&t)^^od (v&&&t)):=λu v t=>by rw[Nat.and_comm,and_xor,od_xor,Nat.and_comm,Nat.and_comm t v]
   rw[G,G];cases s.testBit ps.length with
   | true=>rw[if_pos rfl,if_pos rfl,<-hb];cases od (sm (ps.map (·.1)) s&&&x)<;>cases od (sm (ps.map (·.2)) s&&&r)<;>cases od (p.1&&&x)<;>cases od (p.2&&&r)<;>rfl
   | false=>rw[if_neg Bool.false_ne_true,if_neg Bool.false_ne_true,zero_and,zero_and,od_zero];cases b<;>simp
noncomputable def pulse (i T:Nat):List Nat:=(List.range T).map λt=>if t=0 then 2 ^ i else 0
theorem Lx {rows:List Nat} {i r:Nat} (s:Nat) (h:rows[i]? =some r):sm (rows.take (i + 1)) s=sm (rows.take i) s^^^(if s.testBit i then r else 0):=by
 have hi:=(List.getElem?_eq_some_iff.mp h).1;have e:rows.take (i + 1)=rows.take i++[r]:=by rw[List.take_add_one,h];rfl
 rw[e,l9,length_take,Nat.min_eq_left (by omega)]
theorem sm_places (rows:List Nat) (s:Nat) (h:s < 2 ^ rows.length) (w:Nat) (hw:rows.length<=w):(pl w s).foldl (λa p=>a^^^rows.getD p 0) 0=sm rows s:=by
 rw[pl_up h hw]
 have G:∀k,k<=rows.length->(pl k s).foldl (λa p=>a^^^rows.getD p 0) 0=sm (rows.take k) s:=by
  intro k
  induction k with
  | zero=>intro _;rfl
  | succ k ih=>
    intro hk;have L:rows[k]? =some (rows.getD k 0):=by rw[getD_eq_getElem?_getD,getElem?_eq_getElem (by omega)];rfl
    have O:pl (k + 1) s=pl k s++(if s.testBit k then [k] else []):=by
     unfold pl;rw[range_succ,filter_append];congr 1;cases hb:s.testBit k<;>simp[hb]
    rw[O,foldl_append,ih (by omega),Lx s L];cases s.testBit k<;>simp
 have:=G rows.length (le_refl _);rwa [take_length] at this
end M
namespace Sx
open PySem L2
structure MaG (m:Nat) (nx os:List Pr3):Prop where
 m6:m<=6
 ln:nx.length<=120
 lo:os.length<=6
 bn:∀q∈nx++os,q.2.1 < 2 ^ nx.length/\q.2.2 < 2 ^ m
noncomputable abbrev prs (nx:List Pr3):List (Nat×Nat):=nx.map (·.2)
theorem eG (nx:List Pr3):(prs nx).length=nx.length:=length_map ..
theorem tH (nx:List Pr3):(refs nx).length=nx.length:=length_map ..
theorem gc {x n:Nat} (h:x < 2 ^ n) (hn:n<=1000):x < 2 ^ 1000:=lt_of_lt_of_le h (pow_le_pow_right (by decide) hn)
theorem MaG.b1 {m:Nat} {nx os:List Pr3} (g:MaG m nx os):∀q∈nx,q.2.1 < 2 ^ 1000/\q.2.2 < 2 ^ 1000:=λq h=>have:=g.ln;have:=g.m6;have b:=g.bn q (mem_append_left _ h);⟨gc b.1 (by omega),gc b.2 (by omega)⟩
theorem MaG.b2 {m:Nat} {nx os:List Pr3} (g:MaG m nx os):∀q∈os,q.2.1 < 2 ^ 1000/\q.2.2 < 2 ^ 1000:=λq h=>have:=g.ln;have:=g.m6;have b:=g.bn q (mem_append_right _ h);⟨gc b.1 (by omega),gc b.2 (by omega)⟩
theorem LX {H H2:Hp} {a:Addr} {u:HO} (h:Rd H a u) (s:Same H H2):Rd H2 a u:=h.imp (s _ _) λ⟨o,e⟩=>⟨o,s _ _ e⟩
theorem GG {K:PySem.W.Frag} {H H2:Hp} {x:V} {k:String} (h:jE K H x k) (s:Same H H2):jE K H2 x k:=by
 cases x with
 | ref p=>exact Or.imp (λ⟨a,xs,e⟩=>⟨a,xs,Same.seq s e⟩) (Or.imp (λ⟨a,xs,e⟩=>⟨a,xs,Same.tup s e⟩) λ⟨a,xs,e⟩=>⟨a,xs,LX e s⟩) h
 | _=>exact h
def HY (K:PySem.W.Frag) (H:Hp) (xs:List V):Prop:=∀x∈xs,∃k,jE K H x k
theorem HY.nats (K:PySem.W.Frag) (H:Hp) (rs:List Nat):HY K H (rs.map nat):=λx G=>by
 obtain⟨r,_,rfl⟩:=mem_map.mp G;exact⟨"int",rfl⟩
theorem kX {x:V} {n:Nat} (h:jc x (n:Int)=true):∃a:Nat,x=nat a/\a < 2 ^ n:=by
 cases x with
 | int i=>
   have h:(decide ((0:Int)<=i)&&decide (((Builtin.Int.intBits i:Nat):Int)<=(n:Int)))=true:=h;simp only[Bool.and_eq_true,decide_eq_true_eq] at h;obtain⟨a,rfl⟩:=Int.eq_ofNat_of_zero_le h.1;exact⟨a,rfl,lt_of_lt_of_le (Bc a) (pow_le_pow_right (by decide) (by omega))⟩
 | _=>cases h
noncomputable def idxB (x:V) (m:Nat):Bool:=match x with
 | .int i=>decide (0<=i)&&decide (i < (m:Int))
 | _=>false
theorem EM (x y:Bool):(!decide (V.bl (!x)=V.bl (!y)))=(x^^y):=by cases x<;>cases y<;>rfl
theorem Iz {ps:List Pr3} {i:Nat} {q:Pr3} (x y:Nat) (h:ps[i]? =some q):M.tr2 (prs (ps.take (i + 1))) x y=M.tr2 (prs (ps.take i)) x y^^^(if (M.od (q.2.1&&&x)^^M.od (q.2.2&&&y)) then 2 ^ i else 0):=by
 have hl:(prs (ps.take i)).length=i:=by rw[eG];exact Bv h
 rw[take_succ h];unfold prs at hl ⊢;rw[map_append,map_singleton,M.tr2_snoc,hl]
theorem tM (xs:List V) (y:Nat) (hy:y<=xs.length):cutV xs none (some (y:Int))=xs.take y:=by
 unfold cutV;rw[HT.sIx_nat,HT.sIx_none,Nat.min_eq_left hy,Nat.sub_zero,List.drop_zero]
theorem gQ {a b:Nat} (h:nat a=nat b):a=b:=by
 have h:(a:Int)=(b:Int):=V.int.inj h;omega
def IR:Sp:=λvs H Q _=>∃(t:Addr) (a b x r:Nat),vs=[.ref t,nat x,nat r]/\H t=some (.tup [nat a,nat b])/\a < 2 ^ 1000/\b < 2 ^ 1000/\Q (.bl (M.od (a&&&x)^^M.od (b&&&r))) H
def Ll (K:PySem.W.Frag):Sp:=λvs H Q _=>∃(r:Addr) (ps:List Pr3) (x y:Nat),vs=[.ref r,nat x,nat y]/\SqT K H r (refs ps)/\Prt H ps/\ps.length<=1000/\(∀q∈ps,q.2.1 < 2 ^ 1000/\q.2.2 < 2 ^ 1000)/\∀H2,Same H H2->Q (nat (M.tr2 (prs ps) x y)) H2
def Ny (K:PySem.W.Frag) (C B:Addr):Sp:=λvs H Q E=>∃(p:Addr) (m:Nat) (nx os:List Pr3) (x:V) (k:String),vs=[.ref p,x]/\MaA H C p m nx os/\jE K H x k/\(jc x nx.length=true->Q .non H)/\(jc x nx.length=false->E (.ref B) none H)
def IL (K:PySem.W.Frag) (C B:Addr):Sp:=λvs H Q E=>∃(p:Addr) (m:Nat) (nx os:List Pr3) (x y:V) (kx G:String),vs=[.ref p,x,y]/\MaA H C p m nx os/\MaG m nx os/\jE K H x kx/\jE K H y G/\
 (∀a b:Nat,x=nat a->y=nat b->a < 2 ^ nx.length->b < 2 ^ m->∀(t:Addr) (H2:Hp),Same H H2->H2 t=some (.tup [nat (M.tr2 (prs os) a b),nat (M.tr2 (prs nx) a b)])->Q (.ref t) H2)/\
 (jc x nx.length=false∨jc y m=false->E (.ref B) none H)
structure PQ (K:PySem.W.Frag) (H:Hp) (C p rr:Addr) (m:Nat) (nx os:List Pr3) (x:V) (xs:List V):Prop where
 ma:MaA H C p m nx os
 g:MaG m nx os
 kx:∃k,jE K H x k
 sq:SqL K H rr xs
 ks:HY K H xs
 ln:xs.length<=1000
def Good (m:Nat) (nx:List Pr3) (x:V) (xs:List V) (a:Nat) (rs:List Nat):Prop:=x=nat a/\xs=rs.map nat/\a < 2 ^ nx.length/\∀r∈rs,r < 2 ^ m
def Bad (m:Nat) (nx:List Pr3) (x:V) (xs:List V):Prop:=jc x nx.length=false∨∃y∈xs,jc y m=false
def ID (K:PySem.W.Frag) (C B:Addr):Sp:=λvs H Q E=>∃(p G:Addr) (m:Nat) (nx os:List Pr3) (x:V) (xs:List V),vs=[.ref p,.ref G,x]/\PQ K H C p G m nx os x xs/\
 (∀a rs,Good m nx x xs a rs->∀(t D:Addr) (H2:Hp),H D=none->Same H H2->H2 t=some (.tup [.ref D,nat (M.wst (prs nx) a rs)])->H2 D=some (.lst ((M.wan (prs nx) (prs os) a rs).map nat))->Q (.ref t) H2)/\
 (Bad m nx x xs->∀H2,Same H H2->E (.ref B) none H2)
def Jb (K:PySem.W.Frag) (C B:Addr):Sp:=λvs H Q E=>∃(p G:Addr) (m:Nat) (nx os:List Pr3) (x:V) (xs:List V),vs=[.ref p,.ref G,x]/\PQ K H C p G m nx os x xs/\
 (∀a rs,Good m nx x xs a rs->∀H2:Hp,Same H H2->Q (nat (M.wst (prs nx) a rs)) H2)/\
 (Bad m nx x xs->∀H2,Same H H2->E (.ref B) none H2)
def IM (K:PySem.W.Frag) (C B:Addr):Sp:=λvs H Q E=>∃(p:Addr) (m:Nat) (nx os:List Pr3) (x:V) (k:String),vs=[.ref p,x]/\MaA H C p m nx os/\MaG m nx os/\jE K H x k/\
 (∀a,x=nat a->a < 2 ^ nx.length->∀(t:Addr) (H2:Hp),Same H H2->H2 t=some (.tup [nat (M.sm (nx.map λq=>q.2.1) a),nat (M.sm (nx.map λq=>q.2.2) a)])->Q (.ref t) H2)/\
 (jc x nx.length=false->E (.ref B) none H)
structure TabT (H:Hp) (t n o:Addr) (m:Nat) (nx os:List Pr3):Prop where
 t:H t=some (.tup [nat m,.ref n,.ref o])
 tab:Tab H n o m nx os
def Fq:Sp:=λvs H Q _=>∃(c:Int) (st n w:Nat) (dg:Bool),vs=[.int c,nat st,nat n,nat w,.bl dg]/\st<=900/\n<=64/\w<=16/\
 ∀(D:Addr) (H2:Hp) (ms:List Nat),H D=none->Same H H2->H2 D=some (.lst (ms.map nat))->ms.length=n->(∀x∈ms,x < 2 ^ w)->Q (.ref D) H2
theorem tJ {H H2:Hp} {D:Addr} (s:Same H H2) (f:H2 D=none):H D=none:=by
 cases G:H D with
 | none=>rfl
 | some v=>have:=s _ _ G;rw[f] at this;cases this
theorem LC (m k:Nat):(m:Int) / 2 ^ ((k:Int).toNat)=((m>>>k:Nat):Int):=by rw[Int.toNat_natCast,xA,shiftRight_eq_div_pow];norm_cast
theorem zT (m i:Nat):Builtin.bitAnd ((m:Int) / 2 ^ ((i:Int).toNat)) 1=if m.testBit i then 1 else 0:=by
 have:=Cd m i;rwa [show(0:Int) + (i:Int)=(i:Int) from Int.zero_add _] at this
theorem BX {i:Int} {m:Nat} (h:i < 0∨(m:Int)<=i):idxB (.int i) m=false:=by
 show(decide ((0:Int)<=i)&&decide (i < (m:Int)))=false;rcases h with h | h
 ·rw[decide_eq_false (show ¬(0:Int)<=i by omega)];rfl
 ·rw[decide_eq_false (show ¬i < (m:Int) by omega),Bool.and_false]
theorem GR {m:Nat} {nx:List Pr3} {a O:Nat} {rs G:List Nat} (g:Good m nx (nat a) (rs.map nat) O G):a=O/\rs=G:=by
 obtain⟨h1,h2,_,_⟩:=g;refine⟨gQ h1,?_⟩
 have h:∀(l L:List Nat),l.map nat=L.map nat->l=L:=by
  intro l
  induction l with
  | nil=>intro L h;cases L with | nil=>rfl | cons _ _=>cases h
  | cons x l ih=>
    intro L h;cases L with
    | nil=>cases h
    | cons y L=>
      rw[map_cons,map_cons] at h;obtain⟨h1,h2⟩:=List.cons.inj h;rw[ih _ h2,gQ h1]
 exact h rs G h2
theorem Md {m:Nat} {nx:List Pr3} {a:Nat} {rs:List Nat} (ha:a < 2 ^ nx.length) (O:∀r∈rs,r < 2 ^ m) (b:Bad m nx (nat a) (rs.map nat)):False:=by
 rcases b with h | ⟨y,L,h⟩
 ·rw[cX ha] at h;cases h
 ·obtain⟨r,G,rfl⟩:=mem_map.mp L;rw[cX (O r G)] at h;cases h
theorem tN (xs:List V) (k:Nat) (h:k<=xs.length):cutV xs (some (k:Int)) none=xs.drop k:=by
 unfold cutV;rw[HT.sIx_nat,HT.sIx_none,Nat.min_eq_left h];exact List.take_of_length_le (by rw[length_drop];exact le_refl _)
end Sx
namespace M
noncomputable def pkw (w:Nat):List Nat->Nat
 | []=>0
 | p::ps=>p^^^(pkw w ps <<< w)
noncomputable def bkI (A:List Nat) (s:Nat):Nat->Nat
 | 0=>s
 | i + 1=>sm A (bkI A s i)
theorem Hy (A:List Nat) (s:Nat):∀i,bkI A (sm A s) i=bkI A s (i + 1)
 | 0=>rfl
 | i + 1=>congrArg (sm A) (Hy A s i)
theorem EV (ps:List (Nat×Nat)):∀(rs qs:List Nat) (x y:Nat),rs.length=qs.length->wst ps (x^^^y) (List.zipWith (·^^^·) rs qs)=wst ps x rs^^^wst ps y qs
 | [],[],_,_,_=>rfl
 | r::rs,q::qs,x,y,h=>by
   show wst ps (tr2 ps (x^^^y) (r^^^q)) (List.zipWith (·^^^·) rs qs)=wst ps (tr2 ps x r) rs^^^wst ps (tr2 ps y q) qs;rw[Ae,EV ps rs qs _ _ (by simpa using h)]
end M
namespace Sx
open PySem L2
noncomputable abbrev nA (nx:List Pr3):List Nat:=nx.map λq=>q.2.1
noncomputable abbrev nB (nx:List Pr3):List Nat:=nx.map λq=>q.2.2
theorem L0 (nx:List Pr3):(prs nx).map (·.1)=nA nx:=by rw[map_map];rfl
theorem LZ (nx:List Pr3):(prs nx).map (·.2)=nB nx:=by rw[map_map];rfl
def Fo:Sp:=λvs H Q _=>∃(c:Int) (n w:Nat),vs=[.int c,nat n,nat w]/\n<=64/\w<=16/\∀(D:Addr) (H2:Hp) (ms:List Nat),H D=none->Same H H2->H2 D=some (.lst (ms.map nat))->ms.length=n->(∀x∈ms,x < 2 ^ w)->Q (.ref D) H2
def IP:Sp:=λvs H Q _=>∃n:Nat,vs=[nat n]/\n < 2 ^ 1000/\Q (nat (M.bn (M.od n))) H
theorem Mc {n:Nat} (h:n < 2 ^ 1000):M.od n=(n.testBit 0^^M.od (n / 2)):=by
 show M.pb 1000 n=_;rw[show 1000=999 + 1 from rfl,M.pb_half];congr 1;exact(M.pb_up (show n / 2 < 2 ^ 999 by rw[Nat.div_lt_iff_lt_mul (by decide)];rw[<-pow_succ];exact h) (by decide)).symm
theorem um {K:PySem.W.Frag} {H:Hp} {α:Type} (f:α->V) (g:α->Dt) (r:∀x,Rep K H (f x) (g x)) (xs:List α):∀(i:Nat) x d,(xs.map f)[i]? =some x->(xs.map g)[i]? =some d->Rep K H x d:=by
 intro i x d h1 h2;rw[getElem?_map] at h1 h2;cases e:xs[i]? with
 | none=>rw[e] at h1;cases h1
 | some y=>rw[e] at h1 h2;cases h1;cases h2;exact r y
theorem NK {K:PySem.W.Frag} {te:TE} {σ:St} {H:Hp} {Q:VK} (h:te σ H λx H1=>∃a xs,x= .ref a/\SqL K H1 a xs/\∀l,H1 l=none->Q (.ref l) (upd H1 l (.lst xs.reverse))):tRev K te σ H Q:=h
noncomputable def low (c:Nat):Bool:=decide (97<=c)&&decide (c<=122)
noncomputable def fig (c:Nat):Bool:=decide (48<=c)&&decide (c<=57)
noncomputable def nm (l:List Nat):Bool:=match l with
 | []=>false
 | c::r=>decide ((c::r).length<=6)&&low c&&(c::r).all λc=>low c||fig c
noncomputable def OW (x:V):Bool:=match x with
 | .str z=>nm z.cps.toList
 | _=>false
def Nm (z:Str):Prop:=nm z.cps.toList=true
def Fj (K:PySem.W.Frag):Sp:=λvs H Q _=>∃x k,vs=[x]/\jE K H x k/\(∀z,x= .str z->z.length<=1000)/\∀H',Same H H'->Q (.bl (OW x)) H'
theorem memL (c:Nat):decide (c∈("abcdefghijklmnopqrstuvwxyz":Str).cps.toList)=low c:=by
 have e:("abcdefghijklmnopqrstuvwxyz":Str).cps.toList=List.range' 97 26:=by decide +kernel
 rw[e];unfold low;rw[Bool.eq_iff_iff,Bool.and_eq_true,decide_eq_true_eq,decide_eq_true_eq,decide_eq_true_eq,mem_range'];constructor
 ·rintro⟨i,h,rfl⟩;omega
 ·rintro⟨h1,h2⟩;exact⟨c - 97,by omega,by omega⟩
theorem memN (c:Nat):decide (c∈("abcdefghijklmnopqrstuvwxyz0123456789":Str).cps.toList)=(low c||fig c):=by
 have e:("abcdefghijklmnopqrstuvwxyz0123456789":Str).cps.toList=List.range' 97 26++List.range' 48 10:=by decide +kernel
 rw[e];unfold low fig;rw[Bool.eq_iff_iff,Bool.or_eq_true,Bool.and_eq_true,Bool.and_eq_true,decide_eq_true_eq,decide_eq_true_eq,decide_eq_true_eq,decide_eq_true_eq,decide_eq_true_eq,mem_append,mem_range',mem_range'];constructor
 ·rintro(⟨i,h,rfl⟩ | ⟨i,h,rfl⟩)
  ·left;omega
  ·right;omega
 ·rintro(⟨h1,h2⟩ | ⟨h1,h2⟩)
  ·exact .inl ⟨c - 97,by omega,by omega⟩
  ·exact .inr ⟨c - 48,by omega,by omega⟩
theorem m8 (z:Str):z.cps.toList.length=z.length:=by simp[Str.length]
theorem Ag {z:Str}:z=""↔z.cps.toList=[]:=by
 constructor
 ·rintro rfl;decide +kernel
 ·intro h;cases z with | mk c=>cases c with | mk l=>have h:l=[]:=h;subst h;decide +kernel
theorem Nm.len {z:Str} (h:Nm z):z.length<=6:=by
 have h:nm z.cps.toList=true:=h;have l:=m8 z;cases e:z.cps.toList with
 | nil=>rw[e] at l;rw[<-l];decide
 | cons c r=>
   rw[e] at h l;unfold nm at h;rw[Bool.and_eq_true,Bool.and_eq_true] at h;have:=of_decide_eq_true h.1.1;omega
theorem c_nm {K:PySem.W.Frag} {H:Hp} {Q:VK} {E:XK} {z:Str} (h:Nm z) (q:∀H',Same H H'->Q (.bl true) H'):Fj K [.str z] H Q E:=⟨_,"str",rfl,rfl,λG e=>by cases e;have:=h.len;omega,λH' s=>by show Q (.bl (nm z.cps.toList)) H';rw[show nm z.cps.toList=true from h];exact q H' s⟩
def IU (K:PySem.W.Frag):Sp:=λvs H Q _=>∃x C dx nm,vs=[.ref x,nm]/\Cls K C/\cx K C "name"/\H x=some (.ins C dx [])/\∀H2,Upd H H2 x (.ins C dx [("name",nm)])->Q .non H2
def IT (C:Addr):Sp:=λvs H Q _=>∃x dx nm k,vs=[.ref x,nm,k]/\H x=some (.ins C dx [])/\∀H2,Upd H H2 x (.ins C dx [("name",nm),("number",k)])->Q .non H2
def IS (C:Addr):Sp:=λvs H Q _=>∃x dx nm w k,vs=[.ref x,nm,w,k]/\H x=some (.ins C dx [])/\∀H2,Upd H H2 x (.ins C dx [("name",nm),("wire",w),("number",k)])->Q .non H2
def Lw (C:Addr):Sp:=λvs H Q _=>∃p dx nm k G row st,vs=[.ref p,G,.int row,.int st]/\H p=some (.ins C dx [("name",nm),("number",.int k)])/\0<=k/\Q (.int (Builtin.bitAnd (row / 2 ^ k.toNat) 1)) H
def Lu (C:Addr):Sp:=λvs H Q _=>∃p dx nm w k G row st,vs=[.ref p,G,.int row,.int st]/\H p=some (.ins C dx [("name",nm),("wire",w),("number",.int k)])/\0<=k/\Q (.int (Builtin.bitAnd (st / 2 ^ k.toNat) 1)) H
def Lv (K:PySem.W.Frag) (C:Addr):Sp:=λvs H Q _=>∃(p dx:Addr) (nm:V) (G d:Addr) (ws:List Str) (kvs:List (Key×V)) (f:Str->Int) (row st:Int),vs=[.ref p,.ref d,.int row,.int st]/\H p=some (.ins C dx [("name",nm),("wires",.ref G)])/\SqT K H G (ws.map V.str)/\
 H d=some (.dK kvs)/\(∀w∈ws,valV kvs (Sum.inr w)=some (.int (f w)))/\Q (.int ((ws.map f).foldl Builtin.bitXor 0)) H
def IY (C:Addr):Sp:=λvs H Q _=>∃p dx nm k G,vs=[.ref p,G]/\H p=some (.ins C dx [("name",nm),("number",.int k)])/\0<=k/\k<=1000/\∀t H2,Same H H2->H2 t=some (.tup [.int 0,.int (1 * 2 ^ k.toNat)])->Q (.ref t) H2
def IW (C:Addr):Sp:=λvs H Q _=>∃p dx nm w k G,vs=[.ref p,G]/\H p=some (.ins C dx [("name",nm),("wire",w),("number",.int k)])/\0<=k/\k<=1000/\∀t H2,Same H H2->H2 t=some (.tup [.int (1 * 2 ^ k.toNat),.int 0])->Q (.ref t) H2
def IX (K:PySem.W.Frag) (C:Addr):Sp:=λvs H Q _=>∃(p dx:Addr) (nm:V) (G d:Addr) (ws:List Str) (kvs:List (Key×V)) (f g:Str->Int),vs=[.ref p,.ref d]/\H p=some (.ins C dx [("name",nm),("wires",.ref G)])/\SqT K H G (ws.map V.str)/\
 H d=some (.dK kvs)/\(∀w∈ws,∃t,valV kvs (Sum.inr w)=some (.ref t)/\SqT K H t [.int (f w),.int (g w)])/\∀t H2,Same H H2->H2 t=some (.tup [.int ((ws.map f).foldl Builtin.bitXor 0),.int ((ws.map g).foldl Builtin.bitXor 0)])->Q (.ref t) H2
theorem vg {ws:List Str} {f:Str->Int} {i:Nat} {w:Str} (h:ws[i]? =some w):((ws.take (i + 1)).map f).foldl Builtin.bitXor 0=Builtin.bitXor (((ws.take i).map f).foldl Builtin.bitXor 0) (f w):=by
 rw[List.take_succ,h,map_append,foldl_append];rfl
structure Nt where
 ins:List Str
 sums:List (Str×List Str)
 sts:List (Str×Str)
 outs:List Str
noncomputable def Nt.names (N:Nt):List Str:=N.ins++N.sums.map (·.1)++N.sts.map (·.1)
structure Gn (N:Nt):Prop where
 li:N.ins.length<=6
 ls:N.sums.length<=40
 lt:N.sts.length<=16
 lo:N.outs.length<=6
 lw:∀r∈N.sums,r.2.length<=24
 nm:∀z∈N.names,Nm z
 nd:N.names.Nodup
 ws:∀r∈N.sums,∀z∈r.2,z∈N.names
 ts:∀r∈N.sts,r.2∈N.names
 os:∀z∈N.outs,z∈N.names
 rk:∃rank:Str->Nat,∀r∈N.sums,∀z∈r.2,z∈N.sums.map (·.1)->rank z < rank r.1
structure Topo (sums:List (Str×List Str)) (od:List Str):Prop where
 perm:od.Perm (sums.map (·.1))
 need:∀(i:Nat) z,od[i]? =some z->∀ws,(z,ws)∈sums->∀y∈ws,y∈sums.map (·.1)->y∈od.take i
noncomputable abbrev Rw:=Addr×Addr×Str×List Str
noncomputable abbrev Qs:=Addr×Str×Str
structure Hnd (H:Hp) (i s t o:Addr) (rs:List Rw) (qs:List Qs) (N:Nt):Prop where
 i:H i=some (.lst (N.ins.map V.str))
 s:H s=some (.lst (rs.map λr=>V.ref r.1))
 sr:∀r∈rs,H r.1=some (.tup [.str r.2.2.1,.ref r.2.1])/\H r.2.1=some (.lst (r.2.2.2.map V.str))
 es:rs.map (·.2.2)=N.sums
 t:H t=some (.lst (qs.map λq=>V.ref q.1))
 tr:∀q∈qs,H q.1=some (.tup [.str q.2.1,.str q.2.2])
 et:qs.map (·.2)=N.sts
 o:H o=some (.lst (N.outs.map V.str))
theorem Hnd.same {H H2:Hp} {i s t o:Addr} {rs:List Rw} {qs:List Qs} {N:Nt} (x:Hnd H i s t o rs qs N) (h:Same H H2):Hnd H2 i s t o rs qs N:=⟨h.get x.i,h.get x.s,λr m=>⟨h.get (x.sr r m).1,h.get (x.sr r m).2⟩,x.es,h.get x.t,λq m=>h.get (x.tr q m),x.et,h.get x.o⟩
structure Kpt (H:Hp) (i s t o:Addr) (rs:List Rw) (qs:List Qs) (N:Nt):Prop where
 i:H i=some (.tup (N.ins.map V.str))
 s:H s=some (.tup (rs.map λr=>V.ref r.1))
 sr:∀r∈rs,H r.1=some (.tup [.str r.2.2.1,.ref r.2.1])/\H r.2.1=some (.tup (r.2.2.2.map V.str))
 es:rs.map (·.2.2)=N.sums
 t:H t=some (.tup (qs.map λq=>V.ref q.1))
 tr:∀q∈qs,H q.1=some (.tup [.str q.2.1,.str q.2.2])
 et:qs.map (·.2)=N.sts
 o:H o=some (.tup (N.outs.map V.str))
theorem Kpt.same {H H2:Hp} {i s t o:Addr} {rs:List Rw} {qs:List Qs} {N:Nt} (x:Kpt H i s t o rs qs N) (h:Same H H2):Kpt H2 i s t o rs qs N:=⟨h.get x.i,h.get x.s,λr m=>⟨h.get (x.sr r m).1,h.get (x.sr r m).2⟩,x.es,h.get x.t,λq m=>h.get (x.tr q m),x.et,h.get x.o⟩
def Fv:Sp:=λvs H Q _=>∃(i s t o:Addr) (rs:List Rw) (qs:List Qs) (N:Nt),vs=[.ref i,.ref s,.ref t,.ref o]/\Hnd H i s t o rs qs N/\Gn N/\∀H2,Same H H2->Q .non H2
def Fx:Sp:=λvs H Q _=>∃(l:Addr) (zs:List Str),vs=[.ref l]/\H l=some (.lst (zs.map V.str))/\zs.length<=1000/\zs.Nodup/\(∀z∈zs,Nm z)/\∀H2,Same H H2->Q .non H2
def Knw (H:Hp) (d:Addr) (zs:List Str):Prop:=∃kvs:List (Key×V),H d=some (.dK kvs)/\kvs.map (·.1)=zs.map Sum.inr
theorem Knw.same {H H2:Hp} {d:Addr} {zs:List Str} (x:Knw H d zs) (h:Same H H2):Knw H2 d zs:=let ⟨k,e,f⟩:=x;⟨k,h.get e,f⟩
def IZ:Sp:=λvs H Q _=>∃(z:Str) (d:Addr) (zs:List Str),vs=[.str z,.ref d]/\Knw H d zs/\z∈zs/\Nm z/\∀H2,Same H H2->Q .non H2
def Fu:Sp:=λvs H Q _=>∃(i s t o d:Addr) (rs:List Rw) (qs:List Qs) (N:Nt),vs=[.ref s,.ref t,.ref o,.ref d]/\Kpt H i s t o rs qs N/\Gn N/\Knw H d N.names/\∀H2,Same H H2->Q .non H2
theorem tF {kvs:List (Key×V)} {zs:List Str} (e:kvs.map (·.1)=zs.map Sum.inr) (z:Str):(valV kvs (Sum.inr z)).isSome=decide (z∈zs):=by
 cases h:valV kvs (Sum.inr z) with
 | none=>
   have:=Iv h;rw[e] at this;rw[decide_eq_false λm=>this (mem_map.mpr ⟨z,m,rfl⟩)];rfl
 | some v=>
   have:=K9 h;rw[e] at this;obtain⟨y,G,ey⟩:=mem_map.mp this;cases ey;rw[decide_eq_true G];rfl
theorem Aw {kvs:List (Key×V)} {zs:List Str} (e:kvs.map (·.1)=zs.map Sum.inr) {z:Str} (h:z∉zs) (v:V):putK kvs (Sum.inr z) v=kvs++[(Sum.inr z,v)]:=by
 refine BI ?_;rw[<-Option.not_isSome_iff_eq_none,tF e z,decide_eq_false h];exact Bool.false_ne_true
inductive Wob (H:Hp) (CI CS CT:Addr) (N:Nt) (z:Str) (w:Addr):Prop where
 | i (k:Nat) (dx:Addr) (hk:N.ins[k]? =some z) (e:H w=some (.ins CI dx [("name",.str z),("number",nat k)])):Wob H CI CS CT N z w
 | s (ws:List Str) (dx tw:Addr) (hk:(z,ws)∈N.sums) (e:H w=some (.ins CS dx [("name",.str z),("wires",.ref tw)])) (et:H tw=some (.tup (ws.map V.str))):Wob H CI CS CT N z w
 | t (k:Nat) (y:Str) (dx:Addr) (hk:N.sts[k]? =some (z,y)) (e:H w=some (.ins CT dx [("name",.str z),("wire",.str y),("number",nat k)])):Wob H CI CS CT N z w
theorem Wob.same {H H2:Hp} {O L G:Addr} {N:Nt} {z:Str} {w:Addr} (x:Wob H O L G N z w) (h:Same H H2):Wob H2 O L G N z w:=by
 cases x with
 | i k dx hk e=>exact .i k dx hk (h.get e)
 | s ws dx Y hk e et=>exact .s ws dx Y hk (h.get e) (h.get et)
 | t k y dx hk e=>exact .t k y dx hk (h.get e)
theorem Wob.name {H:Hp} {O L G:Addr} {N:Nt} {z:Str} {w:Addr} (x:Wob H O L G N z w):∃C dx fs,H w=some (.ins C dx (("name",.str z)::fs))/\(C=O∨C=L∨C=G):=by
 cases x with
 | i k dx hk e=>exact⟨_,_,_,e,.inl rfl⟩
 | s ws dx Y hk e et=>exact⟨_,_,_,e,.inr (.inl rfl)⟩
 | t k y dx hk e=>exact⟨_,_,_,e,.inr (.inr rfl)⟩
structure WiA (H:Hp) (CI CS CT d:Addr) (N:Nt) (ws:List (Str×Addr)):Prop where
 d:H d=some (.dK (ws.map λq=>(Sum.inr q.1,V.ref q.2)))
 nm:ws.map (·.1)=N.names
 ob:∀q∈ws,Wob H CI CS CT N q.1 q.2
theorem WiA.same {H H2:Hp} {O L G d:Addr} {N:Nt} {ws:List (Str×Addr)} (x:WiA H O L G d N ws) (h:Same H H2):WiA H2 O L G d N ws:=⟨h.get x.d,x.nm,λq m=>(x.ob q m).same h⟩
theorem WiA.knw {H:Hp} {O L G d:Addr} {N:Nt} {ws:List (Str×Addr)} (x:WiA H O L G d N ws):Knw H d N.names:=⟨_,x.d,by rw[map_map,<-x.nm,map_map];rfl⟩
def Cw (O L G:Addr):Sp:=λvs H Q _=>∃(i s t o:Addr) (rs:List Rw) (qs:List Qs) (N:Nt),vs=[.ref i,.ref s,.ref t]/\Kpt H i s t o rs qs N/\Gn N/\∀(d:Addr) (H2:Hp) (ws:List (Str×Addr)),H d=none->Same H H2->WiA H2 O L G d N ws->Q (.ref d) H2
noncomputable def gM (zs:List Str) (ws:List Str):Bool:=ws.any λw=>decide (w∈zs)
def IE:Sp:=λvs H Q _=>∃(r:Rw) (d:Addr) (zs:List Str),vs=[.ref r.1,.ref d]/\H r.1=some (.tup [.str r.2.2.1,.ref r.2.1])/\H r.2.1=some (.tup (r.2.2.2.map V.str))/\r.2.2.2.length<=24/\Knw H d zs/\∀H2,Same H H2->Q (.bl (gM zs r.2.2.2)) H2
def CA:Sp:=λvs H Q _=>∃(s:Addr) (rs:List Rw) (N:Nt),vs=[.ref s]/\H s=some (.tup (rs.map λr=>V.ref r.1))/\(∀r∈rs,H r.1=some (.tup [.str r.2.2.1,.ref r.2.1])/\H r.2.1=some (.tup (r.2.2.2.map V.str)))/\rs.map (·.2.2)=N.sums/\Gn N/\∀(D:Addr) (H2:Hp) (od:List Str),H D=none->Same H H2->H2 D=some (.lst (od.map V.str))->Topo N.sums od->Q (.ref D) H2
theorem mV {H:Hp} {Q:VK} {l b:Addr} {xs zs:List V} (L:H l=some (.lst xs)) (G:H b=some (.lst zs)) (hl:xs.length + zs.length<=sizeLine) (h:∀H2,Upd H H2 l (.lst (xs++zs))->Q .non H2):FU (.ref l) [.ref b] H Q:=⟨l,b,xs,zs,rfl,rfl,L,G,hl,h _ Upd.of⟩
theorem Wob.keep {H H2:Hp} {Y O L:Addr} {N:Nt} {z:Str} {w D:Addr} {xs:List V} (x:Wob H Y O L N z w) (G:H D=some (.lst xs)) (h:∀b o,b≠D->H b=some o->H2 b=some o):Wob H2 Y O L N z w:=by
 cases x with
 | i k dx hk e=>exact .i k dx hk (h _ _ (b4 e G (λz=>by cases z)) e)
 | s ws dx Z hk e et=>exact .s ws dx Z hk (h _ _ (b4 e G (λz=>by cases z)) e) (h _ _ (b4 et G (λz=>by cases z)) et)
 | t k y dx hk e=>exact .t k y dx hk (h _ _ (b4 e G (λz=>by cases z)) e)
structure WL (H0 H:Hp) (CI CS CT:Addr) (N:Nt) (D:Addr) (ys:List V) (zs:List Str) (ws:List (Str×Addr)):Prop where
 ey:ys=ws.map λq=>V.ref q.2
 nm:ws.map (·.1)=zs
 ob:∀q∈ws,Wob H CI CS CT N q.1 q.2
 same:Same H0 H
 d:H D=some (.lst ys)
def Ft (K:PySem.W.Frag) (C:Addr):Sp:=λvs H Q _=>∃x dx nm G ws,vs=[.ref x,nm,.ref G]/\H G=some (.tup ws)/\H x=some (.ins C dx [])/\
 ∀H2,Upd H H2 x (.ins C dx [("name",nm),("wires",.ref G)])->Q .non H2
theorem WL.put {Y H G:Hp} {β α Z:Addr} {N:Nt} {D:Addr} {ys:List V} {zs:List Str} {ws:List (Str×Addr)} (c:WL Y H β α Z N D ys zs ws) (ε:Y D=none) (s:Same H G) {z:Str} {x:Addr} (γ:Wob G β α Z N z x) (η:zs.length<=900) {L:List Str} (ζ:L=zs++[z]):
  G D=some (.lst ys)/\ys.length < sizeLine/\∃ws,WL Y (upd G D (.lst (ys++[.ref x]))) β α Z N D (ys++[.ref x]) L ws:=by
 have O:=s.get c.d;have k:∀b o,b≠D->G b=some o->upd G D (.lst (ys++[.ref x])) b=some o:=λb o n e=>by rw[aG n];exact e
 have lw:ys.length=zs.length:=by rw[c.ey,<-c.nm,length_map,length_map]
 refine⟨O,aE (by omega),ws++[(z,x)],by rw[map_append,c.ey];rfl,by rw[map_append,c.nm,ζ];rfl,λq δ=>?_,λb o e=>?_,ay⟩
 ·rcases mem_append.mp δ with h | h
  ·exact((c.ob q h).same s).keep O k
  ·rw[mem_singleton] at h;subst h;exact γ.keep O k
 ·exact k _ _ (ao e ε) (s.get (c.same.get e))
theorem WL.join {Z H H2 ε:Hp} {γ β α:Addr} {N:Nt} {D θ:Addr} {ys G:List V} {zs O:List Str} {ws Y:List (Str×Addr)} (c:WL Z H γ β α N D ys zs ws) (L:WL H H2 γ β α N θ G O Y) (η:Z D=none) (u:Upd H2 ε D (.lst (ys++G))):
  WL Z ε γ β α N D (ys++G) (zs++O) (ws++Y):=by
 have δ:=L.same.get c.d;refine⟨by rw[map_append,c.ey,L.ey],by rw[map_append,c.nm,L.nm],λq ζ=>?_,λb o e=>u.oth _ _ (ao e η) (L.same.get (c.same.get e)),u.at'⟩;rcases mem_append.mp ζ with h | h
 ·exact((c.ob q h).same L.same).keep δ u.oth
 ·exact(L.ob q h).keep δ u.oth
structure Otp (sums:List (Str×List Str)) (od:List Str) (lf:List (Str×List Str)):Prop where
 perm:(od++lf.map (·.1)).Perm (sums.map (·.1))
 sub:∀r∈lf,r∈sums
 need:∀(i:Nat) z,od[i]? =some z->∀ws,(z,ws)∈sums->∀y∈ws,y∈sums.map (·.1)->y∈od.take i
theorem Otp.start (sums:List (Str×List Str)):Otp sums [] sums:=⟨List.Perm.refl _,λ_ h=>h,λi z h=>by simp at h⟩
theorem Otp.done {sums:List (Str×List Str)} {od:List Str} (o:Otp sums od []):Topo sums od:=⟨by have:=o.perm;rwa [map_nil,append_nil] at this,o.need⟩
theorem Gb {sums:List (Str×List Str)} (nd:(sums.map (·.1)).Nodup) {z:Str} {ws G:List Str} (h:(z,ws)∈sums) (h':(z,G)∈sums):ws=G:=by
 induction sums with
 | nil=>cases h
 | cons r l ih=>
   rw[map_cons,nodup_cons] at nd;rcases mem_cons.mp h with e | h
   ·rcases mem_cons.mp h' with L | h'
    ·rw[<-e] at L;exact(Prod.mk.inj L).2.symm
    ·exact absurd (mem_map.mpr ⟨_,h',rfl⟩) (by rw[<-e] at nd;exact nd.1)
   ·rcases mem_cons.mp h' with L | h'
    ·exact absurd (mem_map.mpr ⟨_,h,rfl⟩) (by rw[<-L] at nd;exact nd.1)
    ·exact ih nd.2 h h'
theorem Otp.step {sums:List (Str×List Str)} (nd:(sums.map (·.1)).Nodup) {od:List Str} {lf:List (Str×List Str)} (o:Otp sums od lf):
  Otp sums (od++(lf.filter λr=> !gM (lf.map (·.1)) r.2).map (·.1)) (lf.filter λr=>gM (lf.map (·.1)) r.2):=by
 refine⟨?_,λr h=>o.sub r (mem_filter.mp h).1,λi z hz ws hw y O hs=>?_⟩
 ·refine List.Perm.trans ?_ o.perm;rw[append_assoc,<-map_append];refine List.Perm.append_left _ (List.Perm.map _ ?_);refine List.Perm.trans List.perm_append_comm ?_;exact List.filter_append_perm _ _
 ·by_cases hi:i < od.length
  ·rw[getElem?_append_left hi] at hz;rw[List.take_append_of_le_length (le_of_lt hi)];exact o.need i z hz ws hw y O hs
  ·rw[getElem?_append_right (by omega)] at hz;have hm:=mem_of_getElem? hz;obtain⟨r,Y,rfl⟩:=mem_map.mp hm;obtain⟨L,G⟩:=mem_filter.mp Y;have e:ws=r.2:=Gb nd hw (o.sub r L);subst e
   have hn:y∉lf.map (·.1):=λm=>by
    have:gM (lf.map (·.1)) r.2=true:=any_eq_true.mpr ⟨y,O,decide_eq_true m⟩;rw[this] at G;cases G
   have:=(o.perm.mem_iff (a:=y)).mpr hs;rcases mem_append.mp this with h | h
   ·rw[List.take_append,mem_append];left;rw[List.take_of_length_le (by omega)];exact h
   ·exact absurd h hn
theorem wM {α:Type} (f:α->Nat):∀l:List α,l≠[]->∃a∈l,∀b∈l,f a<=f b
 | [],h=>absurd rfl h
 | [a],_=>⟨a,mem_singleton.mpr rfl,λb h=>by rw[mem_singleton.mp h];exact le_refl _⟩
 | a::b::l,_=>by
   obtain⟨c,L,h⟩:=wM f (b::l) (by simp);by_cases G:f a<=f c
   ·exact⟨a,mem_cons_self ..,λd hd=>(mem_cons.mp hd).elim (λe=>by rw[e];exact le_refl _) λe=>le_trans G (h d e)⟩
   ·exact⟨c,mem_cons_of_mem _ L,λd hd=>(mem_cons.mp hd).elim (λe=>by rw[e];omega) λe=>h d e⟩
theorem Otp.ready {N:Nt} (g:Gn N) {od:List Str} {lf:List (Str×List Str)} (o:Otp N.sums od lf) (h:lf≠[]):0 < (lf.filter λr=> !gM (lf.map (·.1)) r.2).length:=by
 obtain⟨G,α⟩:=g.rk;obtain⟨r,hm,hl⟩:=wM (λr:Str×List Str=>G r.1) lf h;refine List.length_pos_of_mem (mem_filter.mpr ⟨hm,?_⟩);cases hw:gM (lf.map (·.1)) r.2 with
 | false=>rfl
 | true=>
   obtain⟨y,Z,Y⟩:=any_eq_true.mp hw;obtain⟨O,L,rfl⟩:=mem_map.mp (of_decide_eq_true Y);have h1:=α r (o.sub r hm) _ Z (mem_map.mpr ⟨O,o.sub O L,rfl⟩);have h2:=hl O L;omega
theorem A6 {α:Type} (p:α->Bool):∀l:List α,0 < (l.filter λx=> !p x).length->(l.filter p).length < l.length:=λl h=>by
 have:=(List.filter_append_perm p l).length_eq;rw[length_append] at this;omega
theorem Gn.nds {N:Nt} (g:Gn N):(N.sums.map (·.1)).Nodup:=by
 have:=g.nd;unfold Nt.names at this;rw[nodup_append,nodup_append] at this;exact this.1.2.1
structure NetA (H:Hp) (C CI CS CT p:Addr) (N:Nt) (od:List Str):Prop where
 ho:∃(dx i s t o d tq:Addr) (rs:List Rw) (qs:List Qs) (ws:List (Str×Addr)),H p=some (.ins C dx [("ins",.ref i),("sums",.ref s),("kept_stores",.ref t),("outs",.ref o),("by_name",.ref d),("sum_order",.ref tq)])/\Kpt H i s t o rs qs N/\WiA H CI CS CT d N ws/\H tq=some (.tup (od.map V.str))
 g:Gn N
 tp:Topo N.sums od
theorem NetA.same {H H2:Hp} {C O L G p:Addr} {N:Nt} {od:List Str} (x:NetA H C O L G p N od) (h:Same H H2):NetA H2 C O L G p N od:=
 ⟨let ⟨dx,i,s,t,o,d,Y,rs,qs,ws,a,b,c,e⟩:=x.ho;⟨dx,i,s,t,o,d,Y,rs,qs,ws,h.get a,b.same h,c.same h,h.get e⟩,x.g,x.tp⟩
def Nv (C O L G:Addr):Sp:=λvs H Q _=>∃(x dx i s t o:Addr) (rs:List Rw) (qs:List Qs) (N:Nt),vs=[.ref x,.ref i,.ref s,.ref t,.ref o]/\H x=some (.ins C dx [])/\Hnd H i s t o rs qs N/\Gn N/\
 ∀(H2:Hp) (od:List Str),(∀b ob,b≠x->H b=some ob->H2 b=some ob)->NetA H2 C O L G x N od->Q .non H2
def Kx (x:Addr) (H H2:Hp):Prop:=∀b ob,b≠x->H b=some ob->H2 b=some ob
theorem Kx.trans {x:Addr} {H H2 G:Hp} (a:Kx x H H2) (b:Kx x H2 G):Kx x H G:=λc o n e=>b c o n (a c o n e)
theorem Kx.same {x:Addr} {H H2:Hp} (s:Same H H2):Kx x H H2:=λ_ _ _ e=>s.get e
theorem Kx.upd {x:Addr} {H H2:Hp} {o:HO} (u:Upd H H2 x o):Kx x H H2:=u.oth
theorem Kx.tup {x:Addr} {H H2:Hp} (k:Kx x H H2) {C dx:Addr} {fs:List (Str×V)} (hx:H x=some (.ins C dx fs)) {b:Addr} {xs:List V} (e:H b=some (.tup xs)):H2 b=some (.tup xs):=k b _ (b4 e hx λz=>by cases z) e
theorem Kx.lst {x:Addr} {H H2:Hp} (k:Kx x H H2) {C dx:Addr} {fs:List (Str×V)} (hx:H x=some (.ins C dx fs)) {b:Addr} {xs:List V} (e:H b=some (.lst xs)):H2 b=some (.lst xs):=k b _ (b4 e hx λz=>by cases z) e
theorem Kx.hnd {x:Addr} {H H2:Hp} (k:Kx x H H2) {C dx:Addr} {fs:List (Str×V)} (hx:H x=some (.ins C dx fs)) {i s t o:Addr} {rs:List Rw} {qs:List Qs} {N:Nt} (h:Hnd H i s t o rs qs N):Hnd H2 i s t o rs qs N:=
 ⟨k.lst hx h.i,k.lst hx h.s,λr m=>⟨k.tup hx (h.sr r m).1,k.lst hx (h.sr r m).2⟩,h.es,k.lst hx h.t,λq m=>k.tup hx (h.tr q m),h.et,k.lst hx h.o⟩
def RwK (H:Hp) (rs:List Rw):Prop:=∀r∈rs,H r.1=some (.tup [.str r.2.2.1,.ref r.2.1])/\H r.2.1=some (.tup (r.2.2.2.map V.str))
def QsK (H:Hp) (qs:List Qs):Prop:=∀q∈qs,H q.1=some (.tup [.str q.2.1,.str q.2.2])
theorem RwK.same {H H2:Hp} {rs:List Rw} (h:RwK H rs) (s:Same H H2):RwK H2 rs:=λr m=>⟨s.get (h r m).1,s.get (h r m).2⟩
theorem QsK.same {H H2:Hp} {qs:List Qs} (h:QsK H qs) (s:Same H H2):QsK H2 qs:=λq m=>s.get (h q m)
theorem Kx.rw{x:Addr} {H H2:Hp} (k:Kx x H H2) {C dx:Addr} {fs:List (Str×V)} (hx:H x=some (.ins C dx fs)) {rs:List Rw} (h:RwK H rs):RwK H2 rs:=λr m=>⟨k.tup hx (h r m).1,k.tup hx (h r m).2⟩
theorem Kx.qs {x:Addr} {H H2:Hp} (k:Kx x H H2) {C dx:Addr} {fs:List (Str×V)} (hx:H x=some (.ins C dx fs)) {qs:List Qs} (h:QsK H qs):QsK H2 qs:=λq m=>k.tup hx (h q m)
theorem RwK.updL {H H2:Hp} {rs:List Rw} (h:RwK H rs) {D:Addr} {xs:List V} (G:H D=some (.lst xs)) (k:∀b o,b≠D->H b=some o->H2 b=some o):RwK H2 rs:=λr m=>⟨k _ _ (b4 (h r m).1 G λz=>by cases z) (h r m).1,k _ _ (b4 (h r m).2 G λz=>by cases z) (h r m).2⟩
theorem QsK.updL {H H2:Hp} {qs:List Qs} (h:QsK H qs) {D:Addr} {xs:List V} (G:H D=some (.lst xs)) (k:∀b o,b≠D->H b=some o->H2 b=some o):QsK H2 qs:=λq m=>k _ _ (b4 (h q m) G λz=>by cases z) (h q m)
theorem Kx.kpt {x:Addr} {H H2:Hp} (k:Kx x H H2) {C dx:Addr} {fs:List (Str×V)} (hx:H x=some (.ins C dx fs)) {i s t o:Addr} {rs:List Rw} {qs:List Qs} {N:Nt} (h:Kpt H i s t o rs qs N):Kpt H2 i s t o rs qs N:=
 ⟨k.tup hx h.i,k.tup hx h.s,λr m=>⟨k.tup hx (h.sr r m).1,k.tup hx (h.sr r m).2⟩,h.es,k.tup hx h.t,λq m=>k.tup hx (h.tr q m),h.et,k.tup hx h.o⟩
theorem Kx.wia {x:Addr} {H H2:Hp} (k:Kx x H H2) {α Z Y d:Addr} {N:Nt} {ws:List (Str×Addr)} (h:WiA H α Z Y d N ws) (hd:d≠x) (hw:∀q∈ws,q.2≠x) {C dx:Addr} {fs:List (Str×V)} (hx:H x=some (.ins C dx fs)):WiA H2 α Z Y d N ws:=
 ⟨k _ _ hd h.d,h.nm,λq m=>by
  cases h.ob q m with
  | i O G hk e=>exact .i O G hk (k _ _ (hw q m) e)
  | s L G β hk e et=>exact .s L G β hk (k _ _ (hw q m) e) (k.tup hx et)
  | t O y G hk e=>exact .t O y G hk (k _ _ (hw q m) e)⟩
noncomputable def xb (f:Str->Bool) (ws:List Str):Bool:=ws.foldl (λa w=>a^^f w) false
theorem jR (f:Str->Bool) (ws:List Str) (w:Str):xb f (ws++[w])=(xb f ws^^f w):=by unfold xb;rw[foldl_append];rfl
theorem tE {f g:Str->Bool}:∀{ws:List Str},(∀w∈ws,f w=g w)->xb f ws=xb g ws:=by
 intro ws
 induction ws using M.rev_ind with
 | h0=>intro _;rfl
 | h1 l x ih=>intro h;rw[jR,jR,ih λw hw=>h w (mem_append_left _ hw),h x (mem_append_right _ (mem_singleton.mpr rfl))]
theorem Na (f g:Str->Bool):∀ws:List Str,xb (λz=>f z^^g z) ws=(xb f ws^^xb g ws):=by
 intro ws
 induction ws using M.rev_ind with
 | h0=>rfl
 | h1 l x ih=>rw[jR,jR,jR,ih];cases xb f l<;>cases xb g l<;>cases f x<;>cases g x<;>rfl
structure Val (N:Nt) (row st:Nat) (f:Str->Bool):Prop where
 i:∀(k:Nat) z,N.ins[k]? =some z->f z=row.testBit k
 t:∀(k:Nat) z y,N.sts[k]? =some (z,y)->f z=st.testBit k
 s:∀z ws,(z,ws)∈N.sums->f z=xb f ws
theorem Val.uniq {N:Nt} (g:Gn N) {od:List Str} (tp:Topo N.sums od) {r s:Nat} {f Z:Str->Bool} (a:Val N r s f) (b:Val N r s Z):∀z∈N.names,f z=Z z:=by
 have Y:∀z∈N.ins,f z=Z z:=λz h=>by
  obtain⟨k,hk⟩:=mem_iff_getElem?.mp h;rw[a.i k z hk,b.i k z hk]
 have O:∀z∈N.sts.map (·.1),f z=Z z:=λz h=>by
  obtain⟨q,δ,rfl⟩:=mem_map.mp h;obtain⟨k,hk⟩:=mem_iff_getElem?.mp δ;rw[a.t k q.1 q.2 hk,b.t k q.1 q.2 hk]
 have α:∀n (k:Nat) z,k < n->od[k]? =some z->f z=Z z:=by
  intro n
  induction n with
  | zero=>intro k z h;omega
  | succ n ih=>
    intro k z hk hz;obtain⟨row,G,e⟩:=mem_map.mp (tp.perm.mem_iff.mp (mem_of_getElem? hz));have e:row.1=z:=e;subst e;rw[a.s row.1 row.2 G,b.s row.1 row.2 G];refine tE λw hw=>?_;have L:=g.ws row G w hw;unfold Nt.names at L;rcases mem_append.mp L with h | h
    ·rcases mem_append.mp h with h | h
     ·exact Y w h
     ·have:=tp.need k row.1 hz row.2 G w hw h;obtain⟨j,γ⟩:=mem_iff_getElem?.mp this
      have β:j < k:=by
       have:=(List.getElem?_eq_some_iff.mp γ).1;rw[length_take] at this;omega
      rw[getElem?_take_of_lt β] at γ;exact ih j w (by omega) γ
    ·exact O w h
 intro z hz;unfold Nt.names at hz;rcases mem_append.mp hz with h | h
 ·rcases mem_append.mp h with h | h
  ·exact Y z h
  ·obtain⟨k,hk⟩:=mem_iff_getElem?.mp (tp.perm.mem_iff.mpr h);exact α (k + 1) k z (lt_succ_self k) hk
 ·exact O z h
noncomputable def mat (f:Str->Bool) (ws:List Str):Nat:=M.pk (λk=>f (ws.getD k "")) 0 ws.length
theorem xQ (f:Str->Bool) (ws:List Str) (k:Nat):(mat f ws).testBit k=(decide (k < ws.length)&&f (ws.getD k "")):=by unfold mat;rw[M.pk_bit,zero_add]
theorem KB (f:Str->Bool) (ws:List Str):mat f ws < 2 ^ ws.length:=M.pk_lt _ _ _
theorem yU {f g:Str->Bool} {ws:List Str} (h:∀w∈ws,f w=g w):mat f ws=mat g ws:=by
 apply eq_of_testBit_eq;intro k;rw[xQ,xQ];by_cases hk:k < ws.length
 ·have:ws.getD k ""∈ws:=by rw[getD_eq_getElem?_getD,getElem?_eq_getElem hk];exact getElem_mem hk
  rw[h _ this]
 ·rw[decide_eq_false hk];rfl
noncomputable def fv (N:Nt) (row st:Nat):Str->Bool:=Classical.epsilon (Val N row st)
noncomputable def nan (N:Nt) (row st:Nat):Nat:=mat (fv N row st) N.outs
noncomputable def nst (N:Nt) (row st:Nat):Nat:=mat (fv N row st) (N.sts.map (·.2))
theorem Pd {N:Nt} (g:Gn N) {od:List Str} (tp:Topo N.sums od) {r s:Nat} {f:Str->Bool} (a:Val N r s f):∀z∈N.names,f z=fv N r s z:=a.uniq g tp (Classical.epsilon_spec ⟨f,a⟩)
theorem OV {N:Nt} (g:Gn N) {od:List Str} (tp:Topo N.sums od) {r s:Nat} {f:Str->Bool} (a:Val N r s f):mat f N.outs=nan N r s:=yU λw h=>Pd g tp a w (g.os w h)
theorem Ky {N:Nt} (g:Gn N) {od:List Str} (tp:Topo N.sums od) {r s:Nat} {f:Str->Bool} (a:Val N r s f):mat f (N.sts.map (·.2))=nst N r s:=yU λw h=>Pd g tp a w (by obtain⟨q,G,rfl⟩:=mem_map.mp h;exact g.ts q G)
noncomputable def rst (N:Nt):Nat->List Nat->Nat
 | st,[]=>st
 | st,r::rs=>rst N (nst N r st) rs
noncomputable def ran (N:Nt):Nat->List Nat->List Nat
 | _,[]=>[]
 | st,r::rs=>nan N r st::ran N (nst N r st) rs
theorem xt (N:Nt) (r:Nat):∀(rs:List Nat) (st:Nat),rst N st (rs++[r])=nst N r (rst N st rs)
 | [],_=>rfl
 | q::rs,st=>xt N r rs (nst N q st)
theorem BG (N:Nt) (r:Nat):∀(rs:List Nat) (st:Nat),ran N st (rs++[r])=ran N st rs++[nan N r (rst N st rs)]
 | [],_=>rfl
 | q::rs,st=>by show nan N q st::ran N (nst N q st) (rs++[r])=_;rw[BG N r rs];rfl
theorem FQ (N:Nt):∀(rs:List Nat) (st:Nat),(ran N st rs).length=rs.length
 | [],_=>rfl
 | q::rs,st=>by show(ran N (nst N q st) rs).length + 1=_;rw[FQ N rs];rfl
theorem OR (N:Nt) (r s:Nat):nst N r s < 2 ^ N.sts.length:=by have:=KB (fv N r s) (N.sts.map (·.2));rw[length_map] at this;exact this
theorem BE (N:Nt):∀(rs:List Nat) (st:Nat),st < 2 ^ N.sts.length->rst N st rs < 2 ^ N.sts.length
 | [],_,h=>h
 | q::rs,st,_=>BE N rs _ (OR N q st)
def QE (N:Nt):Prop:=∀r s,∃f,Val N r s f
noncomputable def need (N:Nt) (od:List Str):List Str:=N.ins++N.sts.map (·.1)++od
structure Pre (N:Nt) (row st:Nat) (pre:List Str) (f:Str->Bool):Prop where
 i:∀(k:Nat) z,N.ins[k]? =some z->z∈pre->f z=row.testBit k
 t:∀(k:Nat) z y,N.sts[k]? =some (z,y)->z∈pre->f z=st.testBit k
 s:∀z ws,(z,ws)∈N.sums->z∈pre->f z=xb f ws/\∀w∈ws,w∈pre
structure Bt (N:Nt) (row st:Nat) (pre:List Str) (f:Str->Bool) (z:Str) (v:Bool):Prop where
 i:∀k:Nat,N.ins[k]? =some z->v=row.testBit k
 t:∀(k:Nat) y,N.sts[k]? =some (z,y)->v=st.testBit k
 s:∀ws,(z,ws)∈N.sums->v=xb f ws/\∀w∈ws,w∈pre
theorem Pre.nil (N:Nt) (row st:Nat) (f:Str->Bool):Pre N row st [] f:=⟨λ_ _ _ h=>absurd h (by simp),λ_ _ _ _ h=>absurd h (by simp),λ_ _ _ h=>absurd h (by simp)⟩
theorem Pre.step {N:Nt} {row st:Nat} {pre:List Str} {f:Str->Bool} (p:Pre N row st pre f) {z:Str} {v:Bool} (hz:z∉pre) (b:Bt N row st pre f z v):Pre N row st (pre++[z]) (λy=>if y=z then v else f y):=by
 have G:∀y,y∈pre->(if y=z then v else f y)=f y:=λy L=>if_neg (λ(e:y=z)=>hz (e ▸ L));have O:∀ws:List Str,(∀w∈ws,w∈pre)->xb (λy=>if y=z then v else f y) ws=xb f ws:=λws h=>tE λw hw=>G w (h w hw);refine⟨λk y hk L=>?_,λk y x hk L=>?_,λy ws hs L=>?_⟩
 ·rcases mem_append.mp L with h | h
  ·rw[G y h];exact p.i k y hk h
  ·rw[mem_singleton] at h;subst h;rw[if_pos rfl];exact b.i k hk
 ·rcases mem_append.mp L with h | h
  ·rw[G y h];exact p.t k y x hk h
  ·rw[mem_singleton] at h;subst h;rw[if_pos rfl];exact b.t k x hk
 ·rcases mem_append.mp L with h | h
  ·obtain⟨e,hw⟩:=p.s y ws hs h;rw[G y h,O ws hw];exact⟨e,λw m=>mem_append_left _ (hw w m)⟩
  ·rw[mem_singleton] at h;subst h;obtain⟨e,hw⟩:=b.s ws hs;rw[if_pos rfl,O ws hw];exact⟨e,λw m=>mem_append_left _ (hw w m)⟩
section
variable {N:Nt} (g:Gn N)
include g
theorem kW:N.ins.Nodup/\(N.sums.map (·.1)).Nodup/\(N.sts.map (·.1)).Nodup/\(∀z∈N.ins,z∉N.sums.map (·.1))/\(∀z∈N.ins,z∉N.sts.map (·.1))/\∀z∈N.sums.map (·.1),z∉N.sts.map (·.1):=by
 have h:=g.nd;unfold Nt.names at h;rw[nodup_append,nodup_append] at h;obtain⟨⟨a,b,c⟩,d,e⟩:=h;exact⟨a,b,d,λz h1 h2=>c z h1 z h2 rfl,λz h1 h2=>e z (mem_append_left _ h1) z h2 rfl,λz h1 h2=>e z (mem_append_right _ h1) z h2 rfl⟩
theorem Pu {row st:Nat} {pre:List Str} {f:Str->Bool} {k:Nat} {z:Str} (h:N.ins[k]? =some z):Bt N row st pre f z (row.testBit k):=by
 obtain⟨a,b,c,d,e,_⟩:=kW g;have hm:=mem_of_getElem? h;refine⟨λj G=>?_,λj y G=>?_,λws hs=>?_⟩
 ·have:k=j:=(List.getElem?_inj (List.getElem?_eq_some_iff.mp h).1 a).mp (h.trans G.symm);rw[this]
 ·exact absurd (mem_map.mpr ⟨_,mem_of_getElem? G,rfl⟩) (e z hm)
 ·exact absurd (mem_map.mpr ⟨_,hs,rfl⟩) (d z hm)
theorem Pt {row st:Nat} {pre:List Str} {f:Str->Bool} {k:Nat} {z y:Str} (h:N.sts[k]? =some (z,y)):Bt N row st pre f z (st.testBit k):=by
 obtain⟨a,b,c,d,e,L⟩:=kW g;have hm:z∈N.sts.map (·.1):=mem_map.mpr ⟨_,mem_of_getElem? h,rfl⟩;refine⟨λj G=>?_,λj x G=>?_,λws hs=>?_⟩
 ·exact absurd hm (e z (mem_of_getElem? G))
 ·have h1:(N.sts.map (·.1))[k]? =some z:=by rw[getElem?_map,h];rfl
  have h2:(N.sts.map (·.1))[j]? =some z:=by rw[getElem?_map,G];rfl
  have:k=j:=(List.getElem?_inj (List.getElem?_eq_some_iff.mp h1).1 c).mp (h1.trans h2.symm);rw[this]
 ·exact absurd hm (L z (mem_map.mpr ⟨_,hs,rfl⟩))
theorem KP {row st:Nat} {pre:List Str} {f:Str->Bool} {z:Str} {ws:List Str} (h:(z,ws)∈N.sums) (hw:∀w∈ws,w∈pre):Bt N row st pre f z (xb f ws):=by
 obtain⟨a,b,c,d,e,O⟩:=kW g;have hm:z∈N.sums.map (·.1):=mem_map.mpr ⟨_,h,rfl⟩;refine⟨λj G=>?_,λj x G=>?_,λL hs=>?_⟩
 ·exact absurd hm (d z (mem_of_getElem? G))
 ·exact absurd (mem_map.mpr ⟨_,mem_of_getElem? G,rfl⟩) (O z hm)
 ·have:=Gb b h hs;subst this;exact⟨rfl,hw⟩
variable {od:List Str} (tp:Topo N.sums od)
include tp
theorem jJ (z:Str):z∈need N od↔z∈N.names:=by
 unfold need Nt.names;rw[mem_append,mem_append,mem_append,mem_append,tp.perm.mem_iff];constructor
 ·rintro((h | h) | h)
  ·exact .inl (.inl h)
  ·exact .inr h
  ·exact .inl (.inr h)
 ·rintro((h | h) | h)
  ·exact .inl (.inl h)
  ·exact .inr h
  ·exact .inl (.inr h)
theorem Mf:(need N od).Nodup:=by
 obtain⟨a,b,c,d,e,O⟩:=kW g;unfold need;rw[nodup_append,nodup_append];refine⟨⟨a,c,λx L y G z=>e x L (z ▸ G)⟩,tp.perm.nodup_iff.mpr b,λx L y G z=>?_⟩;have G:=tp.perm.mem_iff.mp G;subst z;rcases mem_append.mp L with h | h
 ·exact d x h G
 ·exact O x G h
theorem xO:(need N od).length<=62:=by
 have:=tp.perm.length_eq;have h1:=g.li;have h2:=g.ls;have G:=g.lt;unfold need;rw[length_map] at this;rw[length_append,length_append,length_map];omega
theorem AJ {i:Nat} {z:Str} (h:(need N od)[i]? =some z):∀ws,(z,ws)∈N.sums->∀w∈ws,w∈(need N od).take i:=by
 intro ws hs w hw;obtain⟨a,b,c,d,e,O⟩:=kW g;have hm:z∈N.sums.map (·.1):=mem_map.mpr ⟨_,hs,rfl⟩;unfold need at h ⊢
 have hi:(N.ins++N.sts.map (·.1)).length<=i:=by
  refine Nat.le_of_not_lt λL=>?_;rw[getElem?_append_left L] at h;rcases mem_append.mp (mem_of_getElem? h) with h | h
  ·exact d z h hm
  ·exact O z hm h
 rw[getElem?_append_right hi] at h;rw[List.take_append,mem_append,List.take_of_length_le hi];have G:=g.ws _ hs w hw;unfold Nt.names at G;rcases mem_append.mp G with h' | h'
 ·rcases mem_append.mp h' with h' | h'
  ·exact .inl (mem_append_left _ h')
  ·exact .inr (tp.need _ z h ws hs w hw h')
 ·exact .inl (mem_append_right _ h')
theorem MJ {row st i:Nat} {f:Str->Bool} {z:Str} (h:(need N od)[i]? =some z):∃v,Bt N row st ((need N od).take i) f z v:=by
 have hm:=(jJ g tp z).mp (mem_of_getElem? h);unfold Nt.names at hm;rcases mem_append.mp hm with h' | h'
 ·rcases mem_append.mp h' with h' | h'
  ·obtain⟨k,hk⟩:=mem_iff_getElem?.mp h';exact⟨_,Pu g hk⟩
  ·obtain⟨r,G,rfl⟩:=mem_map.mp h';exact⟨_,KP g (ws:=r.2) G (AJ g tp h r.2 G)⟩
 ·obtain⟨r,G,rfl⟩:=mem_map.mp h';obtain⟨k,hk⟩:=mem_iff_getElem?.mp G;exact⟨_,Pt g (y:=r.2) hk⟩
theorem uB {i:Nat} {z:Str} (h:(need N od)[i]? =some z):z∉(need N od).take i:=λm=>by
 have nd:=Mf g tp;rw[<-List.take_append_drop i (need N od),nodup_append] at nd;exact nd.2.2 z m z (mem_of_getElem? (i:=0) (by rw[getElem?_drop,Nat.add_zero];exact h)) rfl
theorem F3 {row st:Nat} {f:Str->Bool} (p:Pre N row st (need N od) f):Val N row st f:=by
 have G:∀z,z∈N.names->z∈need N od:=λz=>(jJ g tp z).mpr;refine⟨λk z h=>p.i k z h (G z ?_),λk z y h=>p.t k z y h (G z ?_),λz ws h=>(p.s z ws h (G z ?_)).1⟩
 ·exact mem_append_left _ (mem_append_left _ (mem_of_getElem? h))
 ·exact mem_append_right _ (mem_map.mpr ⟨_,mem_of_getElem? h,rfl⟩)
 ·exact mem_append_left _ (mem_append_right _ (mem_map.mpr ⟨_,h,rfl⟩))
theorem K8:QE N:=λrow st=>by
 have G:∀n,n<=(need N od).length->∃f,Pre N row st ((need N od).take n) f:=by
  intro n
  induction n with
  | zero=>intro _;exact⟨λ_=>false,Pre.nil ..⟩
  | succ n ih=>
    intro hn;obtain⟨f,hf⟩:=ih (by omega);obtain⟨z,hz⟩:∃z,(need N od)[n]? =some z:=⟨_,getElem?_eq_getElem (by omega)⟩;obtain⟨v,L⟩:=MJ (row:=row) (st:=st) (f:=f) g tp hz;have:=hf.step (uB g tp hz) L;rw[<-take_succ hz] at this;exact⟨_,this⟩
 obtain⟨f,hf⟩:=G _ (le_refl _);rw[take_length] at hf;exact⟨f,F3 g tp hf⟩
end
noncomputable abbrev NP:=Hp->Addr->Nt->List Str->Prop
def CG (G:NP):Sp:=λvs H Q _=>∃(p:Addr) (N:Nt) (od:List Str),vs=[.ref p]/\G H p N od/\∀(D:Addr) (H2:Hp),H D=none->Same H H2->H2 D=some (.lst (N.ins.map V.str))->Q (.ref D) H2
def Lk (G:NP):Sp:=λvs H Q _=>∃(p:Addr) (N:Nt) (od:List Str),vs=[.ref p]/\G H p N od/\∀(D:Addr) (H2:Hp),H D=none->Same H H2->H2 D=some (.lst (N.outs.map V.str))->Q (.ref D) H2
def Ff (G:NP):Sp:=λvs H Q _=>∃(p:Addr) (N:Nt) (od:List Str),vs=[.ref p]/\G H p N od/\∀(D:Addr) (H2:Hp) (qs:List Qs),H D=none->Same H H2->H2 D=some (.lst (qs.map λq=>V.ref q.1))->QsK H2 qs->qs.map (·.2)=N.sts->Q (.ref D) H2
def Lm (G:NP):Sp:=λvs H Q _=>∃(p:Addr) (N:Nt) (od:List Str),vs=[.ref p]/\G H p N od/\∀(D:Addr) (H2:Hp),H D=none->Same H H2->H2 D=some (.lst ((need N od).map V.str))->Q (.ref D) H2
def Fc (G:NP) (Y O L:Addr):Sp:=λvs H Q _=>∃(p:Addr) (N:Nt) (od:List Str) (z:Str),vs=[.ref p,.str z]/\G H p N od/\z∈N.names/\∀(w:Addr) (H2:Hp),Same H H2->Wob H2 Y O L N z w->Q (.ref w) H2
noncomputable def bitK (f:Str->Bool) (zs:List Str):List (Key×V):=zs.map λz=>(Sum.inr z,nat (M.bn (f z)))
def IF (G:NP):Sp:=λvs H Q _=>∃(p:Addr) (N:Nt) (od:List Str) (row st:Nat),vs=[.ref p,nat row,nat st]/\G H p N od/\∀(d:Addr) (H2:Hp) (f:Str->Bool),H d=none->Same H H2->H2 d=some (.dK (bitK f (need N od)))->Val N row st f->Q (.ref d) H2
def Fl:Sp:=λvs H Q _=>∃(l d:Addr) (ws zs:List Str) (f:Str->Bool),vs=[.ref l,.ref d]/\H l=some (.lst (ws.map V.str))/\H d=some (.dK (bitK f zs))/\ws.length<=100/\(∀w∈ws,w∈zs)/\∀H2,Same H H2->Q (nat (mat f ws)) H2
theorem xg (f:Str->Bool) {z:Str}:∀{zs:List Str},z∈zs->valV (bitK f zs) (Sum.inr z)=some (nat (M.bn (f z)))
 | [],h=>by cases h
 | y::zs,h=>by
   unfold bitK;rw[map_cons];by_cases e:y=z
   ·subst e;exact kD rfl
   ·rw[kE λh2=>e (Sum.inr.inj h2)];exact xg f ((mem_cons.mp h).resolve_left λh2=>e h2.symm)
theorem HB (f:Str->Bool) (zs:List Str):(bitK f zs).map (·.1)=zs.map Sum.inr:=by unfold bitK;rw[map_map];rfl
theorem M7 (a b:Bool):Builtin.bitXor ((M.bn a:Nat):Int) ((M.bn b:Nat):Int)=((M.bn (a^^b):Nat):Int):=by cases a<;>cases b<;>decide
theorem ME (f:Str->Bool):∀ws:List Str,(ws.map λw=>((M.bn (f w):Nat):Int)).foldl Builtin.bitXor 0=((M.bn (xb f ws):Nat):Int):=by
 intro ws
 induction ws using M.rev_ind with
 | h0=>rfl
 | h1 l x ih=>rw[map_append,foldl_append,ih,jR];exact M7 _ _
theorem O0 (f:Str->Bool) (ws:List Str):M.xm ((List.range ws.length).filter λk=>f (ws.getD k ""))=mat f ws:=by
 have e:(List.range ws.length).filter (λk=>f (ws.getD k ""))=M.pl ws.length (mat f ws):=by
  unfold M.pl;refine List.filter_congr λk hk=>?_;rw[xQ,decide_eq_true (mem_range.mp hk)];rfl
 rw[e,M8 (KB f ws)]
structure RunA (NA:NP) (H:Hp) (C p l n:Addr) (N:Nt) (od:List Str) (st:Nat) (as:List Nat):Prop where
 ho:∃(dx d:Addr),H p=some (.ins C dx [("net",.ref n),("held",nat st),("bits",.ref d),("given",.ref l)])
 hl:H l=some (.lst (as.map nat))
 na:NA H n N od
def K2 (p l:Addr) (H H2:Hp):Prop:=∀b ob,b≠p->b≠l->H b=some ob->H2 b=some ob
def Cy (G:NP) (C:Addr):Sp:=λvs H Q _=>∃(x dx n:Addr) (N:Nt) (od:List Str),vs=[.ref x,.ref n]/\H x=some (.ins C dx [])/\G H n N od/\∀(H2:Hp) (l:Addr),Kx x H H2->H l=none->RunA G H2 C x l n N od 0 []->Q .non H2
def IH (L:NP) (C:Addr):Sp:=λvs H Q _=>∃(p l n:Addr) (N:Nt) (od:List Str) (st row:Nat) (G:List Nat),vs=[.ref p,nat row]/\RunA L H C p l n N od st G/\row < 2 ^ N.ins.length/\G.length<=900/\∀(H2:Hp),K2 p l H H2->RunA L H2 C p l n N od (nst N row st) (G++[nan N row st])->Q (nat (nan N row st)) H2
def Fg (L:NP) (C:Addr):Sp:=λvs H Q _=>∃(p l n:Addr) (N:Nt) (od:List Str) (st:Nat) (G:List Nat),vs=[.ref p]/\RunA L H C p l n N od st G/\Q (nat st) H
theorem NetA.keep {H H2:Hp} {C β α Z n:Addr} {N:Nt} {od:List Str} (x:NetA H C β α Z n N od) {p η dx:Addr} {fs:List (Str×V)} (G:H p=some (.ins η dx fs)) (hf:(∀(v:V) (r:List (Str×V)),fs≠(("name":Str),v)::r)/\∀(v:V) (r:List (Str×V)),fs≠(("ins":Str),v)::r) (k:Kx p H H2):NetA H2 C β α Z n N od:=by
 obtain⟨Y,i,s,t,o,d,γ,rs,qs,ws,a,b,c,e⟩:=x.ho
 have O:∀q∈ws,q.2≠p:=λq δ z=>by
  obtain⟨θ,ζ,ε,L,_⟩:=(c.ob q δ).name;rw[z,G] at L;injection L with L
  injection L with _ _ L
  exact hf.1 _ _ L
 have hn:n≠p:=λz=>by
  rw[z,G] at a;injection a with a
  injection a with _ _ a
  exact hf.2 _ _ a
 exact⟨⟨Y,i,s,t,o,d,γ,rs,qs,ws,k _ _ hn a,k.kpt G b,k.wia c (b4 c.d G λz=>by cases z) O G,k.tup G e⟩,x.g,x.tp⟩
theorem NetA.updL {H H2:Hp} {C Z Y O n:Addr} {N:Nt} {od:List Str} (x:NetA H C Z Y O n N od) {l:Addr} {xs:List V} (hl:H l=some (.lst xs)) (k:Kx l H H2):NetA H2 C Z Y O n N od:=by
 obtain⟨L,i,s,t,o,d,α,rs,qs,ws,a,b,c,e⟩:=x.ho;have G:∀{b:Addr} {ys:List V},H b=some (.tup ys)->H2 b=some (.tup ys):=λe=>k _ _ (b4 e hl λz=>by cases z) e;refine⟨⟨L,i,s,t,o,d,α,rs,qs,ws,k _ _ (b4 a hl λz=>by cases z) a,⟨G b.i,G b.s,λr m=>⟨G (b.sr r m).1,G (b.sr r m).2⟩,b.es,G b.t,λq m=>G (b.tr q m),b.et,G b.o⟩,⟨k _ _ (b4 c.d hl λz=>by cases z) c.d,c.nm,λq m=>(c.ob q m).keep hl k⟩,G e⟩,x.g,x.tp⟩
noncomputable def mixV (c k:Int):Int:=((c % 2147483647 * 48271 + 7919 * k + 11) % 2147483647 * ((c % 2147483647 * 48271 + 7919 * k + 11) % 2147483647) % 2147483629) * ((c % 2147483647 * 48271 + 7919 * k + 11) % 2147483647 * ((c % 2147483647 * 48271 + 7919 * k + 11) % 2147483647) % 2147483629 + 48271 * k + 7) % 2147483587
theorem Ml (c k:Int):0<=mixV c k:=Int.emod_nonneg _ (by decide)
theorem Mm (c k:Int):mixV c k < 2147483587:=Int.emod_lt_of_pos _ (by decide)
def Ah:Sp:=λvs H Q _=>∃(c k:Int),vs=[.int c,.int k]/\0<=k/\k < 100000/\Q (.int (mixV c k)) H
noncomputable def EW:Str:=("cut x x0 x1 fresh new zero none nil tmp c c0 cut0 cut1 gnd off in out sum store":Str)++(" i0 i1 s0 s1 n0 n1 o0 o1 net wire a b z y0 t0 w w0 k dead open":Str)
noncomputable def W40:List Str:=Txt.split EW " "
theorem yv:W40.length=40:=by decide +kernel
theorem PJ:W40.Nodup:=by decide +kernel
theorem PF:∀z∈W40,nm z.cps.toList=true:=by decide +kernel
noncomputable def dval (l:List Nat):Nat:=l.foldl (λa c=>10 * a + (c - 48)) 0
noncomputable def tx (n:Nat):Str:=(toString (n:Int):String)
theorem EY:∀n:Fin 2500,(dval (tx n.1).cps.toList=n.1/\(tx n.1).cps.toList.all fig=true)/\(tx n.1).cps.toList.length<=4:=by decide +kernel
noncomputable def nmf (c k:Int):Str:=if mixV c 402 % 2=0 then W40.getD ((k + mixV c 403) % 40).toNat "" else (⟨#[97 + (mixV c 400 % 26).toNat]⟩:Str)++tx ((mixV c 401 % 1000).toNat + 37 * k.toNat)
theorem Bf (x y:Str):(x++y).cps.toList=x.cps.toList++y.cps.toList:=by
 show(x.cps++y.cps).toList=_;rw[Array.toList_append]
theorem OT (c:Int) {k:Int} (h0:0<=k) (h1:k < 40):Nm (nmf c k):=by
 unfold nmf;by_cases h:mixV c 402 % 2=0
 ·rw[if_pos h]
  have hi:((k + mixV c 403) % 40).toNat < W40.length:=by
   rw[yv];have:=Int.emod_lt_of_pos (k + mixV c 403) (show(0:Int) < 40 by decide);have:=Int.emod_nonneg (k + mixV c 403) (show(40:Int)≠0 by decide);omega
  rw[getD_eq_getElem?_getD,getElem?_eq_getElem hi];exact PF _ (getElem_mem hi)
 ·rw[if_neg h]
  have hb:(mixV c 401 % 1000).toNat + 37 * k.toNat < 2500:=by
   have:=Int.emod_lt_of_pos (mixV c 401) (show(0:Int) < 1000 by decide);have:=Int.emod_nonneg (mixV c 401) (show(1000:Int)≠0 by decide);omega
  obtain⟨⟨_,h2⟩,O⟩:=EY ⟨_,hb⟩
  have hd:low (97 + (mixV c 400 % 26).toNat)=true:=by
   have:=Int.emod_lt_of_pos (mixV c 400) (show(0:Int) < 26 by decide);have:=Int.emod_nonneg (mixV c 400) (show(26:Int)≠0 by decide);unfold low;rw[decide_eq_true (by omega),decide_eq_true (by omega)];rfl
  show nm _=true;rw[Bf];show nm ((97 + (mixV c 400 % 26).toNat)::(tx ((mixV c 401 % 1000).toNat + 37 * k.toNat)).cps.toList)=true;generalize hl:(tx ((mixV c 401 % 1000).toNat + 37 * k.toNat)).cps.toList=l at h2 O;generalize 97 + (mixV c 400 % 26).toNat=d at hd;show(decide ((d::l).length<=6)&&low d&&(d::l).all λc=>low c||fig c)=true;rw[hd,all_cons,hd]
  have G:l.all (λc=>low c||fig c)=true:=by
   rw[all_eq_true] at h2 ⊢;intro x L;rw[h2 x L,Bool.or_true]
  rw[G,length_cons,decide_eq_true (by omega)];rfl
theorem Me (c:Int) {j k:Int} (ζ:0<=j) (ε:j < 40) (k0:0<=k) (k1:k < 40) (e:nmf c j=nmf c k):j=k:=by
 unfold nmf at e;by_cases h:mixV c 402 % 2=0
 ·rw[if_pos h,if_pos h] at e;have η:=Int.emod_lt_of_pos (j + mixV c 403) (show(0:Int) < 40 by decide);have γ:=Int.emod_nonneg (j + mixV c 403) (show(40:Int)≠0 by decide);have hk:=Int.emod_lt_of_pos (k + mixV c 403) (show(0:Int) < 40 by decide);have β:=Int.emod_nonneg (k + mixV c 403) (show(40:Int)≠0 by decide);have L:((j + mixV c 403) % 40).toNat < W40.length:=by rw[yv];omega
  have lk:((k + mixV c 403) % 40).toNat < W40.length:=by rw[yv];omega
  rw[getD_eq_getElem?_getD,getD_eq_getElem?_getD,getElem?_eq_getElem L,getElem?_eq_getElem lk] at e;have G:W40[((j + mixV c 403) % 40).toNat]? =W40[((k + mixV c 403) % 40).toNat]? :=by rw[getElem?_eq_getElem L,getElem?_eq_getElem lk];exact congrArg some e
  have:=(List.getElem?_inj L PJ).mp G;omega
 ·rw[if_neg h,if_neg h] at e;have hm:=Int.emod_lt_of_pos (mixV c 401) (show(0:Int) < 1000 by decide);have α:=Int.emod_nonneg (mixV c 401) (show(1000:Int)≠0 by decide);have Y:(mixV c 401 % 1000).toNat + 37 * j.toNat < 2500:=by omega
  have O:(mixV c 401 % 1000).toNat + 37 * k.toNat < 2500:=by omega
  have G:=congrArg (λz:Str=>z.cps.toList) e;simp only[Bf] at G;have δ:=List.append_cancel_left G;have Z:=congrArg dval δ;rw[(EY ⟨_,Y⟩).1.1,(EY ⟨_,O⟩).1.1] at Z;have Z:(mixV c 401 % 1000).toNat + 37 * j.toNat=(mixV c 401 % 1000).toNat + 37 * k.toNat:=Z;omega
def wC:Sp:=λvs H Q _=>∃(c k:Int),vs=[.int c,.int k]/\0<=k/\k < 40/\∀H2,Same H H2->Q (.str (nmf c k)) H2
def Fn:Sp:=λvs H Q _=>∃(c:Int) (st:Int) (l:Addr) (zs:List Str) (dg:Bool),vs=[.int c,.int st,.ref l,.bl dg]/\0<=st/\st<=900/\H l=some (.lst (zs.map V.str))/\zs.length<=50/\∀(D:Addr) (H2:Hp) (ws:List Str),H D=none->Same H H2->H2 D=some (.lst (ws.map V.str))->ws.length<=4->(∀w∈ws,w∈zs)->Q (.ref D) H2
theorem wL (i:Int) (h0:0<=i) (h1:i < 26):atI ("abcdefghijklmnopqrstuvwxyz":Str).cps.toList i=some (97 + i.toNat):=by
 have e:("abcdefghijklmnopqrstuvwxyz":Str).cps.toList=List.range' 97 26:=by decide +kernel
 obtain⟨j,rfl⟩:=Int.eq_ofNat_of_zero_le h0;rw[e];refine fI ?_;rw[List.getElem?_range' (by omega)];show some (97 + 1 * j)=some (97 + (j:Int).toNat);rw[one_mul,Int.toNat_natCast]
def RwL (H:Hp) (rs:List Rw):Prop:=∀r∈rs,H r.1=some (.tup [.str r.2.2.1,.ref r.2.1])/\H r.2.1=some (.lst (r.2.2.2.map V.str))
theorem RwL.same {H H2:Hp} {rs:List Rw} (h:RwL H rs) (s:Same H H2):RwL H2 rs:=λr m=>⟨s.get (h r m).1,s.get (h r m).2⟩
noncomputable def nms (c:Int) (a n:Nat):List Str:=(List.range n).map λk=>nmf c ((a + k:Nat):Int)
theorem eJ (c:Int) (a n:Nat):(nms c a n).length=n:=by unfold nms;rw[length_map,length_range]
theorem pH (c:Int) (a n:Nat):nms c a (n + 1)=nms c a n++[nmf c ((a + n:Nat):Int)]:=by unfold nms;rw[range_succ,map_append];rfl
theorem i8 {c:Int} {a n:Nat} {z:Str} (h:z∈nms c a n):∃k,k < n/\z=nmf c ((a + k:Nat):Int):=by
 obtain⟨k,hk,rfl⟩:=mem_map.mp h;exact⟨k,mem_range.mp hk,rfl⟩
theorem OS {c:Int} {a n k:Nat} (h:k < n):nmf c ((a + k:Nat):Int)∈nms c a n:=mem_map.mpr ⟨k,mem_range.mpr h,rfl⟩
theorem xN (c:Int) {j k:Nat} (G:j < 40) (k1:k < 40) (e:nmf c (j:Int)=nmf c (k:Int)):j=k:=by
 have:=Me c (by omega) (by omega) (by omega) (by omega) e;omega
structure Mk (c:Int) (ni nt:Nat) (rows:List (Str×List Str)):Prop where
 nm:rows.map (·.1)=nms c 22 rows.length
 ws:∀(k:Nat) r,rows[k]? =some r->r.2.length<=4/\∀w∈r.2,w∈nms c 0 ni++nms c 6 nt++nms c 22 k
theorem Mk.nil (c:Int) (L G:Nat):Mk c L G []:=⟨rfl,λk r h=>by simp at h⟩
theorem Mk.put {c:Int} {L G:Nat} {rows:List (Str×List Str)} (m:Mk c L G rows) {ws:List Str} (l:ws.length<=4) (h:∀w∈ws,w∈nms c 0 L++nms c 6 G++nms c 22 rows.length):Mk c L G (rows++[(nmf c ((22 + rows.length:Nat):Int),ws)]):=by
 refine⟨by rw[map_append,m.nm,length_append,length_singleton,pH];rfl,λk r hk=>?_⟩;by_cases O:k < rows.length
 ·rw[getElem?_append_left O] at hk;exact m.ws k r hk
 ·rw[getElem?_append_right (by omega)] at hk
  have:k - rows.length=0:=by
   have:=(List.getElem?_eq_some_iff.mp hk).1;rw[length_singleton] at this;omega
  rw[this] at hk;cases hk;rw[show k=rows.length by omega];exact⟨l,h⟩
noncomputable def xf (f:Str->Nat) (ws:List Str):Nat:=ws.foldl (λa w=>a^^^f w) 0
theorem Aa (f:Str->Nat) (ws:List Str) (w:Str):xf f (ws++[w])=xf f ws^^^f w:=by unfold xf;rw[foldl_append];rfl
theorem Ka (f:Str->Nat) (j:Nat):∀ws:List Str,(xf f ws).testBit j=xb (λw=>(f w).testBit j) ws:=by
 intro ws
 induction ws using M.rev_ind with
 | h0=>show(0:Nat).testBit j=false;exact zero_testBit j
 | h1 l x ih=>rw[Aa,jR,testBit_xor,ih]
theorem OL (f:Str->Nat) (y:Nat):∀ws:List Str,M.od (xf f ws&&&y)=xb (λw=>M.od (f w&&&y)) ws:=by
 intro ws
 induction ws using M.rev_ind with
 | h0=>show M.od (0&&&y)=false;rw[zero_and];exact M.od_zero
 | h1 l x ih=>rw[Aa,jR,Nat.and_comm,M.and_xor,M.od_xor,Nat.and_comm y,Nat.and_comm y,ih]
theorem G5 (f:Str->Nat):∀ws:List Str,(ws.map λw=>((f w:Nat):Int)).foldl Builtin.bitXor 0=((xf f ws:Nat):Int):=by
 intro ws
 induction ws using M.rev_ind with
 | h0=>rfl
 | h1 l x ih=>rw[Aa,map_append,foldl_append,ih];exact cI _ _
structure Hng (N:Nt) (p:Str->Nat×Nat):Prop where
 i:∀(k:Nat) z,N.ins[k]? =some z->p z=(0,2 ^ k)
 t:∀(k:Nat) z y,N.sts[k]? =some (z,y)->p z=(2 ^ k,0)
 s:∀z ws,(z,ws)∈N.sums->p z=(xf (λw=>(p w).1) ws,xf (λw=>(p w).2) ws)
noncomputable def hvl (p:Str->Nat×Nat) (row st:Nat):Str->Bool:=λz=>M.od ((p z).1&&&st)^^M.od ((p z).2&&&row)
theorem Hng.val {N:Nt} (g:Gn N) {p:Str->Nat×Nat} (h:Hng N p) (row st:Nat):Val N row st (hvl p row st):=by
 refine⟨λk z hk=>?_,λk z y hk=>?_,λz ws hz=>?_⟩
 ·have:=(List.getElem?_eq_some_iff.mp hk).1;have:=g.li;unfold hvl;rw[h.i k z hk,zero_and,M.od_zero,M.od_pow (by omega)];exact Bool.false_xor _
 ·have:=(List.getElem?_eq_some_iff.mp hk).1;have:=g.lt;unfold hvl;rw[h.t k z y hk,zero_and,M.od_zero,M.od_pow (by omega)];exact Bool.xor_false _
 ·unfold hvl;rw[h.s z ws hz,OL,OL];exact(Na _ _ ws).symm
noncomputable def hgp (N:Nt) (z:Str):Nat×Nat:=(M.pk (λk=>fv N 0 (2 ^ k) z) 0 N.sts.length,M.pk (λk=>fv N (2 ^ k) 0 z) 0 N.ins.length)
theorem Pc (N:Nt) (z:Str):(hgp N z).1 < 2 ^ N.sts.length:=M.pk_lt _ _ _
theorem Pb (N:Nt) (z:Str):(hgp N z).2 < 2 ^ N.ins.length:=M.pk_lt _ _ _
theorem Kb (b:Bool) (f:Str->Bool):∀ws:List Str,xb (λw=>b&&f w) ws=(b&&xb f ws):=by
 intro ws
 induction ws using M.rev_ind with
 | h0=>show false=(b&&false);rw[Bool.and_false]
 | h1 l x ih=>rw[jR,jR,ih];cases b<;>simp
theorem ya {N:Nt} (g:Gn N) {od:List Str} (tp:Topo N.sums od):Hng N (hgp N):=by
 have v:∀r s,Val N r s (fv N r s):=λr s=>Classical.epsilon_spec (K8 g tp r s);refine⟨λk z hk=>?_,λk z y hk=>?_,λz ws hz=>?_⟩
 ·have hl:=(List.getElem?_eq_some_iff.mp hk).1;refine Prod.ext (eq_of_testBit_eq λj=>?_) (eq_of_testBit_eq λj=>?_)
  ·show(M.pk _ 0 _).testBit j=(0:Nat).testBit j;rw[M.pk_bit,zero_add,(v 0 (2 ^ j)).i k z hk,zero_testBit,zero_testBit,Bool.and_false]
  ·show(M.pk _ 0 _).testBit j=(2 ^ k:Nat).testBit j;rw[M.pk_bit,zero_add,(v (2 ^ j) 0).i k z hk,testBit_two_pow,testBit_two_pow];by_cases e:k=j
   ·subst e;rw[decide_eq_true hl,decide_eq_true rfl];rfl
   ·rw[show decide (k=j)=false from decide_eq_false e,show decide (j=k)=false from decide_eq_false (λh=>e h.symm),Bool.and_false]
 ·have hl:=(List.getElem?_eq_some_iff.mp hk).1;refine Prod.ext (eq_of_testBit_eq λj=>?_) (eq_of_testBit_eq λj=>?_)
  ·show(M.pk _ 0 _).testBit j=(2 ^ k:Nat).testBit j;rw[M.pk_bit,zero_add,(v 0 (2 ^ j)).t k z y hk,testBit_two_pow,testBit_two_pow];by_cases e:k=j
   ·subst e;rw[decide_eq_true hl,decide_eq_true rfl];rfl
   ·rw[show decide (k=j)=false from decide_eq_false e,show decide (j=k)=false from decide_eq_false (λh=>e h.symm),Bool.and_false]
  ·show(M.pk _ 0 _).testBit j=(0:Nat).testBit j;rw[M.pk_bit,zero_add,(v (2 ^ j) 0).t k z y hk,zero_testBit,zero_testBit,Bool.and_false]
 ·refine Prod.ext (eq_of_testBit_eq λj=>?_) (eq_of_testBit_eq λj=>?_)
  ·show(M.pk _ 0 _).testBit j=(xf _ ws).testBit j;rw[M.pk_bit,zero_add,(v 0 (2 ^ j)).s z ws hz,Ka,<-Kb];exact tE λw _=>by show _=(M.pk _ 0 _).testBit j;rw[M.pk_bit,zero_add]
  ·show(M.pk _ 0 _).testBit j=(xf _ ws).testBit j;rw[M.pk_bit,zero_add,(v (2 ^ j) 0).s z ws hz,Ka,<-Kb];exact tE λw _=>by show _=(M.pk _ 0 _).testBit j;rw[M.pk_bit,zero_add]
theorem O1 (p:Str->Nat×Nat) (row st:Nat) (ws:List Str):mat (hvl p row st) ws=M.tr2 (ws.map p) st row:=by
 apply eq_of_testBit_eq;intro k;rw[xQ,M.tr2_bit,length_map];by_cases hk:k < ws.length
 ·have G:(ws.map p).getD k (0,0)=p (ws.getD k ""):=by rw[getD_eq_getElem?_getD,getElem?_map,getD_eq_getElem?_getD,getElem?_eq_getElem hk];rfl
  rw[G];unfold hvl;exact Eq.refl _
 ·rw[decide_eq_false hk,Bool.false_and,Bool.false_and]
section
variable {N:Nt} (g:Gn N) {od:List Str} (tp:Topo N.sums od) {p:Str->Nat×Nat} (h:Hng N p)
include g tp h
theorem OQ (row st:Nat):nst N row st=M.tr2 ((N.sts.map (·.2)).map p) st row:=by rw[<-Ky g tp (h.val g row st),O1]
theorem BD:∀(rs:List Nat) (st:Nat),rst N st rs=M.wst ((N.sts.map (·.2)).map p) st rs
 | [],_=>rfl
 | r::rs,st=>by show rst N (nst N r st) rs=M.wst _ (M.tr2 _ st r) rs;rw[BD rs,OQ g tp h]
end
structure Hgd (H:Hp) (d:Addr) (N:Nt) (zs:List Str) (hs:List (Str×Addr)):Prop where
 d:H d=some (.dK (hs.map λq=>(Sum.inr q.1,V.ref q.2)))
 nm:hs.map (·.1)=zs
 ob:∀q∈hs,H q.2=some (.tup [nat (hgp N q.1).1,nat (hgp N q.1).2])
theorem Hgd.same {H H2:Hp} {d:Addr} {N:Nt} {zs:List Str} {hs:List (Str×Addr)} (x:Hgd H d N zs hs) (s:Same H H2):Hgd H2 d N zs hs:=⟨s.get x.d,x.nm,λq m=>s.get (x.ob q m)⟩
theorem Iu {hs:List (Str×Addr)} {z:Str}:z∈hs.map (·.1)->∃t,(z,t)∈hs/\valV (hs.map λq=>((Sum.inr q.1:Key),V.ref q.2)) (Sum.inr z)=some (.ref t):=by
 induction hs with
 | nil=>intro h;cases h
 | cons q hs ih=>
   intro h;by_cases e:q.1=z
   ·subst e;exact⟨q.2,mem_cons_self,by show valV ((Sum.inr q.1,V.ref q.2)::_) (Sum.inr q.1)=_;exact kD rfl⟩
   ·have h':z∈hs.map (·.1):=by
     rw[map_cons,mem_cons] at h;exact h.resolve_left λG=>e G.symm
    obtain⟨t,m,v⟩:=ih h';refine⟨t,mem_cons_of_mem _ m,?_⟩;show valV ((Sum.inr q.1,V.ref q.2)::_) (Sum.inr z)=_;rw[kE λG=>e (Sum.inr.inj G)];exact v
theorem Hgd.val {H:Hp} {d:Addr} {N:Nt} {zs:List Str} {hs:List (Str×Addr)} (x:Hgd H d N zs hs) {z:Str} (h:z∈zs):∃t,valV (hs.map λq=>((Sum.inr q.1:Key),V.ref q.2)) (Sum.inr z)=some (.ref t)/\H t=some (.tup [nat (hgp N z).1,nat (hgp N z).2]):=by
 obtain⟨t,m,v⟩:=Iu (hs:=hs) (z:=z) (by rw[x.nm];exact h);exact⟨t,v,x.ob _ m⟩
def IV (G:NP):Sp:=λvs H Q _=>∃(p:Addr) (N:Nt) (od:List Str),vs=[.ref p]/\G H p N od/\∀(d:Addr) (H2:Hp) (hs:List (Str×Addr)),H d=none->Same H H2->Hgd H2 d N (need N od) hs->Q (.ref d) H2
def IG (G:NP) (C:Addr):Sp:=λvs H Q _=>∃(p:Addr) (N:Nt) (od:List Str),vs=[.ref p]/\G H p N od/\∀(x:Addr) (H2:Hp) (nx os:List Pr3),H x=none->Same H H2->MaA H2 C x N.ins.length nx os->MaG N.ins.length nx os->prs nx=(N.sts.map (·.2)).map (hgp N)->prs os=N.outs.map (hgp N)->Q (.ref x) H2
structure Sml (m:Nat) (ps os:List (Nat×Nat)):Prop where
 m6:m<=6
 lp:ps.length<=16
 lo:os.length<=6
 bn:∀q∈ps++os,q.1 < 2 ^ ps.length/\q.2 < 2 ^ m
section
variable {m:Nat} {ps os:List (Nat×Nat)} (b:Sml m ps os)
include b
end
section
variable {m:Nat} {ps os:List (Nat×Nat)} (b:Sml m ps os)
include b
end
end Sx
namespace M
noncomputable def stj (ps:List (Nat×Nat)):List Nat->Nat->List Nat
 | S,0=>S
 | S,j + 1=>(stj ps S j).map λx=>tr2 ps x 0
noncomputable def sg0 (ps:List (Nat×Nat)) (m:Nat):List Nat:=(List.range m).map λw=>tr2 ps 0 (2 ^ w)
noncomputable def rch (ps:List (Nat×Nat)) (m:Nat):Nat->List Nat
 | 0=>[]
 | T + 1=>stj ps (sg0 ps m) T++rch ps m T
theorem stj_len (ps:List (Nat×Nat)) (S:List Nat):∀j,(stj ps S j).length=S.length
 | 0=>rfl
 | j + 1=>by show((stj ps S j).map _).length=_;rw[length_map,stj_len ps S j]
theorem sg0_len (ps:List (Nat×Nat)) (m:Nat):(sg0 ps m).length=m:=by unfold sg0;rw[length_map,length_range]
theorem rch_len (ps:List (Nat×Nat)) (m:Nat):∀T,(rch ps m T).length=T * m
 | 0=>by show 0=0 * m;rw[zero_mul]
 | T + 1=>by show(stj ps (sg0 ps m) T++rch ps m T).length=_;rw[length_append,stj_len,sg0_len,rch_len ps m T,add_mul,one_mul,add_comm]
theorem stj_lt (ps:List (Nat×Nat)) (m:Nat):∀j,∀x∈stj ps (sg0 ps m) j,x < 2 ^ ps.length
 | 0,x,h=>by obtain⟨w,_,rfl⟩:=mem_map.mp h;exact Bu _ _ _
 | j + 1,x,h=>by obtain⟨y,_,rfl⟩:=mem_map.mp h;exact Bu _ _ _
theorem rch_lt (ps:List (Nat×Nat)) (m:Nat):∀T,∀x∈rch ps m T,x < 2 ^ ps.length
 | 0,x,h=>absurd h (by simp[rch])
 | T + 1,x,h=>(mem_append.mp h).elim (stj_lt ps m T x) (rch_lt ps m T x)
theorem Ke (ps:List (Nat×Nat)):∀(rows:List Nat) (F:Nat),tr2 ps (sm rows F) 0=sm (rows.map λx=>tr2 ps x 0) F
 | [],F=>tr2_zero ps
 | r::rows,F=>by
   show tr2 ps ((if F.testBit 0 then r else 0)^^^sm rows (F / 2)) 0=(if F.testBit 0 then tr2 ps r 0 else 0)^^^sm (rows.map λx=>tr2 ps x 0) (F / 2);have e:=Ae ps (if F.testBit 0 then r else 0) (sm rows (F / 2)) 0 0;rw[xor_self] at e;rw[e,Ke ps rows];cases F.testBit 0<;>simp[tr2_zero]
theorem Ac (ps:List (Nat×Nat)) (r:Nat):∀m,r < 2 ^ m->tr2 ps 0 r=sm (sg0 ps m) r
 | 0,h=>by have:r=0:=by have:r < 1:=h;omega
           rw[this,tr2_zero];rfl
 | m + 1,h=>by
   have es:sg0 ps (m + 1)=sg0 ps m++[tr2 ps 0 (2 ^ m)]:=by unfold sg0;rw[range_succ,map_append];rfl
   rw[es,l9,sg0_len];by_cases hb:r.testBit m=true
   ·have G:r^^^2 ^ m < 2 ^ m:=by
     apply Nat.lt_pow_two_of_testBit;intro i hi;rw[testBit_xor,testBit_two_pow];by_cases e:m=i
     ·subst e;rw[hb];simp
     ·rw[testBit_lt_two_pow (lt_of_lt_of_le h (pow_le_pow_right (by decide) (by omega)))];simp[e]
    have ih:=Ac ps (r^^^2 ^ m) m G
    have O:sm (sg0 ps m) r=sm (sg0 ps m) (r^^^2 ^ m):=by
     have:sm (sg0 ps m) (2 ^ m)=0:=by
      have h1:=l9 (sg0 ps m) 0 (2 ^ m);have h2:=Kk (sg0 ps m) 0;rw[sg0_len] at h2;rw[h2] at h1;simpa using h1.symm
     rw[sm_xor,this,xor_zero]
    rw[if_pos hb,O,<-ih];have L:=Ae ps 0 0 (r^^^2 ^ m) (2 ^ m);rw[xor_self,cF] at L;exact L
   ·have G:r < 2 ^ m:=by
     apply Nat.lt_pow_two_of_testBit;intro i hi;by_cases e:i=m
     ·subst e;simpa using hb
     ·exact testBit_lt_two_pow (lt_of_lt_of_le h (pow_le_pow_right (by decide) (by omega)))
    rw[if_neg hb,xor_zero,Ac ps r m G]
theorem Kl:∀(G bs:List Nat) (s:Nat),sm (G++bs) s=sm G s^^^sm bs (s>>>G.length)
 | [],bs,s=>by show sm bs s=0^^^sm bs (s>>>0);rw[zero_xor,Nat.shiftRight_zero]
 | a::G,bs,s=>by
   show(if s.testBit 0 then a else 0)^^^sm (G++bs) (s / 2)=(if s.testBit 0 then a else 0)^^^sm G (s / 2)^^^sm bs (s>>>(G.length + 1));rw[Kl G bs (s / 2),xor_assoc,Nat.shiftRight_succ_inside]
theorem Fz:∀(G:List Nat) (P:Nat),sm G (P <<< G.length)=0
 | [],_=>rfl
 | a::G,P=>by
   show(if (P <<< (G.length + 1)).testBit 0 then a else 0)^^^sm G ((P <<< (G.length + 1)) / 2)=0;have O:(P <<< (G.length + 1)).testBit 0=false:=by rw[Nat.testBit_shiftLeft];simp
   have L:(P <<< (G.length + 1)) / 2=P <<< G.length:=by rw[Nat.shiftLeft_succ];omega
   rw[O,L,Fz G P];simp
theorem C9 {w r P:Nat} (h:r < 2 ^ w):(r^^^(P <<< w))>>>w=P:=by
 apply eq_of_testBit_eq;intro i;rw[Nat.testBit_shiftRight,testBit_xor,Nat.testBit_shiftLeft,testBit_lt_two_pow (lt_of_lt_of_le h (pow_le_pow_right (by decide) (by omega)))];simp
noncomputable def zs (ps:List (Nat×Nat)) (x:Nat):Nat->Nat
 | 0=>x
 | n + 1=>tr2 ps (zs ps x n) 0
theorem wst_zs (ps:List (Nat×Nat)) (x:Nat):∀n,wst ps x (List.replicate n 0)=zs ps x n
 | 0=>rfl
 | n + 1=>by rw[replicate_succ',wst_snoc,wst_zs ps x n];rfl
theorem Ki (ps:List (Nat×Nat)) (S:List Nat) (F:Nat):∀n,sm (stj ps S n) F=zs ps (sm S F) n
 | 0=>rfl
 | n + 1=>by show sm ((stj ps S n).map λx=>tr2 ps x 0) F=tr2 ps (zs ps (sm S F) n) 0;rw[<-Ke,Ki ps S F n]
theorem wst_split (ps:List (Nat×Nat)) (x:Nat) (rs:List Nat):wst ps x rs=zs ps x rs.length^^^wst ps 0 rs:=by
 have e:=EV ps (List.replicate rs.length 0) rs x 0 (by rw[length_replicate])
 have G:List.zipWith (·^^^·) (List.replicate rs.length 0) rs=rs:=by
  apply List.ext_getElem
  ·rw[List.length_zipWith,length_replicate,Nat.min_self]
  ·intro i h1 h2;rw[List.getElem_zipWith,List.getElem_replicate,zero_xor]
 rw[G,xor_zero,wst_zs] at e;exact e
theorem rch_walk (ps:List (Nat×Nat)) (m:Nat):∀rs:List Nat,(∀r∈rs,r < 2 ^ m)->wst ps 0 rs=sm (rch ps m rs.length) (pkw m rs)
 | [],_=>rfl
 | r::rs,h=>by
   have ih:=rch_walk ps m rs λx O=>h x (mem_cons_of_mem _ O);have G:=h r (mem_cons_self ..);show wst ps (tr2 ps 0 r) rs=sm (stj ps (sg0 ps m) rs.length++rch ps m rs.length) (r^^^(pkw m rs <<< m));have hl:(stj ps (sg0 ps m) rs.length).length=m:=by rw[stj_len,sg0_len]
   rw[wst_split,ih,Kl,hl,C9 G,sm_xor];have L:=Fz (stj ps (sg0 ps m) rs.length) (pkw m rs);rw[hl] at L;rw[L,xor_zero,Ki,<-Ac ps r m G]
noncomputable def upk (w q T:Nat):List Nat:=(List.range T).map λt=>(q>>>(t * w))&&&(2 ^ w - 1)
theorem upk_len (w q T:Nat):(upk w q T).length=T:=by unfold upk;rw[length_map,length_range]
theorem upk_lt (w q T:Nat):∀r∈upk w q T,r < 2 ^ w:=λr G=>by
 obtain⟨t,_,rfl⟩:=mem_map.mp G;have:=two_pow_pos w;exact lt_of_le_of_lt and_le_right (by omega)
theorem Iw (w q T:Nat):upk w q (T + 1)=(q&&&(2 ^ w - 1))::upk w (q>>>w) T:=by
 unfold upk;rw[List.range_succ_eq_map,map_cons,map_map,zero_mul,Nat.shiftRight_zero];congr 1;apply List.map_congr_left;intro t _;show(q>>>((t + 1) * w))&&&_=(q>>>w>>>(t * w))&&&_;rw[<-Nat.shiftRight_add,add_mul,one_mul,add_comm]
theorem pkw_upk (w:Nat):∀(T q:Nat),q < 2 ^ (T * w)->pkw w (upk w q T)=q
 | 0,q,h=>by rw[zero_mul] at h;have:q=0:=by have:q < 1:=h;omega
             rw[this];rfl
 | T + 1,q,h=>by
   rw[Iw];show(q&&&(2 ^ w - 1))^^^(pkw w (upk w (q>>>w) T) <<< w)=q;rw[pkw_upk w T (q>>>w) (by rw[shiftRight_eq_div_pow,Nat.div_lt_iff_lt_mul (two_pow_pos _),<-pow_add];rw[add_mul,one_mul] at h;exact h)];apply eq_of_testBit_eq;intro i;rw[testBit_xor,testBit_and,Nat.testBit_shiftLeft,Nat.testBit_shiftRight,Nat.testBit_two_pow_sub_one];by_cases hi:i < w
   ·simp[hi,show ¬w<=i by omega]
   ·simp[hi,show w<=i by omega,show w + (i - w)=i by omega]
theorem OK (ps:List (Nat×Nat)) (hl:ps.length<=1000) (y:Nat):∀(j s:Nat),od (s&&&zs ps y j)=od (bkI (ps.map (·.1)) s j&&&y)
 | 0,_=>rfl
 | j + 1,s=>by
   show od (s&&&tr2 ps (zs ps y j) 0)=_;rw[AG s _ 0 ps hl,and_zero,od_zero,Bool.xor_false,OK ps hl y j,Hy]
theorem OM (ps:List (Nat×Nat)) (hl:ps.length<=1000) (s w:Nat) (hw:w < 1000):od (s&&&tr2 ps 0 (2 ^ w))=(sm (ps.map (·.2)) s).testBit w:=by
 rw[AG s 0 _ ps hl,and_zero,od_zero,Bool.false_xor,Nat.and_comm,od_pow hw]
theorem E8 (ps:List (Nat×Nat)) (m w:Nat) (hw:w < m):∀j,zs ps (tr2 ps 0 (2 ^ w)) j∈stj ps (sg0 ps m) j
 | 0=>mem_map.mpr ⟨w,mem_range.mpr hw,rfl⟩
 | j + 1=>mem_map.mpr ⟨_,E8 ps m w hw j,rfl⟩
theorem FP (ps:List (Nat×Nat)) (m:Nat) {j:Nat} {x:Nat} (h:x∈stj ps (sg0 ps m) j):∀{T},j < T->x∈rch ps m T
 | T + 1,G=>by
   by_cases e:j=T
   ·subst e;exact mem_append_left _ h
   ·exact mem_append_right _ (FP ps m h (by omega))
theorem no_signs {ps:List (Nat×Nat)} {m s T:Nat} (hl:ps.length<=1000) (hm:m<=1000) (Z:∀q∈ps,q.2 < 2 ^ m) (h:∀x∈rch ps m T,od (s&&&x)=false):∀j,j < T->sm (ps.map (·.2)) (bkI (ps.map (·.1)) s j)=0:=by
 intro j Y;apply eq_of_testBit_eq;intro w;rw[zero_testBit];by_cases hw:w < m
 ·have:=h _ (FP ps m (E8 ps m w hw j) Y);rw[OK ps hl,OM ps hl _ w (by omega)] at this;exact this
 ·have G:=Lz (ws:=ps.map (·.2)) (t:=m) (bkI (ps.map (·.1)) s j) λx L=>by obtain⟨q,O,rfl⟩:=mem_map.mp L;exact Z q O
  exact testBit_lt_two_pow (lt_of_lt_of_le G (pow_le_pow_right (by decide) (by omega)))
structure Kern (R ms:List Nat):Prop where
 inj:Inj ms
 lt:∀m∈ms,m < 2 ^ R.length
 ev:∀m∈ms,sm R m=0
 all:∀z,z < 2 ^ R.length->sm R z=0->Span ms z
structure Lft (left rows:List Nat):Prop where
 nz:∀x∈left,x≠0
 pw:left.Pairwise λa b=>b.testBit a.log2=false
 sp:∀x,Span left x↔Span rows x
 len:left.length=(fr rows).length
noncomputable def bm (rows:List Nat) (b:Nat):Nat:=Classical.epsilon (Bar rows b)
structure Fst (ms:List Nat) (p:Nat):Prop where
 lt:p < ms.length
 out:∀k,k < p->¬Span (ms.take k) (ms.getD k 0)
 in_:Span (ms.take p) (ms.getD p 0)
theorem KF {ms:List Nat}:∀j,j<=ms.length->(∀k,k < j->¬Span (ms.take k) (ms.getD k 0))->(fr (ms.take j)).length=j
 | 0,_,_=>by have:=fr_len (ms.take 0);simpa using this
 | j + 1,G,h=>by
   have e:ms.take (j + 1)=ms.take j++[ms.getD j 0]:=by
    rw[List.take_succ,getElem?_eq_getElem (by omega),getD_eq_getElem?_getD,getElem?_eq_getElem (by omega)];rfl
   rw[e,fr_out (h j (lt_succ_self j)),length_append,KF j (by omega) (λk hk=>h k (by omega))];rfl
theorem chain_short {ms:List Nat} {n j:Nat} (hb:∀x∈ms,x < 2 ^ n) (L:j<=ms.length) (h:∀k,k < j->¬Span (ms.take k) (ms.getD k 0)):j<=n:=by
 rw[<-KF j L h];exact rank_le λr G=>hb r (mem_of_mem_take G)
noncomputable def zl (ps:List (Nat×Nat)) (d n:Nat):List Nat:=(List.range (n + 1)).map (zs ps d)
theorem zs_lt {ps:List (Nat×Nat)} {d:Nat} (h:d < 2 ^ ps.length):∀k,zs ps d k < 2 ^ ps.length
 | 0=>h
 | k + 1=>Bu _ _ _
theorem NB {rows:List Nat}:∀(rs:List Nat),(∀x∈rs,Span rows x)->∀F,Span rows (sm rs F)
 | [],_,_=>span_zero rows
 | r::rs,h,F=>by
   show Span rows ((if F.testBit 0 then r else 0)^^^sm rs (F / 2));refine span_xor ?_ (NB rs (λx G=>h x (mem_cons_of_mem _ G)) (F / 2));split
   ·exact h r mem_cons_self
   ·exact span_zero rows
theorem BA:∀(rs:List Nat) (F:Nat),(∀x∈rs,x=0)->sm rs F=0
 | [],_,_=>rfl
 | r::rs,F,h=>by
   show(if F.testBit 0 then r else 0)^^^sm rs (F / 2)=0;rw[BA rs (F / 2) λx G=>h x (mem_cons_of_mem _ G),h r mem_cons_self];simp
theorem zs_zero (ps:List (Nat×Nat)):∀k,zs ps 0 k=0
 | 0=>rfl
 | k + 1=>by show tr2 ps (zs ps 0 k) 0=0;rw[zs_zero ps k,tr2_zero]
noncomputable def act (ps:List (Nat×Nat)) (x Q:Nat):Nat:=if Q=0 then 0 else (if Q % 2=1 then x else 0)^^^act ps (tr2 ps x 0) (Q / 2)
termination_by Q
decreasing_by omega
structure Lst (ps:List (Nat×Nat)) (x P:Nat):Prop where
 nz:P≠0
 dv:∀Q,act ps x Q=0↔Dv P Q
structure Rng (ps:List (Nat×Nat)) (x l n:Nat):Prop where
 pos:1<=n
 back:zs ps x (l + n)=zs ps x l
 least:∀e,1<=e->e < n->zs ps x (l + e)≠zs ps x l
 early:1<=l->zs ps x (l - 1 + n)≠zs ps x (l - 1)
noncomputable def bl (A:List Nat) (s n:Nat):List Nat:=(List.range (n + 1)).map (bkI A s)
theorem bl_len (A:List Nat) (s n:Nat):(bl A s n).length=n + 1:=by unfold bl;rw[length_map,length_range]
theorem Cc {A:List Nat} {s n k:Nat} (h:k<=n):(bl A s n)[k]? =some (bkI A s k):=by
 unfold bl;rw[getElem?_map,getElem?_range (by omega)];rfl
theorem Hw {A:List Nat} {s n k:Nat} (h:k<=n):(bl A s n).getD k 0=bkI A s k:=by rw[getD_eq_getElem?_getD,Cc h];rfl
theorem bkI_lt {A:List Nat} {s w:Nat} (G:∀x∈A,x < 2 ^ w) (h:s < 2 ^ w):∀k,bkI A s k < 2 ^ w
 | 0=>h
 | k + 1=>Lz _ G
theorem bl_lt {A:List Nat} {s n w:Nat} (L:∀x∈A,x < 2 ^ w) (h:s < 2 ^ w):∀x∈bl A s n,x < 2 ^ w:=λx G=>by
 obtain⟨k,_,rfl⟩:=mem_map.mp G;exact bkI_lt L h k
theorem Ly (A:List Nat):∀(rows:List Nat) (F:Nat),sm A (sm rows F)=sm (rows.map (sm A)) F
 | [],_=>sm_zero A
 | r::rows,F=>by
   show sm A ((if F.testBit 0 then r else 0)^^^sm rows (F / 2))=(if F.testBit 0 then sm A r else 0)^^^sm (rows.map (sm A)) (F / 2);rw[sm_xor,Ly A rows];cases F.testBit 0<;>simp[sm_zero]
theorem MK {A:List Nat} {s n p:Nat} (F:Fst (bl A s n) p):∀t,Span ((bl A s n).take p) (bkI A s t):=by
 have β:p<=n:=by have:=F.lt;rw[bl_len] at this;omega
 have O:=F.in_;rw[Hw β] at O;have L:∀k,k < p->Span ((bl A s n).take p) (bkI A s k):=λk hk=>IC (mem_of_getElem? (i:=k) (by rw[getElem?_take_of_lt hk];exact Cc (by omega)));intro t
 induction t with
 | zero=>
   by_cases δ:p=0
   ·subst δ;exact O
   ·exact L 0 (by omega)
 | succ t ih=>
   obtain⟨G,_,γ⟩:=xh ih;show Span _ (sm A (bkI A s t));rw[<-γ,Ly];refine NB _ (λx α=>?_) G;obtain⟨y,Z,rfl⟩:=mem_map.mp α;obtain⟨k,hk⟩:=List.getElem?_of_mem Z
   have Y:k < p:=by
    have:=(List.getElem?_eq_some_iff.mp hk).1;rw[length_take] at this;omega
   rw[getElem?_take_of_lt Y,Cc (by omega)] at hk;cases hk;show Span _ (bkI A s (k + 1));by_cases h1:k + 1 < p
   ·exact L _ h1
   ·have:k + 1=p:=by omega
    rw[this];exact O
theorem bk_quiet {A B:List Nat} {s n p:Nat} (F:Fst (bl A s n) p) (h:∀k,k < p->sm B (bkI A s k)=0) (t:Nat):sm B (bkI A s t)=0:=by
 obtain⟨G,_,Z⟩:=xh (MK F t);rw[<-Z,Ly];refine BA _ _ λx Y=>?_;obtain⟨y,O,rfl⟩:=mem_map.mp Y;obtain⟨k,hk⟩:=List.getElem?_of_mem O;have α:p<=n:=by have:=F.lt;rw[bl_len] at this;omega
 have L:k < p:=by
  have:=(List.getElem?_eq_some_iff.mp hk).1;rw[length_take] at this;omega
 rw[getElem?_take_of_lt L,Cc (by omega)] at hk;cases hk;exact h k L
theorem quiet_walk {ps:List (Nat×Nat)} (hl:ps.length<=1000):∀(rs:List Nat) (s:Nat),(∀t,sm (ps.map (·.2)) (bkI (ps.map (·.1)) s t)=0)->od (s&&&wst ps 0 rs)=false:=by
 intro rs
 induction rs using rev_ind with
 | h0=>intro s _;show od (s&&&0)=false;rw[and_zero,od_zero]
 | h1 rs r ih=>
   intro s h;rw[wst_snoc,AG s _ r ps hl];have h0:sm (ps.map (·.2)) s=0:=h 0;rw[h0,zero_and,od_zero,Bool.xor_false];exact ih _ λt=>by rw[Hy];exact h (t + 1)
theorem fst_pos {A:List Nat} {s n p:Nat} (F:Fst (bl A s n) p) (h:s≠0):0 < p:=by
 cases p with
 | zero=>
   have:=F.in_;rw[Hw (zero_le n)] at this;exact absurd this h
 | succ p=>exact Nat.succ_pos p
end M
namespace Sx
open PySem L2
structure Sgl (H:Hp) (D:Addr) (ds:List Addr) (ps os:List (Nat×Nat)) (n m:Nat):Prop where
 d:H D=some (.lst (ds.map V.ref))
 len:ds.length=m
 at':∀(w:Nat) (d:Addr),ds[w]? =some d->H d=some (.lst ((M.wan ps os 0 (M.pulse w n)).map nat))
noncomputable def strD (z:Str):Dt:= .str z
noncomputable def rowD (r:Str×List Str):Dt:= .tup [.str r.1,.tup (r.2.map strD)]
noncomputable def stoD (r:Str×Str):Dt:= .tup [.str r.1,.str r.2]
noncomputable def netD (N:Nt):Dt:= .tup [.lst (N.ins.map strD),.lst (N.sums.map rowD),.lst (N.sts.map stoD),.lst (N.outs.map strD)]
theorem xw {K:PySem.W.Frag} {H:Hp} {D:Addr} {zs:List Str} (e:H D=some (.lst (zs.map V.str))):Rep K H (.ref D) (.lst (zs.map strD)):= .lst (SqL.of e) (by rw[length_map,length_map]) (um V.str strD (λz=> .str z) zs)
theorem Jk {K:PySem.W.Frag} {H:Hp} {D:Addr} {zs:List Str} (e:H D=some (.tup (zs.map V.str))):Rep K H (.ref D) (.tup (zs.map strD)):= .tup (SqT.of e) (by rw[length_map,length_map]) (um V.str strD (λz=> .str z) zs)
theorem Kp {K:PySem.W.Frag} {H:Hp} {t:Addr} {v w:V} {d e:Dt} (h:H t=some (.tup [v,w])) (L:Rep K H v d) (G:Rep K H w e):Rep K H (.ref t) (.tup [d,e]):= .tup (SqT.of h) rfl λi x y h1 h2=>by
 match i,h1,h2 with
 | 0,h1,h2=>cases h1;cases h2;exact L
 | 1,h1,h2=>cases h1;cases h2;exact G
 | i + 2,h1,_=>simp at h1
theorem Og {K:PySem.W.Frag} {H:Hp} {t:Addr} {v w L G:V} {d e d' O:Dt} (h:H t=some (.tup [v,w,L,G])) (β:Rep K H v d) (α:Rep K H w e) (Z:Rep K H L d') (Y:Rep K H G O):Rep K H (.ref t) (.tup [d,e,d',O]):= .tup (SqT.of h) rfl λi x y h1 h2=>by
 match i,h1,h2 with
 | 0,h1,h2=>cases h1;cases h2;exact β
 | 1,h1,h2=>cases h1;cases h2;exact α
 | 2,h1,h2=>cases h1;cases h2;exact Z
 | 3,h1,h2=>cases h1;cases h2;exact Y
 | i + 4,h1,_=>simp at h1
theorem Jm {K:PySem.W.Frag} {H:Hp} {D:Addr} {rs:List Rw} (e:H D=some (.lst (rs.map λr=>V.ref r.1))) (k:RwK H rs):Rep K H (.ref D) (.lst ((rs.map (·.2.2)).map rowD)):= .lst (SqL.of e) (by rw[length_map,length_map,length_map]) λi x y h1 h2=>by
 rw[getElem?_map] at h1;rw[map_map,getElem?_map] at h2;obtain⟨r,G,rfl⟩:=map_eq_some_iff.mp h1;rw[G] at h2;cases h2;have:=k r (mem_of_getElem? G);exact Kp this.1 (.str _) (Jk this.2)
theorem Jl {K:PySem.W.Frag} {H:Hp} {D:Addr} {qs:List Qs} (e:H D=some (.lst (qs.map λr=>V.ref r.1))) (k:QsK H qs):Rep K H (.ref D) (.lst ((qs.map (·.2)).map stoD)):= .lst (SqL.of e) (by rw[length_map,length_map,length_map]) λi x y h1 h2=>by
 rw[getElem?_map] at h1;rw[map_map,getElem?_map] at h2;obtain⟨r,G,rfl⟩:=map_eq_some_iff.mp h1;rw[G] at h2;cases h2;exact Kp (k r (mem_of_getElem? G)) (.str _) (.str _)
structure TldA (H:Hp) (t D1 D2 D3 D4:Addr) (rs:List Rw) (qs:List Qs) (N:Nt):Prop where
 t:H t=some (.tup [.ref D1,.ref D2,.ref D3,.ref D4])
 i:H D1=some (.lst (N.ins.map V.str))
 s:H D2=some (.lst (rs.map λr=>V.ref r.1))
 sr:RwK H rs
 es:rs.map (·.2.2)=N.sums
 st:H D3=some (.lst (qs.map λr=>V.ref r.1))
 tr:QsK H qs
 et:qs.map (·.2)=N.sts
 o:H D4=some (.lst (N.outs.map V.str))
theorem TldA.same {H H2:Hp} {t Y O L G:Addr} {rs:List Rw} {qs:List Qs} {N:Nt} (x:TldA H t Y O L G rs qs N) (s:Same H H2):TldA H2 t Y O L G rs qs N:=⟨s.get x.t,s.get x.i,s.get x.s,x.sr.same s,x.es,s.get x.st,λq m=>s.get (x.tr q m),x.et,s.get x.o⟩
theorem TldA.rep {K:PySem.W.Frag} {H:Hp} {t α L G Z:Addr} {rs:List Rw} {qs:List Qs} {N:Nt} (x:TldA H t α L G Z rs qs N):Rep K H (.ref t) (netD N):=by
 have Y:Rep K H (.ref L) (.lst (N.sums.map rowD)):=by rw[<-x.es];exact Jm x.s x.sr
 have O:Rep K H (.ref G) (.lst (N.sts.map stoD)):=by rw[<-x.et];exact Jl x.st x.tr
 exact Og x.t (xw x.i) Y O (xw x.o)
theorem pQ:∀l:List Str,iG (l.map strD)=0
 | []=>rfl
 | z::l=>by rw[map_cons,iG,pQ l];rfl
theorem B5:∀l:List (Str×List Str),iG (l.map rowD)<=2
 | []=>zero_le _
 | r::l=>by
   rw[map_cons,iG,rowD,depD,iG,iG,depD,pQ];have:=B5 l;simp[depD,iG];omega
theorem B4:∀l:List (Str×Str),iG (l.map stoD)<=1
 | []=>zero_le _
 | r::l=>by
   rw[map_cons,iG,stoD,depD,iG,iG];have:=B4 l;simp[depD,iG];omega
theorem MH (N:Nt):depD (netD N)<=100:=by
 unfold netD;rw[depD,iG,iG,iG,iG,depD,depD,depD,depD,pQ,pQ];have:=B5 N.sums;have:=B4 N.sts;simp[iG];omega
def IK (Z:NP):Sp:=λvs H Q _=>∃(p:Addr) (N:Nt) (od:List Str),vs=[.ref p]/\Z H p N od/\∀(t Y O L G:Addr) (H2:Hp) (rs:List Rw) (qs:List Qs),H Y=none->H O=none->H L=none->H G=none->H t=none->Same H H2->TldA H2 t Y O L G rs qs N->Q (.ref t) H2
def Lg (G:NP):Sp:=λvs H Q _=>∃(p:Addr) (N:Nt) (od:List Str),vs=[.ref p]/\G H p N od/\∀(D:Addr) (H2:Hp) (rs:List Rw),H D=none->Same H H2->H2 D=some (.lst (rs.map λr=>V.ref r.1))->RwK H2 rs->rs.map (·.2.2)=N.sums->Q (.ref D) H2
structure Sumd (rows:List Nat) (x q:Nat):Prop where
 lt:q < 2 ^ rows.length
 sm:M.sm rows q=x
 fr:M.Frs rows q
structure Bard (rows:List Nat) (x m:Nat):Prop where
 ns:¬M.Span rows x
 bar:∃y,M.Span rows y/\x^^^y≠0/\PM rows (x^^^y).log2/\M.Bar rows (x^^^y).log2 m
 ev:∀y,M.Span rows y->M.od (m&&&y)=false
 odd:M.od (m&&&x)=true
 lt:∀W,(∀r∈rows,r < 2 ^ W)->x < 2 ^ W->m < 2 ^ W
def wB:Sp:=λvs H Q _=>∃(r:Addr) (rows:List Nat) (x:Nat),vs=[.ref r,nat x]/\H r=some (.lst (rows.map nat))/\rows.length<=1000/\(∀r∈rows,r < 2 ^ 1000)/\x < 2 ^ 1000/\(M.Span rows x∨(M.fr rows).length < 64)/\
 (∀(t D:Addr) (H2:Hp) (q:Nat),H D=none->Same H H2->H2 t=some (.tup [.str "sum",.ref D])->H2 D=some (.lst ((M.pl 1000 q).map nat))->Sumd rows x q->Q (.ref t) H2)/\
 (∀(t:Addr) (H2:Hp) (m:Nat),Same H H2->H2 t=some (.tup [.str "no",nat m])->Bard rows x m->Q (.ref t) H2)
def Fd:Sp:=λvs H Q _=>∃(q wd T:Nat),vs=[nat q,nat wd,nat T]/\wd<=1000/\T<=1000/\∀(D:Addr) (H2:Hp),H D=none->Same H H2->H2 D=some (.lst ((M.upk wd q T).map nat))->Q (.ref D) H2
def II (C:Addr):Sp:=λvs H Q _=>∃(p:Addr) (m:Nat) (nx os:List Pr3) (T:Nat),vs=[.ref p,nat T]/\MaA H C p m nx os/\MaG m nx os/\T<=100/\∀(D:Addr) (H2:Hp),H D=none->Same H H2->H2 D=some (.lst ((M.rch (prs nx) m T).map nat))->Q (.ref D) H2
def Fi (C:Addr):Sp:=λvs H Q _=>∃(p D:Addr) (m:Nat) (nx os:List Pr3) (q T:Nat),vs=[.ref p,.ref D,nat T]/\MaA H C p m nx os/\MaG m nx os/\H D=some (.lst ((M.pl 1000 q).map nat))/\q < 2 ^ 1000/\T<=1000/\∀(G:Addr) (H2:Hp),H G=none->Same H H2->H2 G=some (.lst ((M.upk m q T).map nat))->Q (.ref G) H2
def Brt (H:Hp) (t:Addr) (m:Nat) (nx:List Pr3) (a b T:Nat):Prop:=
 (∃(D:Addr) (q:Nat),H t=some (.tup [.str "rows",.ref D])/\H D=some (.lst ((M.upk m q T).map nat))/\Sumd (M.rch (prs nx) m T) (b^^^M.zs (prs nx) a T) q)∨
 ∃mk:Nat,H t=some (.tup [.str "no",nat mk])/\Bard (M.rch (prs nx) m T) (b^^^M.zs (prs nx) a T) mk
def CH (K:PySem.W.Frag) (C L G:Addr):Sp:=λvs H Q E=>∃(p:Addr) (m:Nat) (nx os:List Pr3) (x y z:V),vs=[.ref p,x,y,z]/\MaA H C p m nx os/\MaG m nx os/\nx.length<=60/\(∃k,jE K H x k)/\(∃k,jE K H y k)/\(∃k,jE K H z k)/\
 (∀a b T:Nat,x=nat a->y=nat b->z=nat T->a < 2 ^ nx.length->b < 2 ^ nx.length->T<=40->∀(t:Addr) (H2:Hp),Same H H2->(∀D,H2 t=some (.tup [.str "rows",.ref D])->H D=none)->Brt H2 t m nx a b T->Q (.ref t) H2)/\
 (jc x nx.length=false∨jc y nx.length=false->E (.ref L) none H)/\
 (jc x nx.length=true->jc y nx.length=true->idxB z 41=false->E (.ref G) none H)
end Sx
namespace L2
open PySem
theorem yQ {X:Cx} {K:PySem.W.Frag} (h:X.K=K):OpR X (compareOp .NotIn) (rIn K true):=by subst h;exact yP
end L2
namespace Sx
open PySem L2
theorem E9:∀{rows:List Nat} {x:Nat},x∈rows->M.Span rows x:=by
 intro rows
 induction rows using M.rev_ind with
 | h0=>intro x h;exact absurd h (by simp)
 | h1 l r ih=>
   intro x h;rw[M.span_snoc];rcases mem_append.mp h with h | h
   ·exact .inl (ih h)
   ·rw[mem_singleton.mp h,xor_self];exact .inr (M.span_zero l)
noncomputable def J (c:Nat):List (List Nat)->List Nat
 | []=>[]
 | [x]=>x
 | x::y::r=>x++c::J c (y::r)
theorem KN {c:Nat}:∀{x y a b:List Nat},c∉x->c∉y->x++c::a=y++c::b->x=y/\a=b
 | [],[],a,b,_,_,h=>⟨rfl,(List.cons.inj h).2⟩
 | [],d::y,a,b,_,hy,h=>absurd (by rw[(List.cons.inj h).1];exact mem_cons_self) hy
 | d::x,[],a,b,hx,_,h=>absurd (by rw[<-(List.cons.inj h).1];exact mem_cons_self) hx
 | d::x,e::y,a,b,hx,hy,h=>by
   obtain⟨h1,h2⟩:=List.cons.inj h;obtain⟨L,G⟩:=KN (λz=>hx (mem_cons_of_mem _ z)) (λz=>hy (mem_cons_of_mem _ z)) h2;exact⟨by rw[h1,L],G⟩
theorem PP {c:Nat}:∀(ws vs:List (List Nat)),ws≠[]->vs≠[]->(∀w∈ws,c∉w)->(∀w∈vs,c∉w)->J c ws=J c vs->ws=vs
 | [],_,h,_,_,_,_=>absurd rfl h
 | _,[],_,h,_,_,_=>absurd rfl h
 | [x],[y],_,_,_,_,h=>by rw[show x=y from h]
 | [x],y::z::r,_,_,hx,_,h=>absurd (by rw[show x=y++c::J c (z::r) from h];simp) (hx x mem_cons_self)
 | x::y::r,[z],_,_,_,hz,h=>absurd (by rw[show z=x++c::J c (y::r) from h.symm];simp) (hz z mem_cons_self)
 | x::y::r,x'::G::r',_,_,hx,hz,h=>by
   obtain⟨h1,h2⟩:=KN (hx x mem_cons_self) (hz x' mem_cons_self) (show x++c::J c (y::r)=x'++c::J c (G::r') from h);rw[h1,PP (y::r) (G::r') (by simp) (by simp) (λw hw=>hx w (mem_cons_of_mem _ hw)) (λw hw=>hz w (mem_cons_of_mem _ hw)) h2]
theorem rH (c:Nat):∀ws:List Str,(Str.join ⟨#[c]⟩ ws).cps.toList=J c (ws.map (·.cps.toList))
 | []=>rfl
 | [x]=>rfl
 | x::y::r=>by
   have ih:=rH c (y::r);show(x.cps++#[c]++(Str.join ⟨#[c]⟩ (y::r)).cps).toList=x.cps.toList++c::J c ((y::r).map (·.cps.toList));rw[<-ih];simp
theorem wA {c:Nat} {ws:List Str} (h:ws≠[]) (hf:∀w∈ws,c∉w.cps.toList):Txt.split (Str.join ⟨#[c]⟩ ws) ⟨#[c]⟩=ws:=by
 have Z:=StrLaws.join_split (Str.join ⟨#[c]⟩ ws) ⟨#[c]⟩;have Y:=StrLaws.split_free (Str.join ⟨#[c]⟩ ws) c;have L:=PyProof.Rows.split_pos (Str.join ⟨#[c]⟩ ws) ⟨#[c]⟩;generalize Txt.split (Str.join ⟨#[c]⟩ ws) ⟨#[c]⟩=vs at Z Y L ⊢;have O:=rH c vs;rw[Z,rH c ws] at O;have α:=PP (c:=c) _ _ (by simpa using h) (by intro z;rw[List.map_eq_nil_iff] at z;subst z;simp at L) (λw hw=>by obtain⟨v,G,rfl⟩:=mem_map.mp hw;exact hf v G) (λw hw=>by obtain⟨v,G,rfl⟩:=mem_map.mp hw;exact Y v G) O;have inj:∀x y:Str,x.cps.toList=y.cps.toList->x=y:=λ⟨⟨a⟩⟩ ⟨⟨b⟩⟩ h=>by cases(show a=b from h);rfl
 exact(List.map_inj_right inj).mp α.symm
theorem Bq (y:Str) (l:List Str):Txt.join y l=Str.join y l:=StrLaws.glued_eq_join _ _
theorem xi:(Str.ofString " ")=⟨#[32]⟩:=by decide +kernel
theorem Aj:(Str.ofString "\n")=⟨#[10]⟩:=by decide +kernel
theorem Ga {X:Cx} {K:PySem.W.Frag} (h:X.K=K):OpR X (compareOp .In) (rIn K false):=by subst h;exact F9
def Wd (z:Str):Prop:=(32:Nat)∉z.cps.toList/\(10:Nat)∉z.cps.toList
theorem Nm.wd {z:Str} (h:Nm z):Wd z:=by
 have h:nm z.cps.toList=true:=h
 have G:∀c:Nat,(low c||fig c)=false->c∉z.cps.toList:=λc L m=>by
  cases e:z.cps.toList with
  | nil=>rw[e] at m;cases m
  | cons d r=>
    rw[e] at h m;unfold nm at h;rw[Bool.and_eq_true,all_eq_true] at h;have:=h.2 c m;rw[L] at this;cases this
 exact⟨G 32 (by decide),G 10 (by decide)⟩
theorem PZ:Wd "in":=by unfold Wd;decide +kernel
theorem Nc:Wd "out":=by unfold Wd;decide +kernel
theorem Nb:Wd "sum":=by unfold Wd;decide +kernel
theorem Ir:Wd "store":=by unfold Wd;decide +kernel
theorem Nd:Wd "=":=by unfold Wd;decide +kernel
inductive Fm:List Str->Prop where
 | i (z:Str) (h:Nm z):Fm ["in",z]
 | o (z:Str) (h:Nm z):Fm ["out",z]
 | s (z:Str) (ws:List Str) (h:Nm z) (hw:∀w∈ws,Nm w) (l:ws.length<=24):Fm ("sum"::z::"="::ws)
 | t (z y:Str) (h:Nm z) (hy:Nm y):Fm ["store",z,"=",y]
theorem Fm.wd {r:List Str} (f:Fm r):∀w∈r,Wd w:=by
 cases f with
 | i z h=>intro w hw;simp at hw;rcases hw with rfl | rfl<;>first | exact PZ | exact h.wd
 | o z h=>intro w hw;simp at hw;rcases hw with rfl | rfl<;>first | exact Nc | exact h.wd
 | s z ws h G l=>
   intro w hw;simp at hw;rcases hw with rfl | rfl | rfl | hw<;>first | exact Nb | exact h.wd | exact Nd | exact(G w hw).wd
 | t z y h L=>intro w hw;simp at hw;rcases hw with rfl | rfl | rfl | rfl<;>first | exact Ir | exact h.wd | exact Nd | exact L.wd
theorem Fm.ne {r:List Str} (f:Fm r):r≠[]:=by cases f<;>simp
theorem lenS:("in":Str).length=2/\("out":Str).length=3/\("sum":Str).length=3/\("store":Str).length=5/\("=":Str).length=1/\("":Str).length=0:=by decide +kernel
theorem Fm.len {r:List Str} (f:Fm r):r.length<=27/\∀w∈r,w.length<=6:=by
 obtain⟨β,α,Z,Y,O,_⟩:=lenS;cases f with
 | i z h=>exact⟨by simp,λw hw=>by simp at hw;rcases hw with rfl | rfl<;>first | exact h.len | omega⟩
 | o z h=>exact⟨by simp,λw hw=>by simp at hw;rcases hw with rfl | rfl<;>first | exact h.len | omega⟩
 | s z ws h G l=>
   refine⟨by simp only[length_cons];omega,λw hw=>?_⟩;simp at hw;rcases hw with rfl | rfl | rfl | hw<;>first | exact h.len | exact(G w hw).len | omega
 | t z y h L=>exact⟨by simp,λw hw=>by simp at hw;rcases hw with rfl | rfl | rfl | rfl<;>first | exact h.len | exact L.len | omega⟩
noncomputable def rowT (r:List Str):Str:=Str.join ⟨#[32]⟩ r
noncomputable def txtR (rows:List (List Str)):Str:=Str.join ⟨#[10]⟩ (rows.map rowT)
theorem PN {c d:Nat} (G:c≠d):∀{ws:List (List Nat)},(∀w∈ws,d∉w)->d∉J c ws
 | [],_=>by simp[J]
 | [x],h=>h x mem_cons_self
 | x::y::r,h=>by
   show d∉x++c::J c (y::r);intro m;rcases mem_append.mp m with m | m
   ·exact h x mem_cons_self m
   ·rcases mem_cons.mp m with m | m
    ·exact G m.symm
    ·exact PN G (ws:=y::r) (λw hw=>h w (mem_cons_of_mem _ hw)) m
theorem FM {r:List Str} (h:∀w∈r,Wd w):(10:Nat)∉(rowT r).cps.toList:=by
 unfold rowT;rw[rH];exact PN (by decide) λw hw=>by obtain⟨v,G,rfl⟩:=mem_map.mp hw;exact(h v G).2
theorem CW {r:List Str} (h:∀w∈r,Wd w) (ne:r≠[]):Txt.split (rowT r) ⟨#[32]⟩=r:=wA ne λw hw=>(h w hw).1
theorem Cj {rows:List (List Str)} (h:∀r∈rows,∀w∈r,Wd w) (ne:rows≠[]):Txt.split (txtR rows) ⟨#[10]⟩=rows.map rowT:=wA (by simpa using ne) λw hw=>by obtain⟨r,G,rfl⟩:=mem_map.mp hw;exact FM (h r G)
theorem MV (c:Nat) {n:Nat}:∀{ws:List (List Nat)},(∀w∈ws,w.length<=n)->(J c ws).length<=ws.length * (n + 1)
 | [],_=>zero_le _
 | [x],h=>by have:=h x mem_cons_self;show x.length<=1 * (n + 1);omega
 | x::y::r,h=>by
   have h1:=h x mem_cons_self;have h2:=MV c (n:=n) (ws:=y::r) λw hw=>h w (mem_cons_of_mem _ hw);show(x++c::J c (y::r)).length<=_;rw[length_append,length_cons,length_cons,Nat.succ_mul];omega
theorem xu {r:List Str} (h:∀w∈r,w.length<=6):(rowT r).length<=r.length * 7:=by
 rw[<-m8];unfold rowT;rw[rH];have:=MV 32 (n:=6) (ws:=r.map (·.cps.toList)) λw hw=>by obtain⟨v,G,rfl⟩:=mem_map.mp hw;rw[m8];exact h v G
 rw[length_map] at this;exact this
theorem Iy {rows:List (List Str)} (h:∀r∈rows,Fm r):(txtR rows).length<=rows.length * 190:=by
 rw[<-m8];unfold txtR;rw[rH]
 have:=MV 10 (n:=189) (ws:=(rows.map rowT).map (·.cps.toList)) λw hw=>by
  obtain⟨v,G,rfl⟩:=mem_map.mp hw;obtain⟨r,L,rfl⟩:=mem_map.mp G;rw[m8];have a:=(h r L).len;have b:=xu a.2;have:r.length * 7<=27 * 7:=Nat.mul_le_mul_right 7 a.1;omega
 rw[length_map,length_map] at this;exact this
theorem IB {z:Str} (h:z=""):z.cps.toList=[]:=Ag.mp h
theorem J_ne (c:Nat):∀{ws:List (List Nat)},(∃w∈ws,w≠[])->J c ws≠[]
 | [],⟨w,h,_⟩=>by cases h
 | [x],⟨w,h,n⟩=>by rw[mem_singleton.mp h] at n;exact n
 | x::y::r,_=>by show x++c::J c (y::r)≠[];simp
theorem LW {r:List Str} (f:Fm r):(rowT r).cps.toList≠[]:=by
 unfold rowT;rw[rH];refine J_ne 32 ?_;cases f with
 | i z h=>exact⟨("in":Str).cps.toList,by simp,by decide +kernel⟩
 | o z h=>exact⟨("out":Str).cps.toList,by simp,by decide +kernel⟩
 | s z ws h G l=>exact⟨("sum":Str).cps.toList,by simp,by decide +kernel⟩
 | t z y h L=>exact⟨("store":Str).cps.toList,by simp,by decide +kernel⟩
theorem Ld {rows:List (List Str)} (h:∀r∈rows,Fm r) (ne:rows≠[]):txtR rows≠"":=λe=>by
 have:=IB e;unfold txtR at this;rw[rH] at this;refine J_ne 10 ?_ this;cases rows with
 | nil=>exact absurd rfl ne
 | cons r l=>exact⟨(rowT r).cps.toList,by simp,LW (h r mem_cons_self)⟩
noncomputable def kd (k:Str) (r:List Str):Bool:=decide (r.getD 0 ""=k)
noncomputable def insR (rows:List (List Str)):List Str:=(rows.filter (kd "in")).map λr=>r.getD 1 ""
noncomputable def sumR (rows:List (List Str)):List (Str×List Str):=(rows.filter (kd "sum")).map λr=>(r.getD 1 "",r.drop 3)
noncomputable def stoR (rows:List (List Str)):List (Str×Str):=(rows.filter (kd "store")).map λr=>(r.getD 1 "",r.getD 3 "")
noncomputable def outR (rows:List (List Str)):List Str:=(rows.filter (kd "out")).map λr=>r.getD 1 ""
noncomputable def netR (rows:List (List Str)):Nt:=⟨insR rows,sumR rows,stoR rows,outR rows⟩
noncomputable def qv (N:Nt):List (List Str):=N.ins.map (λz=>[("in":Str),z])++N.sums.map (λr=>("sum":Str)::r.1::("=":Str)::r.2)++N.sts.map (λr=>[("store":Str),r.1,("=":Str),r.2])++N.outs.map (λz=>[("out":Str),z])
noncomputable def txtN (N:Nt):Str:=txtR (qv N)
theorem w_ne:("in":Str)≠"sum"/\("in":Str)≠"store"/\("in":Str)≠"out"/\("sum":Str)≠"in"/\("sum":Str)≠"store"/\("sum":Str)≠"out"/\("store":Str)≠"in"/\("store":Str)≠"sum"/\("store":Str)≠"out"/\("out":Str)≠"in"/\("out":Str)≠"sum"/\("out":Str)≠"store":=by decide +kernel
theorem tL {α:Type} (f:α->List Str) {k:Str} (h:∀x,kd k (f x)=true) (l:List α):(l.map f).filter (kd k)=l.map f:=by
 rw[List.filter_eq_self];intro r G;obtain⟨x,_,rfl⟩:=mem_map.mp G;exact h x
theorem d5 {α:Type} (f:α->List Str) {k:Str} (h:∀x,kd k (f x)=false) (l:List α):(l.map f).filter (kd k)=[]:=by
 rw[List.filter_eq_nil_iff];intro r G;obtain⟨x,_,rfl⟩:=mem_map.mp G;rw[h x];exact Bool.false_ne_true
theorem kd_t {k:Str} {r:List Str}:kd k (k::r)=true:=decide_eq_true rfl
theorem kd_f {k j:Str} {r:List Str} (h:j≠k):kd k (j::r)=false:=decide_eq_false h
theorem Dy (N:Nt):netR (qv N)=N:=by
 obtain⟨n1,ζ,ε,δ,γ,β,α,Z,Y,O,L,G⟩:=w_ne;cases N with
 | mk a b c d=>
 unfold netR insR sumR stoR outR qv;simp only[filter_append];rw[tL _ (λ_=>kd_t),d5 _ (λ_=>kd_f δ),d5 _ (λ_=>kd_f α),d5 _ (λ_=>kd_f O)];rw[d5 (λz=>[("in":Str),z]) (λ_=>kd_f n1),tL _ (λ_=>kd_t),d5 _ (λ_=>kd_f Z),d5 _ (λ_=>kd_f L)];rw[d5 (λz=>[("in":Str),z]) (λ_=>kd_f ζ),d5 _ (λ_=>kd_f γ),tL _ (λ_=>kd_t),d5 _ (λ_=>kd_f G)];rw[d5 (λz=>[("in":Str),z]) (λ_=>kd_f ε),d5 _ (λ_=>kd_f β),d5 _ (λ_=>kd_f Y),tL _ (λ_=>kd_t)];simp;exact⟨map_id a,map_id b,map_id c,map_id d⟩
theorem BF {N:Nt} (g:Gn N):∀r∈qv N,Fm r:=by
 intro r Z;have Y:∀z∈N.ins,z∈N.names:=λz h=>by unfold Nt.names;exact mem_append_left _ (mem_append_left _ h)
 have L:∀q∈N.sums,q.1∈N.names:=λq h=>by unfold Nt.names;exact mem_append_left _ (mem_append_right _ (mem_map.mpr ⟨q,h,rfl⟩))
 have O:∀q∈N.sts,q.1∈N.names:=λq h=>by unfold Nt.names;exact mem_append_right _ (mem_map.mpr ⟨q,h,rfl⟩)
 unfold qv at Z;rcases mem_append.mp Z with h | h
 ·rcases mem_append.mp h with h | h
  ·rcases mem_append.mp h with h | h
   ·obtain⟨z,hz,rfl⟩:=mem_map.mp h;exact .i z (g.nm z (Y z hz))
   ·obtain⟨q,G,rfl⟩:=mem_map.mp h;exact .s q.1 q.2 (g.nm _ (L q G)) (λw hw=>g.nm w (g.ws q G w hw)) (g.lw q G)
  ·obtain⟨q,G,rfl⟩:=mem_map.mp h;exact .t q.1 q.2 (g.nm _ (O q G)) (g.nm _ (g.ts q G))
 ·obtain⟨z,hz,rfl⟩:=mem_map.mp h;exact .o z (g.nm z (g.os z hz))
theorem yH {N:Nt} (g:Gn N):(qv N).length<=68:=by
 have:=g.li;have:=g.ls;have:=g.lt;have:=g.lo;unfold qv;simp only[length_append,length_map];omega
def Lrw (G H:Hp) (D:Addr) (ys:List V) (rows:List (List Str)):Prop:=∃ds:List Addr,ys=ds.map V.ref/\ds.length=rows.length/\(∀d∈ds,d≠D)/\(∀d∈ds,G d=none)/\∀(j:Nat) (d:Addr) (r:List Str),ds[j]? =some d->rows[j]? =some r->H d=some (.lst (r.map V.str))
theorem Lrw.nil {G H:Hp} {D:Addr}:Lrw G H D [] []:=⟨[],rfl,rfl,λ_ h=>(by cases h),λ_ h=>(by cases h),λj d r h=>(by simp at h)⟩
theorem Lrw.len {G H:Hp} {D:Addr} {ys:List V} {rows:List (List Str)} (x:Lrw G H D ys rows):ys.length=rows.length:=by obtain⟨ds,rfl,l,_⟩:=x;rw[length_map,l]
theorem Lrw.base {G L H:Hp} {D:Addr} {ys:List V} {rows:List (List Str)} (x:Lrw L H D ys rows) (s:Same G L):Lrw G H D ys rows:=by obtain⟨ds,e,l,n,f,h⟩:=x;exact⟨ds,e,l,n,λd hd=>s.free (f d hd),h⟩
theorem Lrw.put {γ H α:Hp} {D L:Addr} {ys:List V} {rows:List (List Str)} {r:List Str} (x:Lrw γ H D ys rows) (δ:γ L=none) (e:H D=some (.lst ys)) (f:H L=none) (s:Same H α) (ε:α L=some (.lst (r.map V.str))):Lrw γ (upd α D (.lst (ys++[.ref L]))) D (ys++[.ref L]) (rows++[r]):=by
 obtain⟨ds,rfl,ld,nd,fd,hd⟩:=x;have Z:L≠D:=λz=>by rw[z,e] at f;cases f
 have k3:∀b ob,b≠D->α b=some ob->upd α D (.lst (ds.map V.ref++[.ref L])) b=some ob:=λb ob n e=>by rw[aG n];exact e
 refine⟨ds++[L],by rw[map_append];rfl,by rw[length_append,length_append,ld];rfl,λd O=>?_,λd O=>?_,λj d r' Y G=>?_⟩
 ·rcases mem_append.mp O with h | h
  ·exact nd d h
  ·rw[mem_singleton.mp h];exact Z
 ·rcases mem_append.mp O with h | h
  ·exact fd d h
  ·rw[mem_singleton.mp h];exact δ
 ·by_cases β:j < ds.length
  ·rw[getElem?_append_left β] at Y;rw[getElem?_append_left (by omega)] at G;exact k3 _ _ (nd d (mem_of_getElem? Y)) (s.get (hd j d r' Y G))
  ·have hl:=(List.getElem?_eq_some_iff.mp Y).1;rw[length_append,length_singleton] at hl;rw[getElem?_append_right (by omega),show j - ds.length=0 by omega] at Y;rw[getElem?_append_right (by omega),show j - rows.length=0 by omega] at G;cases Y;cases G;exact k3 _ _ Z ε
theorem Lrw.join {ζ H H2 θ:Hp} {D ξ:Addr} {ys Y:List V} {rows G:List (List Str)} (x:Lrw ζ H D ys rows) (e:H D=some (.lst ys)) (ι:Same ζ H) (s:Same H H2) (x2:Lrw H H2 ξ Y G) (u:Upd H2 θ D (.lst (ys++Y))):Lrw ζ θ D (ys++Y) (rows++G):=by
 obtain⟨ds,rfl,ld,nd,fd,hd⟩:=x;obtain⟨β,rfl,γ,ν,α,ε⟩:=x2;have η:∀d∈β,d≠D:=λd L z=>by have:=α d L;rw[z,e] at this;cases this
 refine⟨ds++β,by rw[map_append],by rw[length_append,length_append,ld,γ],λd L=>(mem_append.mp L).elim (nd d) (η d),λd L=>(mem_append.mp L).elim (fd d) (λh=>ι.free (α d h)),λj d r Z O=>?_⟩;by_cases δ:j < ds.length
 ·rw[getElem?_append_left δ] at Z;rw[getElem?_append_left (by omega)] at O;exact u.oth _ _ (nd d (mem_of_getElem? Z)) (s.get (hd j d r Z O))
 ·rw[getElem?_append_right (by omega)] at Z;rw[getElem?_append_right (by omega),<-ld] at O;exact u.oth _ _ (η d (mem_of_getElem? Z)) (ε _ d r Z O)
def Li (G:NP):Sp:=λvs H Q _=>∃(p:Addr) (N:Nt) (od:List Str),vs=[.ref p]/\G H p N od/\∀H2,Same H H2->Q (.str (txtN N)) H2
def Lo:Sp:=λvs H Q _=>∃(l:Addr) (r:List Str),vs=[.ref l]/\H l=some (.lst (r.map V.str))/\Fm r/\∀H2,Same H H2->Q (.bl true) H2
def Cv:Sp:=λvs H Q _=>∃(z:Str),vs=[.str z]/\z.length<=100000/\∀(D:Addr) (H2:Hp),H D=none->Same H H2->H2 D=some (.lst ((Txt.split z ⟨#[32]⟩).map V.str))->Q (.ref D) H2
def Fh:Sp:=λvs H Q _=>∃(z:Str),vs=[.str z]/\z.length<=100000/\∀(D:Addr) (H2:Hp),H D=none->Same H H2->H2 D=some (.lst ((if z="" then [] else Txt.split z ⟨#[10]⟩).map V.str))->Q (.ref D) H2
def Lj (G:NP):Sp:=λvs H Q _=>∃(rows:List (List Str)),vs=[.str (txtR rows)]/\(∀r∈rows,Fm r)/\rows.length<=100/\Gn (netR rows)/\∀(n:Addr) (H2:Hp) (od:List Str),H n=none->Same H H2->G H2 n (netR rows) od->Q (.ref n) H2
noncomputable def TupV (K:PySem.W.Frag) (H:Hp) (y:V):Option (List V)->Prop
 | some xs=>∃r,y= .ref r/\SqT K H r xs/\HY K H xs
 | none=>∃k,jE K H y k/\k≠"tuple"
noncomputable def Qo (n m:Nat):Option (List V)->Bool
 | some [x,y]=>jc x n&&jc y m
 | _=>false
noncomputable abbrev It2:=V×Option (List V)
noncomputable def LstV (K:PySem.W.Frag) (H:Hp) (y:V):Option (List It2)->Prop
 | some zs=>∃r,y= .ref r/\H r=some (.lst (zs.map (·.1)))/\∀z∈zs,TupV K H z.1 z.2
 | none=>∃k,jE K H y k/\k≠"list"
noncomputable def tabB (x:V) (L G:Option (List It2)):Bool:=match x,L,G with
 | .int i,some zs,some ws=>decide (0<=i)&&decide (i<=6)&&decide (zs.length<=120)&&decide (ws.length<=6)&&(zs++ws).all λz=>Qo zs.length i.toNat z.2
 | _,_,_=>false
end Sx
namespace L2
open PySem
end L2
namespace Sx
open PySem L2
structure BadT (K:PySem.W.Frag) (H:Hp) (x y z:V):Prop where
 ex:∃k on oo,jE K H x k/\LstV K H y on/\LstV K H z oo/\tabB x on oo=false
end Sx
namespace L2
open PySem
end L2
namespace Sx
open PySem L2
def FdS (G H:Hp) (t:Addr) (rows:List Nat) (x:Nat):Prop:=
 (∃D q,H t=some (.tup [.str "sum",.ref D])/\H D=some (.lst ((M.pl 1000 q).map nat))/\Sumd rows x q/\G D=none)∨∃m,H t=some (.tup [.str "no",nat m])/\Bard rows x m
theorem FdS.back {G H1 H:Hp} {t:Addr} {rows:List Nat} {x:Nat} (h:FdS H1 H t rows x) (s:Same G H1):FdS G H t rows x:=h.imp (λ⟨D,q,a,b,c,f⟩=>⟨D,q,a,b,c,s.free f⟩) id
theorem vx {H:Hp} {Q:VK} {E:XK} {r:Addr} {rows:List Nat} {x:Nat} (L:H r=some (.lst (rows.map nat))) (hl:rows.length<=1000) (hb:∀r∈rows,r < 2 ^ 1000) (hx:x < 2 ^ 1000) (G:(M.fr rows).length < 64)
  (h:∀t H2,Same H H2->FdS H H2 t rows x->Q (.ref t) H2):wB [.ref r,nat x] H Q E:=
 ⟨r,rows,x,rfl,L,hl,hb,hx,.inr G,λt D H2 q f s e O sd=>h t H2 s (.inl ⟨D,q,e,O,sd,f⟩),λt H2 m s e bd=>h t H2 s (.inr ⟨m,e,bd⟩)⟩
noncomputable def cps (p q k:Nat):List Nat:=if k + 1 < p then [k + 1] else M.pl 1000 q
structure ChS (H:Hp) (S:Addr) (p q:Nat) (rs:List Addr):Prop where
 at_:H S=some (.lst (rs.map V.ref))
 len:rs.length=p
 get:∀(k:Nat) (r:Addr),rs[k]? =some r->H r=some (.lst ((cps p q k).map nat))
theorem ChS.same {H H2:Hp} {S:Addr} {p q:Nat} {rs:List Addr} (c:ChS H S p q rs) (s:Same H H2):ChS H2 S p q rs:=⟨s.get c.at_,c.len,λk r e=>s.get (c.get k r e)⟩
structure ChT (H:Hp) (D S:Addr) (ms:List Nat) (p q:Nat):Prop where
 fs:M.Fst ms p
 sd:Sumd (ms.take p) (ms.getD p 0) q
 d:H D=some (.lst ((ms.take p).map nat))
 s:∃rs,ChS H S p q rs
theorem ChT.same {H H2:Hp} {D S:Addr} {ms:List Nat} {p q:Nat} (c:ChT H D S ms p q) (s:Same H H2):ChT H2 D S ms p q:=⟨c.fs,c.sd,s.get c.d,let ⟨rs,h⟩:=c.s;⟨rs,h.same s⟩⟩
def Ja:Sp:=λvs H Q _=>∃(r:Addr) (ms:List Nat) (n:Nat),vs=[.ref r]/\H r=some (.lst (ms.map nat))/\ms.length=n + 1/\n<=60/\(∀x∈ms,x < 2 ^ n)/\
 ∀(t D S:Addr) (H2:Hp) (p q:Nat),H D=none->H S=none->D≠S->Same H H2->H2 t=some (.tup [.ref D,.ref S])->ChT H2 D S ms p q->Q (.ref t) H2
theorem Gm {n x:Nat} (hn:n<=60) (h:x < 2 ^ n):x < 2 ^ 1000:=lt_of_lt_of_le h (pow_le_pow_right (by decide) (by omega))
structure LA (K:PySem.W.Frag) (H:Hp) (t n o rr:Addr) (m:Nat) (nx os:List Pr3) (rs:List Nat) (a b:Nat):Prop where
 tt:TabT H t n o m nx os
 sq:SqL K H rr (rs.map nat)
 lr:rs.length=20
 br:∀r∈rs,r < 2 ^ m
 ln:nx.length<=16
 ha:a < 2 ^ nx.length
 hb:b < 2 ^ nx.length
structure ApA (H:Hp) (f:Addr) (nx os:List Pr3) (d k ans:Nat):Prop where
 f:H f=some (.tup [.str "apart",nat k,nat ans.log2])
 hk:k < nx.length
 an:ans=M.tr2 (prs os) (M.zs (prs nx) d k) 0
 ne:ans≠0
 qu:∀j,j < k->M.tr2 (prs os) (M.zs (prs nx) d j) 0=0
structure ApL (H:Hp) (f D S:Addr) (nx os:List Pr3) (d p q:Nat):Prop where
 f:H f=some (.tup [.str "alike",.ref D,.ref S])
 ct:ChT H D S (M.zl (prs nx) d nx.length) p q
 qu:∀j,j < p->M.tr2 (prs os) (M.zs (prs nx) d j) 0=0
def CB (C:Addr):Sp:=λvs H Q _=>∃(p:Addr) (m:Nat) (nx os:List Pr3) (s:Nat),vs=[.ref p,nat s]/\MaA H C p m nx os/\MaG m nx os/\s < 2 ^ nx.length/\∀(D:Addr) (H2:Hp),H D=none->Same H H2->H2 D=some (.lst ((M.bl (nA nx) s nx.length).map nat))->Q (.ref D) H2
structure CmA (H:Hp) (t D:Addr) (m:Nat) (nx:List Pr3) (st T q mk:Nat):Prop where
 f:H t=some (.tup [.str "come",.ref D,nat mk])
 d:H D=some (.lst ((M.upk m q T).map nat))
 hT:T<=nx.length
 no:∀j,j < T->¬M.Span (M.rch (prs nx) m j) st
 sd:Sumd (M.rch (prs nx) m T) st q
 br:(T=0/\mk=0)∨∃T',T=T' + 1/\Bard (M.rch (prs nx) m T') st mk
structure CmN (H:Hp) (t D S:Addr) (m:Nat) (nx:List Pr3) (st mk p q:Nat):Prop where
 f:H t=some (.tup [.str "never",.ref D,.ref S])
 no:∀j,j<=nx.length->¬M.Span (M.rch (prs nx) m j) st
 bd:Bard (M.rch (prs nx) m nx.length) st mk
 ct:ChT H D S (M.bl (nA nx) mk nx.length) p q
def Cme (G H:Hp) (t:Addr) (m:Nat) (nx:List Pr3) (st:Nat):Prop:=
 (∃D T q mk,CmA H t D m nx st T q mk/\G D=none)∨∃D S mk p q,CmN H t D S m nx st mk p q/\G D=none/\G S=none/\D≠S
def Fw (K:PySem.W.Frag) (C B:Addr):Sp:=λvs H Q E=>∃(p:Addr) (m:Nat) (nx os:List Pr3) (x:V),vs=[.ref p,x]/\MaA H C p m nx os/\MaG m nx os/\nx.length<=60/\(∃k,jE K H x k)/\
 (∀st:Nat,x=nat st->st < 2 ^ nx.length->∀(t:Addr) (H2:Hp),Same H H2->Cme H H2 t m nx st->Q (.ref t) H2)/\
 (jc x nx.length=false->E (.ref B) none H)
theorem LY {m:Nat} {nx os:List Pr3} (hl:nx.length<=60) (T:Nat):∀r∈M.rch (prs nx) m T,r < 2 ^ nx.length:=λr G=>by have:=M.rch_lt (prs nx) m T r G;rwa [eG] at this
theorem Eo {nx os:List Pr3} {m T x mk:Nat} (g:MaG m nx os) (bd:Bard (M.rch (prs nx) m T) x mk):∀j,j < T->M.sm (nB nx) (M.bkI (nA nx) mk j)=0:=by
 have ln:=g.ln;have m6:=g.m6;have:=M.no_signs (ps:=prs nx) (m:=m) (s:=mk) (T:=T) (by rw[eG];omega) (by omega) (λq Y=>by obtain⟨L,G,rfl⟩:=mem_map.mp Y;exact(g.bn L (mem_append_left _ G)).2) λy O=>bd.ev y (E9 O);rw[L0,LZ] at this;exact this
theorem CmN.signs {H:Hp} {t D S:Addr} {m:Nat} {nx os:List Pr3} {st mk p q:Nat} (g:MaG m nx os) (x:CmN H t D S m nx st mk p q):∀j,j < p->M.sm (nB nx) (M.bkI (nA nx) mk j)=0:=λj G=>by
 have:=x.ct.fs.lt;rw[M.bl_len] at this;exact Eo g x.bd j (by omega)
theorem CmN.walk {H:Hp} {t D S:Addr} {m:Nat} {nx os:List Pr3} {st mk p q:Nat} {rs:List Nat} (g:MaG m nx os) (x:CmN H t D S m nx st mk p q) (h:st=M.wst (prs nx) 0 rs):False:=by
 have ln:=g.ln;have h1:=M.quiet_walk (ps:=prs nx) (by rw[eG];omega) rs mk (by rw[L0,LZ];exact M.bk_quiet x.ct.fs (x.signs g));have h2:=x.bd.odd;rw[h,h1] at h2;cases h2
theorem CmN.mk0 {H:Hp} {t D S:Addr} {m:Nat} {nx:List Pr3} {st mk p q:Nat} (x:CmN H t D S m nx st mk p q):0 < p:=M.fst_pos x.ct.fs λz=>by
 have:=x.bd.odd;rw[z,zero_and,M.od_zero] at this;cases this
theorem OZ {m:Nat} {nx os:List Pr3} (g:MaG m nx os):∀x∈nA nx,x < 2 ^ nx.length:=λx G=>by
 obtain⟨q,L,rfl⟩:=mem_map.mp G;exact(g.bn q (mem_append_left _ L)).1
structure LN (K:PySem.W.Frag) (H:Hp) (n:Addr) (m:Nat) (nx os:List Pr3) (st:Nat):Prop where
 sq:SqL K H n (refs nx)
 pt:Prt H nx
 g:MaG m nx os
 ln:nx.length<=16
 hs:st < 2 ^ nx.length
theorem Gj {c:Int} {L Y:Nat} {rows sums:List (Str×List Str)} {sts:List (Str×Str)} {outs:List Str} (m:Mk c L Y rows) (h1:L<=3) (h2:Y<=12) (ω:rows.length<=12) (θ:sums.Perm rows) (hs:sts.map (·.1)=nms c 6 Y) (ψ:outs.length<=6)
  (ht:∀q∈sts,q.2∈nms c 0 L++nms c 6 Y++nms c 22 rows.length) (ho:∀z∈outs,z∈nms c 0 L++nms c 6 Y++nms c 22 rows.length):Gn ⟨nms c 0 L,sums,sts,outs⟩:=by
 have pn:(sums.map (·.1)).Perm (nms c 22 rows.length):=by rw[<-m.nm];exact θ.map _
 have β:∀z,z∈nms c 0 L++nms c 6 Y++nms c 22 rows.length->z∈Nt.names ⟨nms c 0 L,sums,sts,outs⟩:=λz hz=>by
  unfold Nt.names;show z∈nms c 0 L++sums.map (·.1)++sts.map (·.1);rw[hs];rcases mem_append.mp hz with h | h
  ·rcases mem_append.mp h with h | h
   ·exact mem_append_left _ (mem_append_left _ h)
   ·exact mem_append_right _ h
  ·exact mem_append_left _ (mem_append_right _ (pn.mem_iff.mpr h))
 have τ:sts.length=Y:=by have:=congrArg List.length hs;rw[length_map,eJ] at this;exact this
 have G:∀r∈sums,∃k,rows[k]? =some r:=λr α=>mem_iff_getElem?.mp (θ.mem_iff.mp α)
 have η:∀z∈Nt.names ⟨nms c 0 L,sums,sts,outs⟩,∃k:Nat,k < 40/\z=nmf c (k:Int):=λz hz=>by
  unfold Nt.names at hz;have hz:z∈nms c 0 L++sums.map (·.1)++sts.map (·.1):=hz;rw[hs] at hz;rcases mem_append.mp hz with h | h
  ·rcases mem_append.mp h with h | h
   ·obtain⟨k,hk,e⟩:=i8 h;exact⟨_,by omega,e⟩
   ·obtain⟨k,hk,e⟩:=i8 (pn.mem_iff.mp h);exact⟨_,by omega,e⟩
  ·obtain⟨k,hk,e⟩:=i8 h;exact⟨_,by omega,e⟩
 have Z:∀(a n:Nat),a + n<=40->(nms c a n).Nodup:=λa n h=>by
  unfold nms;refine List.pairwise_map.mpr (List.Pairwise.imp_of_mem (λ{i j} hi δ χ=>?_) List.pairwise_lt_range);intro e;have:=xN c (show a + i < 40 by have:=mem_range.mp hi;omega) (show a + j < 40 by have:=mem_range.mp δ;omega) e;omega
 have O:∀{a n b k:Nat},a + n<=40->b + k<=40->a + n<=b->∀x∈nms c a n,∀y∈nms c b k,x≠y:=λh1 h2 ω x ζ y ε e=>by
  obtain⟨i,hi,rfl⟩:=i8 ζ;obtain⟨j,δ,rfl⟩:=i8 ε;have:=xN c (by omega) (by omega) e;omega
 refine⟨by show(nms c 0 L).length<=6;rw[eJ];omega,by show sums.length<=40;rw[θ.length_eq];omega,by show sts.length<=16;omega,ψ,λr α=>?_,λz hz=>?_,?_,λr α z hz=>?_,λr α=>β _ (ht r α),λz hz=>β _ (ho z hz),?_⟩
 ·obtain⟨k,hk⟩:=G r α;have:=(m.ws k r hk).1;omega
 ·obtain⟨k,hk,rfl⟩:=η z hz;exact OT c (by omega) (by omega)
 ·unfold Nt.names;show(nms c 0 L++sums.map (·.1)++sts.map (·.1)).Nodup;rw[hs,nodup_append,nodup_append];refine⟨⟨Z _ _ (by omega),pn.nodup_iff.mpr (Z _ _ (by omega)),λx ζ y ε=>O (by omega) (by omega) (by omega) x ζ y (pn.mem_iff.mp ε)⟩,Z _ _ (by omega),λx ζ y ε=>?_⟩;rcases mem_append.mp ζ with h | h
  ·exact O (by omega) (by omega) (by omega) x h y ε
  ·exactλe=>O (a:=6) (n:=Y) (b:=22) (k:=rows.length) (by omega) (by omega) (by omega) y ε x (pn.mem_iff.mp h) e.symm
 ·obtain⟨k,hk⟩:=G r α;have ι:=(List.getElem?_eq_some_iff.mp hk).1;refine β z ?_;rcases mem_append.mp ((m.ws k r hk).2 z hz) with h | h
  ·exact mem_append_left _ h
  ·obtain⟨j,δ,rfl⟩:=i8 h;exact mem_append_right _ (OS (by omega))
 ·refine⟨λz=>(nms c 22 rows.length).idxOf z,λr α z hz γ=>?_⟩;obtain⟨k,hk⟩:=G r α;have ι:=(List.getElem?_eq_some_iff.mp hk).1;have er:(nms c 22 rows.length)[k]? =some r.1:=by rw[<-m.nm,getElem?_map,hk];rfl
  have nd:=Z 22 rows.length (by omega)
  have π:∀(j:Nat) y,(nms c 22 rows.length)[j]? =some y->(nms c 22 rows.length).idxOf y=j:=λj y δ=>by
   obtain⟨ο,ξ⟩:=List.getElem?_eq_some_iff.mp δ;rw[<-ξ];exact nd.idxOf_getElem j ο
  obtain⟨j,δ,ρ⟩:=i8 (pn.mem_iff.mp γ)
  have ν:j < k:=by
   rcases mem_append.mp ((m.ws k r hk).2 z hz) with h | h
   ·exfalso;rcases mem_append.mp h with h | h
    ·exact O (a:=0) (n:=L) (b:=22) (k:=rows.length) (by omega) (by omega) (by omega) z h z (pn.mem_iff.mp γ) rfl
    ·exact O (a:=6) (n:=Y) (b:=22) (k:=rows.length) (by omega) (by omega) (by omega) z h z (pn.mem_iff.mp γ) rfl
   ·obtain⟨υ,φ,e'⟩:=i8 h;have:=xN c (show 22 + j < 40 by omega) (show 22 + υ < 40 by omega) (ρ.symm.trans e');omega
  have ez:(nms c 22 rows.length)[j]? =some z:=by unfold nms;rw[getElem?_map,getElem?_range δ,ρ];rfl
  show(nms c 22 rows.length).idxOf z < (nms c 22 rows.length).idxOf r.1;rw[π j z ez,π k r.1 er];exact ν
inductive Scl:V->String->Prop where
 | str (z:Str) (l:z.length<=1000):Scl (.str z) "str"
 | int (i:Int):Scl (.int i) "int"
 | bl (b:Bool):Scl (.bl b) "bool"
 | non:Scl .non "NoneType"
def Fb (G:NP):Sp:=λvs H Q _=>∃(p:Addr) (N:Nt) (od:List Str),vs=[.ref p]/\G H p N od/\∀(D:Addr) (H2:Hp),H D=none->Same H H2->H2 D=some (.lst (N.names.map V.str))->Q (.ref D) H2
def Nmc (c:Int) (N:Nt):Prop:=∀z∈N.names,∃k:Nat,k < 40/\z=nmf c (k:Int)
noncomputable def sbw (w f z:Str):Str:=if z=w then f else z
noncomputable def cutN (N:Nt) (w f:Str):Nt:=⟨N.ins,N.sums.map (λr=>(r.1,r.2.map (sbw w f)))++[(f,[])],N.sts.map (λq=>(q.1,sbw w f q.2)),N.outs.map (sbw w f)⟩
theorem vt (N:Nt) (w f:Str):(cutN N w f).names.Perm (N.names++[f]):=by
 unfold Nt.names cutN;rw[map_append,map_map,map_map];show(N.ins++(N.sums.map (·.1)++[f])++N.sts.map (·.1)).Perm (N.ins++N.sums.map (·.1)++N.sts.map (·.1)++[f]);rw[<-append_assoc,append_assoc (N.ins++N.sums.map (·.1)),append_assoc (N.ins++N.sums.map (·.1))];exact List.Perm.append_left _ List.perm_append_comm
theorem FE {N:Nt} {w f z:Str} (h:z∈N.names):sbw w f z∈(cutN N w f).names:=by
 rw[(vt N w f).mem_iff];unfold sbw;split
 ·exact mem_append_right _ mem_cons_self
 ·exact mem_append_left _ h
theorem JY {N:Nt} (g:Gn N) {w f:Str} (hl:N.sums.length<=39) (hf:Nm f) (hn:f∉N.names):Gn (cutN N w f) where
 li:=g.li
 ls:=by
  show(N.sums.map _++[(f,[])]).length<=40;rw[length_append,length_map,length_singleton];omega
 lt:=by show(N.sts.map _).length<=16;rw[length_map];exact g.lt
 lo:=by show(N.outs.map _).length<=6;rw[length_map];exact g.lo
 lw:=λr β=>by
  rcases mem_append.mp β with h | h
  ·obtain⟨G,α,rfl⟩:=mem_map.mp h;show(G.2.map _).length<=24;rw[length_map];exact g.lw G α
  ·rw[mem_singleton.mp h];exact zero_le _
 nm:=λz hz=>by
  rcases mem_append.mp ((vt N w f).mem_iff.mp hz) with h | h
  ·exact g.nm z h
  ·rw[mem_singleton.mp h];exact hf
 nd:=by
  refine(vt N w f).nodup_iff.mpr (nodup_append.mpr ⟨g.nd,by simp,λx δ y γ e=>?_⟩);rw[mem_singleton] at γ;rw[e,γ] at δ;exact hn δ
 ws:=λr β z hz=>by
  rcases mem_append.mp β with h | h
  ·obtain⟨G,α,rfl⟩:=mem_map.mp h;obtain⟨Z,O,rfl⟩:=mem_map.mp hz;exact FE (g.ws G α Z O)
  ·rw[mem_singleton.mp h] at hz;cases hz
 ts:=λr β=>by
  obtain⟨G,α,rfl⟩:=mem_map.mp β;exact FE (g.ts G α)
 os:=λz hz=>by
  obtain⟨Z,O,rfl⟩:=mem_map.mp hz;exact FE (g.os Z O)
 rk:=by
  obtain⟨L,hk⟩:=g.rk;refine⟨λz=>if z=f then 0 else L z + 1,λr β z hz hs=>?_⟩;rcases mem_append.mp β with h | h
  ·obtain⟨G,α,rfl⟩:=mem_map.mp h;obtain⟨Z,O,rfl⟩:=mem_map.mp hz;have h1:G.1≠f:=λe=>hn (by rw[<-e];unfold Nt.names;exact mem_append_left _ (mem_append_right _ (mem_map.mpr ⟨G,α,rfl⟩)));show(if sbw w f Z=f then 0 else L (sbw w f Z) + 1) < (if G.1=f then 0 else L G.1 + 1);rw[if_neg h1];split
   ·omega
   ·rename_i Y
    have ε:sbw w f Z=Z:=by
     unfold sbw at Y ⊢;split
     ·rename_i hw;rw[if_pos hw] at Y;exact absurd rfl Y
     ·rfl
    rw[ε] at hs ⊢;have hs:Z∈(N.sums.map (λr:Str×List Str=>(r.1,r.2.map (sbw w f)))++[(f,[])]).map (λr:Str×List Str=>r.1):=hs;rw[map_append,map_map] at hs;rcases mem_append.mp hs with h2 | h2
    ·have:=hk G α Z O h2;omega
    ·rw[ε] at Y;exact absurd (mem_singleton.mp h2) Y
  ·rw[mem_singleton.mp h] at hz;cases hz
end Sx
namespace M
noncomputable def fR (rows:List Nat):List Nat:=(fr rows).map λi=>rows.getD i 0
noncomputable def ow (x:Nat) (L:List Nat):Nat:=pk (λk=>od (x&&&L.getD k 0)) 0 L.length
noncomputable def lk1 (A os:List Nat) (t:Nat):List Nat:=os.map λs=>bkI A s t
noncomputable def lkm (A os:List Nat):Nat->List Nat
 | 0=>[]
 | T + 1=>lkm A os T++lk1 A os T
section
variable (ps os:List (Nat×Nat)) (m:Nat)
noncomputable def msk:List Nat:=lkm (ps.map (·.1)) (os.map (·.1)) ps.length
noncomputable def ldp:List Nat:=fr ((rch ps m ps.length).map (ow · (msk ps os)))
noncomputable def lst_:List Nat:=(ldp ps os m).map λi=>(rch ps m ps.length).getD i 0
noncomputable def lkp:List Nat:=fr ((msk ps os).map (ow · (lst_ ps os m)))
noncomputable def lkL:List Nat:=(lkp ps os m).map λi=>(msk ps os).getD i 0
noncomputable def sen:List Nat:=(lkL ps os m).map (ow · (lst_ ps os m))
end
section
variable {ps os:List (Nat×Nat)} {m:Nat}
structure Lsr (ps os:List (Nat×Nat)) (m:Nat) (nx' os':List (Nat×Nat)):Prop where
 ln:nx'.length=(lkp ps os m).length
 lo:os'.length=os.length
 n1:∀(j:Nat) (q:Nat×Nat),nx'[j]? =some q->q.1 < 2 ^ (lkp ps os m).length/\sm (sen ps os m) q.1=ow (sm (ps.map (·.1)) ((lkL ps os m).getD j 0)) (lst_ ps os m)/\q.2=sm (ps.map (·.2)) ((lkL ps os m).getD j 0)
 o1:∀(j:Nat) (q:Nat×Nat),os'[j]? =some q->q.1 < 2 ^ (lkp ps os m).length/\sm (sen ps os m) q.1=ow (os.getD j (0,0)).1 (lst_ ps os m)/\q.2=(os.getD j (0,0)).2
structure Fit (ps os:List (Nat×Nat)) (m:Nat):Prop where
 ln:ps.length<=120
 bn:∀q∈ps++os,q.1 < 2 ^ ps.length
end
end M
namespace Sx
open PySem L2
structure Lrl (H:Hp) (Dr Dl:Addr) (ds es:List Addr) (m:Nat) (nx os:List Pr3):Prop where
 r:H Dr=some (.lst (ds.map V.ref))
 l:H Dl=some (.lst (es.map V.ref))
 dl:ds.length=(M.ldp (prs nx) (prs os) m).length
 el:es.length=(M.lkp (prs nx) (prs os) m).length
 da:∀(j:Nat) (d k:Nat),ds[j]? =some d->(M.ldp (prs nx) (prs os) m)[j]? =some k->H d=some (.lst ((M.upk m (2 ^ k) nx.length).map nat))
 ea:∀(j:Nat) (e k:Nat),es[j]? =some e->(M.lkp (prs nx) (prs os) m)[j]? =some k->H e=some (.tup [nat (k / os.length),nat (k % os.length)])
noncomputable def less (H:Hp) (R:Addr->Prop):Hp:=λb=>@ite _ (R b) (Classical.propDecidable _) none (H b)
structure Hnd2 (H:Hp) (i s t o:Addr) (rs:List Rw) (qs:List Qs) (N:Nt):Prop where
 i:H i=some (.lst (N.ins.map V.str))
 s:H s=some (.lst (rs.map λr=>V.ref r.1))
 sr:∀r∈rs,H r.1=some (.tup [.str r.2.2.1,.ref r.2.1])/\(H r.2.1=some (.lst (r.2.2.2.map V.str))∨H r.2.1=some (.tup (r.2.2.2.map V.str)))
 es:rs.map (·.2.2)=N.sums
 t:H t=some (.lst (qs.map λq=>V.ref q.1))
 tr:∀q∈qs,H q.1=some (.tup [.str q.2.1,.str q.2.2])
 et:qs.map (·.2)=N.sts
 o:H o=some (.lst (N.outs.map V.str))
inductive Thg (H:Hp):V->String->Prop where
 | sc {v:V} {k:String} (s:Scl v k):Thg H v k
 | nil {p:Addr} (e:H p=some (.lst [])):Thg H (.ref p) "list"
inductive Cpy (H H2:Hp):V->V->Prop where
 | sc {v:V} {k:String} (s:Scl v k):Cpy H H2 v v
 | nil {p p2:Addr} (e:H p=some (.lst [])) (e2:H2 p2=some (.lst [])):Cpy H H2 (.ref p) (.ref p2)
def IQ (K:PySem.W.Frag):Sp:=λvs H Q _=>∃(p:Addr) (ns:List Int) (st mo:Nat),vs=[.ref p,nat st,nat mo]/\SqL K H p (ns.map V.int)/\st<=900/\mo<=12/\∀(t i s u o:Addr) (H2:Hp) (rs:List Rw) (qs:List Qs) (N:Nt),Same H H2->H2 t=some (.tup [.ref i,.ref s,.ref u,.ref o])->Hnd H2 i s u o rs qs N->Gn N->N.ins.length<=3->N.sums.length<=mo->Nmc (cell ns (st:Int)) N->Q (.ref t) H2
theorem Mj {c:Int} {G L:Nat} {rows sums:List (Str×List Str)} {sts:List (Str×Str)} {outs:List Str} (m:Mk c G L rows) (h1:G<=3) (h2:L<=12) (Z:rows.length<=12) (O:sums.Perm rows) (hs:sts.map (·.1)=nms c 6 L) (Y:outs.length<=6)
  (ht:∀q∈sts,q.2∈nms c 0 G++nms c 6 L++nms c 22 rows.length) (ho:∀z∈outs,z∈nms c 0 G++nms c 6 L++nms c 22 rows.length):Nmc c ⟨nms c 0 G,sums,sts,outs⟩:=by
 have pn:(sums.map (·.1)).Perm (nms c 22 rows.length):=by rw[<-m.nm];exact O.map _
 intro z hz;unfold Nt.names at hz;have hz:z∈nms c 0 G++sums.map (·.1)++sts.map (·.1):=hz;rw[hs] at hz;rcases mem_append.mp hz with h | h
 ·rcases mem_append.mp h with h | h
  ·obtain⟨k,hk,e⟩:=i8 h;exact⟨_,by omega,e⟩
  ·obtain⟨k,hk,e⟩:=i8 (pn.mem_iff.mp h);exact⟨_,by omega,e⟩
 ·obtain⟨k,hk,e⟩:=i8 h;exact⟨_,by omega,e⟩
def RwLs (H:Hp) (rs:List Rw):Prop:=∀r∈rs,H r.1=some (.tup [.str r.2.2.1,.ref r.2.1])/\H r.2.1=some (.lst (r.2.2.2.map V.str))
theorem A2 {z:Str} {l:List Str}:(inV (V.str z) (l.map V.str))=true↔z∈l:=by
 unfold inV;rw[any_eq_true];constructor
 ·rintro⟨x,L,e⟩;obtain⟨y,G,rfl⟩:=mem_map.mp L;have:y=z:=by simpa[eqV] using e
  rw[<-this];exact G
 ·intro h;exact⟨_,mem_map.mpr ⟨z,h,rfl⟩,by simp[eqV]⟩
inductive Thg2 (H:Hp):V->String->Prop where
 | sc {v:V} {k:String} (s:Scl v k):Thg2 H v k
 | nil {p:Addr} (e:H p=some (.lst [])):Thg2 H (.ref p) "list"
 | one {p:Addr} {z:Str} (l:z.length<=1000) (e:H p=some (.tup [.str z])):Thg2 H (.ref p) "tuple"
inductive Cpy2 (H H2:Hp):V->V->Prop where
 | sc {v:V} {k:String} (s:Scl v k):Cpy2 H H2 v v
 | nil {p p2:Addr} (e:H p=some (.lst [])) (e2:H2 p2=some (.lst [])):Cpy2 H H2 (.ref p) (.ref p2)
 | one {p p2:Addr} {z:Str} (e:H p=some (.tup [.str z])) (e2:H2 p2=some (.tup [.str z])):Cpy2 H H2 (.ref p) (.ref p2)
def Cz:Sp:=λvs H Q _=>∃(l:Addr) (zs:List Str) (w f:Str),vs=[.ref l,.str w,.str f]/\(H l=some (.lst (zs.map V.str))∨H l=some (.tup (zs.map V.str)))/\zs.length<=1000/\∀(D:Addr) (H2:Hp),H D=none->Same H H2->H2 D=some (.lst ((zs.map (sbw w f)).map V.str))->Q (.ref D) H2
end Sx
namespace M
noncomputable def jn (p1 p2:List (Nat×Nat)):List (Nat×Nat):=p1++p2.map λq=>(q.1 <<< p1.length,q.2)
noncomputable def lo (n x:Nat):Nat:=x&&&(2 ^ n - 1)
structure Jo (p1 p2:List (Nat×Nat)):Prop where
 a1:∀q∈p1,q.1 < 2 ^ p1.length
 a2:∀q∈p2,q.1 < 2 ^ p2.length
 l:p1.length + p2.length<=500
section
variable {p1 p2 o1 o2:List (Nat×Nat)} {m:Nat}
noncomputable def sgl (p o:List (Nat×Nat)) (w:Nat):Nat->Nat
 | 0=>tr2 o 0 (2 ^ w)
 | t + 1=>tr2 o (zs p (tr2 p 0 (2 ^ w)) t) 0
def Al (p1 o1 p2 o2:List (Nat×Nat)) (m T:Nat):Prop:=∀t,t < T->∀w,w < m->sgl p1 o1 w t=sgl p2 o2 w t
end
noncomputable def rcf (ps:List (Nat×Nat)) (m:Nat):Nat->List Nat
 | 0=>[]
 | T + 1=>rcf ps m T++stj ps (sg0 ps m) T
noncomputable def prs2 (p1 p2:List (Nat×Nat)) (m:Nat):List Nat:=fR (rcf (jn p1 p2) m (p1.length + p2.length))
end M
namespace Sx
open PySem L2
structure TwoA (H:Hp) (C p1 p2:Addr) (m:Nat) (nx1 os1 nx2 os2:List Pr3):Prop where
 a1:MaA H C p1 m nx1 os1
 g1:MaG m nx1 os1
 a2:MaA H C p2 m nx2 os2
 g2:MaG m nx2 os2
 lo:os1.length=os2.length
 l:nx1.length + nx2.length<=60
structure Fun2 (p1 o1 p2 o2:List (Nat×Nat)) (m w t:Nat):Prop where
 hw:w < m
 ht:t<=p1.length + p2.length
 al:M.Al p1 o1 p2 o2 m t
 al':∀w',w' < w->M.sgl p1 o1 w' t=M.sgl p2 o2 w' t
 un:M.sgl p1 o1 w t≠M.sgl p2 o2 w t
noncomputable def sfq (rows:List Nat) (x:Nat):Nat:=@dite _ (∃q,Sumd rows x q) (Classical.propDecidable _) (λh=>h.choose) λ_=>0
structure AlkA (H:Hp) (t Ds Db Du:Addr) (ts bs us:List Addr) (m:Nat) (p1 p2:List (Nat×Nat)):Prop where
 t:H t=some (.tup [.str "alike",.ref Ds,.ref Db,.ref Du])
 s:H Ds=some (.lst (ts.map V.ref))
 ls:ts.length=(M.prs2 p1 p2 m).length
 sa:∀(j:Nat) a,ts[j]? =some a->H a=some (.tup [nat (M.lo p1.length ((M.prs2 p1 p2 m).getD j 0)),nat ((M.prs2 p1 p2 m).getD j 0>>>p1.length)])
 b:H Db=some (.lst (bs.map V.ref))
 lb:bs.length=m
 ba:∀(j:Nat) a,bs[j]? =some a->H a=some (.lst ((M.pl 1000 (sfq (M.prs2 p1 p2 m) (M.tr2 (M.jn p1 p2) 0 (2 ^ j)))).map nat))
 u:H Du=some (.lst (us.map V.ref))
 lu:us.length=(M.prs2 p1 p2 m).length
 ua:∀(j:Nat) a,us[j]? =some a->H a=some (.lst ((M.pl 1000 (sfq (M.prs2 p1 p2 m) (M.tr2 (M.jn p1 p2) ((M.prs2 p1 p2 m).getD j 0) 0))).map nat))
noncomputable def cz (w:Str) (q:Str->Nat×Nat) (x:Str):Nat×Nat:=if x=w then (0,0) else q x
structure CutP (N:Nt) (w:Str) (q:Str->Nat×Nat):Prop where
 i:∀(k:Nat) z,N.ins[k]? =some z->q z=(0,2 ^ k)
 t:∀(k:Nat) z y,N.sts[k]? =some (z,y)->q z=(2 ^ k,0)
 s:∀z ws,(z,ws)∈N.sums->q z=(xf (λx=>(cz w q x).1) ws,xf (λx=>(cz w q x).2) ws)
noncomputable def ext (f:Str) (q:Str->Nat×Nat) (z:Str):Nat×Nat:=if z=f then (0,0) else q z
noncomputable def frn (k:Nat):Str:=("c":Str)++tx k
def I0 (L:NP):Sp:=λvs H Q _=>∃(p:Addr) (N:Nt) (od:List Str) (w z:Str),vs=[.ref p,.str w,.str z]/\L H p N od/\w∈N.names/\Nm z/\z∉N.names/\N.sums.length<=39/\∀(n:Addr) (H2:Hp) (G:List Str),H n=none->Same H H2->L H2 n (cutN N w z) G->Q (.ref n) H2
noncomputable def sts (N:Nt) (rs:List Nat):List Nat:=(List.range (rs.length + 1)).map λk=>rst N 0 (rs.take k)
theorem tU (N:Nt) (G:List Nat):atI ((sts N G).map nat) (-1)=some (nat (rst N 0 G)):=by
 unfold sts;rw[range_succ,map_append,map_append];show atI (_++[nat (rst N 0 (G.take G.length))]) (-1)=_;rw[take_length];exact Ce _ _
theorem Hz (A:List Nat) (s j:Nat):∀t,M.bkI A (M.bkI A s j) t=M.bkI A s (j + t)
 | 0=>rfl
 | t + 1=>congrArg (M.sm A) (Hz A s j t)
theorem GN {x:Nat} {l:List Nat} (h:inV (nat x) (l.map nat)=true):x∈l:=by
 unfold inV at h;rw[any_eq_true] at h;obtain⟨v,L,e⟩:=h;obtain⟨y,G,rfl⟩:=mem_map.mp L;have:(y:Int)=(x:Int):=by simpa[eqV] using e
 have:y=x:=by omega
 rw[<-this];exact G
theorem E7 {N:Nt} {rs:List Nat} {x:Nat} (h:x∈sts N rs):∃k,x=rst N 0 (rs.take k):=by
 unfold sts at h;obtain⟨k,_,rfl⟩:=mem_map.mp h;exact⟨k,rfl⟩
def CC (G:NP):Sp:=λvs H Q _=>∃(n r:Addr) (N:Nt) (od:List Str) (rs:List Nat),vs=[.ref n,.ref r]/\G H n N od/\H r=some (.lst (rs.map nat))/\rs.length<=800/\(∀x∈rs,x < 2 ^ N.ins.length)/\∀(D:Addr) (H2:Hp),H D=none->Same H H2->H2 D=some (.lst ((sts N rs).map nat))->Q (.ref D) H2
def CF (G:NP):Sp:=λvs H Q _=>∃(n D:Addr) (N:Nt) (od:List Str) (rs:List Nat) (s:Nat),vs=[.ref n,nat s,.ref D]/\G H n N od/\H D=some (.lst ((sts N rs).map nat))/\rs.length<=100/\(∀x∈rs,x < 2 ^ N.ins.length)/\s < 2 ^ N.sts.length/\∀H2,Same H H2->Q (.bl true) H2
def Fs (G:NP):Sp:=λvs H Q _=>∃(n r:Addr) (N:Nt) (od:List Str) (rs:List Nat) (y T:Nat) (c:Int),vs=[.ref n,.ref r,nat y,nat T,.int c]/\G H n N od/\H r=some (.lst (rs.map nat))/\rs.length<=100/\(∀x∈rs,x < 2 ^ N.ins.length)/\y < 2 ^ N.sts.length/\T<=12/\∀H2,Same H H2->Q (.bl true) H2
def CD (K:PySem.W.Frag) (G:NP):Sp:=λvs H Q _=>∃(n p:Addr) (N:Nt) (od:List Str) (ns:List Int) (st:Nat),vs=[.ref n,.ref p,nat st]/\G H n N od/\SqL K H p (ns.map V.int)/\st<=100/\∀H2,Same H H2->Q (.bl true) H2
theorem tx90:∀n:Fin 1000,(tx (n.1 + 3330)).cps.toList.length=4/\(tx (n.1 + 3330)).cps.toList.all fig=true:=by decide +kernel
noncomputable def nm9 (c:Int):Str:=(⟨#[97 + (mixV c 400 % 26).toNat]⟩:Str)++tx ((mixV c 401 % 1000).toNat + 3330)
theorem OU (c:Int):Nm (nm9 c):=by
 have hd:low (97 + (mixV c 400 % 26).toNat)=true:=by
  have:=Int.emod_lt_of_pos (mixV c 400) (show(0:Int) < 26 by decide);have:=Int.emod_nonneg (mixV c 400) (show(26:Int)≠0 by decide);unfold low;rw[decide_eq_true (by omega),decide_eq_true (by omega)];rfl
 have hb:(mixV c 401 % 1000).toNat < 1000:=by
  have:=Int.emod_lt_of_pos (mixV c 401) (show(0:Int) < 1000 by decide);have:=Int.emod_nonneg (mixV c 401) (show(1000:Int)≠0 by decide);omega
 obtain⟨G,h2⟩:=tx90 ⟨_,hb⟩;show nm _=true;unfold nm9;rw[Bf];show nm ((97 + (mixV c 400 % 26).toNat)::(tx ((mixV c 401 % 1000).toNat + 3330)).cps.toList)=true;have G:(tx ((mixV c 401 % 1000).toNat + 3330)).cps.toList.length=4:=G;have h2:(tx ((mixV c 401 % 1000).toNat + 3330)).cps.toList.all fig=true:=h2;generalize (tx ((mixV c 401 % 1000).toNat + 3330)).cps.toList=l at h2 G;generalize 97 + (mixV c 400 % 26).toNat=d at hd;show(decide ((d::l).length<=6)&&low d&&(d::l).all λc=>low c||fig c)=true;rw[hd,all_cons,hd]
 have L:l.all (λc=>low c||fig c)=true:=by
  rw[all_eq_true] at h2 ⊢;intro x O;rw[h2 x O,Bool.or_true]
 rw[L,length_cons,decide_eq_true (by omega)];rfl
noncomputable def x1 (G:List Pr3):Nat:=G.foldl (λa g=>a^^^g.2.1) 0
noncomputable def x2 (G:List Pr3):Nat:=G.foldl (λa g=>a^^^g.2.2) 0
structure Nts (NA:NP) (H:Hp) (p1 p2:Addr) (N N2:Nt) (od od2:List Str):Prop where
 a1:NA H p1 N od
 a2:NA H p2 N2 od2
 li:N2.ins.length=N.ins.length
 lt:N2.sts.length=N.sts.length
def Fp:Sp:=λvs H Q _=>∃(c:Int),vs=[.int c,.int 90]/\∀H2,Same H H2->Q (.str (nm9 c)) H2
end Sx
namespace My
open PySem L2 Sx
local macro_rules | `(tactic| walk_at "o") =>`(tactic| first | exact Or.inl rfl | exact Or.inr rfl)
local macro_rules | `(tactic| walk_at "s") =>`(tactic| exact ⟨rfl,rfl,rfl,by decide +kernel,rfl,by decide +kernel,by decide +kernel⟩)
local macro_rules | `(tactic| walk_at "n") =>`(tactic| (intro vs H Q E h;repeat (first | (obtain ⟨e,_⟩:=h;subst e;rfl) | (obtain ⟨_,h⟩:=h))))
local macro_rules | `(tactic| walk_at "l2side") =>`(tactic| first | assumption | rfl | omega | decide | ((try dsimp only [CDiv,QG,CPow,CMul]);first | omega | decide | (refine ⟨?_,?_⟩<;>first | omega | decide) | (refine ⟨?_,?_,?_⟩<;>first | omega | decide) | (left;refine ⟨?_,?_⟩<;>first | omega | decide) | (right;refine ⟨?_,?_⟩<;>first | omega | decide)))
local macro_rules | `(tactic| walk_at "l2len") =>`(tactic| ((with_reducible show _ + _≤sizeLine);first | assumption | (rw [sizeLine_eq];omega) | omega))
local macro_rules | `(tactic| walk_at "l2at") =>`(tactic| first | assumption | exact ay | (refine' Same.get (by assumption) ?h;(case h=>walk_at "l2at")))
local macro_rules | `(tactic| walk_at "l2hp") =>`(tactic| first | assumption | (refine' SqL.of ?h;(case h=>walk_at "l2at")) | (refine' SqT.of ?h;(case h=>walk_at "l2at")) | (refine' Same.seq (by assumption) ?h;(case h=>walk_at "l2hp")) | (refine' Same.tup (by assumption) ?h;(case h=>walk_at "l2hp")) | (refine' Rep.same (by assumption) ?h;(case h=>walk_at "l2hp")) | walk_at "l2at")
local macro_rules | `(tactic| walk_at "l2kind") =>`(tactic| first | assumption | exact rfl | (refine' Or.inl ⟨rfl,_,?e⟩;(case e=>walk_at "l2hp")) | (refine' Or.inr (Or.inl ⟨rfl,_,?e⟩);(case e=>walk_at "l2hp")) | (refine' Or.inr (Or.inr ⟨rfl,_,Or.inl ?e⟩);(case e=>walk_at "l2hp")))
local macro_rules | `(tactic| walk_at "l2step") =>`(tactic| first
 | (with_reducible refine P5 ?_) | (with_reducible refine Ql ?_) | (with_reducible refine s_if ?_) | (with_reducible refine P6 ?_) | (with_reducible refine s_retN ?_) | (with_reducible refine N4 ?_) | (with_reducible refine NQ ?_)
 | ((with_reducible refine' P2 ?e ?_);(case e=>repeat constructor)) | (with_reducible refine s_c ?_) | (with_reducible refine s_op ?_) | (with_reducible refine s_un ?_)
 | (with_reducible refine Oa ?_) | (with_reducible refine Qb ?_) | (with_reducible refine LV ?_) | (with_reducible refine s_cb ?_)
 | (with_reducible refine P8 ?_) | ((with_reducible refine' s_rI ?e ?_);(case e=>walk_at "l2side")) | (with_reducible refine s_rU ?_)
 | ((with_reducible refine' P9 ?e ?_);(case e=>rfl)) | ((with_reducible refine' P7 ?e ?_);(case e=>rfl)) | (with_reducible refine s_leS ?_)
 | (with_reducible refine NH ?_) | (with_reducible refine s_tB ?_) | (with_reducible refine L2.s_chain ?_) | (with_reducible refine Qm ?_) | (with_reducible refine s_or ?_) | (with_reducible refine Qa ?_)
 | (with_reducible refine Od ?_) | (with_reducible refine s_orV ?_) | (with_reducible refine NO ?_) | (with_reducible refine Qg ?_)
 | ((with_reducible refine' LM ?e ?_);(case e=>repeat constructor)) | (with_reducible refine LO ?_) | (with_reducible refine N3 ?_) | ((with_reducible refine' N1 ?e ?l ?_);(case e=>walk_at "l2hp");(case l=>rfl))
 | (with_reducible refine P3 ?_) | (with_reducible refine Qc ?_) | ((with_reducible refine' NS ?l ?_);(case l=>exact Gr (Nat.le_of_ble_eq_true rfl))) | ((with_reducible refine' NR ?l ?_);(case l=>exact Gr (Nat.le_of_ble_eq_true rfl)))
 | (with_reducible refine s_sl ?_) | (with_reducible refine Jf ?_) | (with_reducible refine NM ?_)
 | ((with_reducible refine' P4 ?e ?_);(case e=>walk_at "l2hp")) | ((with_reducible refine' s_slS ?e ?_);(case e=>walk_at "l2side"))
 | ((with_reducible refine' Qe ?e ?a ?_);(case e=>walk_at "l2hp");(case a=>first | assumption | rfl)) | ((with_reducible refine' Qd ?e ?a ?_);(case e=>walk_at "l2hp");(case a=>first | assumption | rfl))
 | ((with_reducible refine' s_ty ?e ?_);(case e=>first | exact rfl | (refine' Or.inl ⟨rfl,_,?f⟩;(case f=>walk_at "l2hp")) | (refine' Or.inr (Or.inr (Or.inl ⟨rfl,Or.inl ⟨_,?f⟩⟩));(case f=>walk_at "l2hp"))))
 | (with_reducible refine Qk ?_) | (with_reducible refine s_bm ?_) | (with_reducible refine Oc ?_)
 | ((with_reducible refine' NX ?e ?_);(case e=>walk_at "l2hp")) | ((with_reducible refine' NV ?e ?_);(case e=>walk_at "l2hp")) | ((with_reducible refine' NW ?e ?_);(case e=>walk_at "l2side"))
 | ((with_reducible refine' Qf ?e ?m ?_);(case e=>walk_at "l2kind");(case m=>decide))
 | (with_reducible refine N7 ?_) | (with_reducible refine Qh ?_) | (with_reducible refine LL ?_) | (with_reducible refine NY ?_) | (with_reducible refine NZ ?_) | (with_reducible refine NJ ?_) | (with_reducible refine s_rng2 ?_)
 | (with_reducible refine P1 ?_) | (with_reducible refine NG ?_) | (with_reducible refine LP ?_) | (with_reducible refine s_intB ?_) | (with_reducible refine s_inS ?_) | ((with_reducible refine' s_addS ?e ?_);(case e=>walk_at "l2side"))
 | (with_reducible refine Ob ?_) | ((with_reducible refine' kK ?e ?_);(case e=>first | rfl | decide | assumption)) | ((with_reducible refine' ie ?e ?_);(case e=>first | rfl | decide | assumption)) | ((with_reducible refine' Ji ?a ?b ?_);(case a=>omega);(case b=>omega))
 | (with_reducible refine⟨_,_,rfl,rfl,?_⟩;(with_reducible refine⟨?l,?_⟩);(case l=>walk_at "l2len")) | (with_reducible refine⟨_,_,rfl,rfl,?_⟩) | (with_reducible refine Or.inl ⟨_,rfl,?_⟩) | (with_reducible refine Or.inr ⟨_,rfl,?_⟩)
 | (with_reducible refine⟨_,rfl,?_⟩) | (with_reducible refine⟨rfl,?_⟩) | ((with_reducible refine' ⟨⟨_,?e⟩,?_⟩);(case e=>walk_at "l2hp")))
local macro_rules | `(tactic| walk_at "l2") =>`(tactic| repeat walk_at "l2step")
local macro_rules | `(tactic| walk_at "l2step") =>`(tactic| first
 | (with_reducible refine Je ?_) | (with_reducible refine Qi ?_) | (with_reducible refine NU ?_) | (with_reducible refine Jg ?_) | (with_reducible refine NT ?_) | (with_reducible refine N5 ?_) | (with_reducible refine N9 ?_) | (with_reducible refine FF ?_)
 | ((with_reducible refine' LI ?e ?_);(case e=>walk_at "l2hp")) | ((with_reducible refine' LH ?e ?_);(case e=>walk_at "l2hp")) | ((with_reducible refine' NF ?e ?_);(case e=>walk_at "l2hp")) | ((with_reducible refine' ND ?e ?_);(case e=>walk_at "l2hp")))
local macro_rules | `(tactic| walk_at "l2step") =>`(tactic| first
 | (with_reducible refine Qj ?_) | (with_reducible refine N6 ?_) | (with_reducible refine s_disp1I ?_) | ((with_reducible refine' LJ ?e ?_);(case e=>walk_at "l2at")))
local macro_rules | `(tactic| walk_at "l2step") =>`(tactic| first | (with_reducible refine LG ?_) | (with_reducible refine s_try0 ?_) | (with_reducible refine LU ?_))
noncomputable def top (i:Nat):Stmt:=PySem.Challenge.pw_sumwires_k94_whole_states_of_cut_nets.main.body.getD i (.Pass ⟨0,0,0,0⟩)
noncomputable abbrev qm:Stmt:=top 18
theorem Ao:aq ["thing"] ["thing"] (ah qm):=by walk_at "s"
noncomputable abbrev ui:Stmt:=top 19
theorem CQ:aq ["thing","width"] ["thing","width"] (ah ui):=by walk_at "s"
noncomputable abbrev o8:Stmt:=top 20
theorem CP:aq ["thing"] ["thing"] (ah o8):=by walk_at "s"
noncomputable abbrev FG:Stmt:=top 21
theorem tW:aq ["number","width","half"] ["number"] (ah FG):=by walk_at "s"
noncomputable abbrev o9:Stmt:=top 22
theorem CU:aq ["mask"] ["mask"] (ah o9):=by walk_at "s"
noncomputable abbrev ug:Stmt:=top 23
theorem mR:aq ["places","mask","place"] ["places"] (ah ug):=by walk_at "s"
noncomputable abbrev ql:Stmt:=top 24
theorem Am:aq ["row"] ["row"] (ah ql):=by walk_at "s"
noncomputable abbrev mT:Stmt:=top 25
theorem An:aq ["whole","width","count"] ["whole","width","count"] (ah mT):=by walk_at "s"
noncomputable abbrev ip:Stmt:=bC (top 27) 0
theorem gN:aq ["self","rows","place","row"] ["self","rows"] (ah ip):=by walk_at "s"
noncomputable abbrev iW:Stmt:=bC (top 27) 1
theorem dZ:aq ["self","mask","places","found"] ["self","mask"] (ah iW):=by walk_at "s"
noncomputable abbrev oC:Stmt:=bC (top 27) 2
theorem mf:aq ["self","place","row","found","places"] ["self","place","row"] (ah oC):=by walk_at "s"
noncomputable abbrev iX:Stmt:=bC (top 27) 3
theorem fO:aq ["self","bit","mask","top"] ["self","bit"] (ah iX):=by walk_at "s"
noncomputable abbrev uc:Stmt:=top 28
theorem qf:aq ["rows","wish","steps","found"] ["rows","wish"] (ah uc):=by walk_at "s"
noncomputable abbrev s_chain:Stmt:=top 29
theorem mS:aq ["masks","place","found","sums"] ["masks"] (ah s_chain):=by walk_at "s"
noncomputable abbrev uf:Stmt:=top 32
theorem mQ:aq ["machine","turns","states","told","turn"] ["machine","turns"] (ah uf):=by walk_at "s"
noncomputable abbrev ue:Stmt:=top 33
theorem CL:aq ["machine","places","turns"] ["machine","places","turns"] (ah ue):=by walk_at "s"
noncomputable abbrev kJ:Stmt:=top 34
theorem jT:aq ["machine","mask","masks","turn"] ["machine","mask"] (ah kJ):=by walk_at "s"
noncomputable abbrev uj:Stmt:=top 35
theorem iN:aq ["machine","state","bar","turns","found","shown"] ["machine","state"] (ah uj):=by walk_at "s"
noncomputable abbrev uk:Stmt:=top 36
theorem wF:aq ["machine","start","wish","turns","found"] ["machine","start","wish","turns"] (ah uk):=by walk_at "s"
noncomputable abbrev iU:Stmt:=bC (top 38) 0
theorem rZ:aq ["self","name"] ["self","name"] (ah iU):=by walk_at "s"
noncomputable abbrev gO:Stmt:=bC (top 39) 0
theorem o5:aq ["self","name","number"] ["self","name","number"] (ah gO):=by walk_at "s"
noncomputable abbrev ml:Stmt:=bC (top 39) 2
theorem xp:aq ["self","known","row","state"] ["self","known","row","state"] (ah ml):=by walk_at "s"
noncomputable abbrev kQ:Stmt:=bC (top 39) 3
theorem vH:aq ["self","known"] ["self","known"] (ah kQ):=by walk_at "s"
noncomputable abbrev gv:Stmt:=bC (top 40) 0
theorem om:aq ["self","name","wires"] ["self","name","wires"] (ah gv):=by walk_at "s"
noncomputable abbrev kO:Stmt:=bC (top 40) 3
theorem hU:aq ["self","known","row","state","total","wire"] ["self","known","row","state"] (ah kO):=by walk_at "s"
noncomputable abbrev jV:Stmt:=bC (top 40) 4
theorem cJ:aq ["self","known","store_mask","input_mask","wire","pair"] ["self","known"] (ah jV):=by walk_at "s"
noncomputable abbrev fE:Stmt:=bC (top 41) 0
theorem me:aq ["self","name","wire","number"] ["self","name","wire","number"] (ah fE):=by walk_at "s"
noncomputable abbrev iV:Stmt:=bC (top 41) 2
theorem r6:aq ["self","known","row","state"] ["self","known","row","state"] (ah iV):=by walk_at "s"
noncomputable abbrev il:Stmt:=bC (top 41) 3
theorem qg:aq ["self","known"] ["self","known"] (ah il):=by walk_at "s"
noncomputable abbrev iE:Stmt:=top 48
theorem vF:aq ["ins","sums","stores","outs"] ["ins","sums","stores","outs"] (ah iE):=by walk_at "s"
noncomputable abbrev kM:Stmt:=top 49
theorem jU:aq ["names","known","name"] ["names"] (ah kM):=by walk_at "s"
noncomputable abbrev mi:Stmt:=top 50
theorem xn:aq ["wire","known"] ["wire","known"] (ah mi):=by walk_at "s"
noncomputable abbrev kL:Stmt:=top 51
theorem fJ:aq ["sums","stores","outs","known","row","wire"] ["sums","stores","outs","known"] (ah kL):=by walk_at "s"
noncomputable abbrev cK:Stmt:=top 52
theorem lx:aq ["ins","sums","stores","wires"] ["ins","sums","stores"] (ah cK):=by walk_at "s"
noncomputable abbrev xq:Stmt:=top 53
theorem Jd:aq ["row","waiting"] ["row","waiting"] (ah xq):=by walk_at "s"
noncomputable abbrev mh:Stmt:=top 55
theorem iM:aq ["sums","names","left","waiting","ready"] ["sums"] (ah mh):=by walk_at "s"
noncomputable abbrev c6:Stmt:=bC (top 56) 0
theorem t9:aq ["self","ins","sums","stores","outs"] ["self","ins","sums","stores","outs"] (ah c6):=by walk_at "s"
noncomputable abbrev jY:Stmt:=bC (top 56) 1
theorem t4:aq ["self"] ["self"] (ah jY):=by walk_at "s"
noncomputable abbrev jX:Stmt:=bC (top 56) 2
theorem tZ:aq ["self"] ["self"] (ah jX):=by walk_at "s"
noncomputable abbrev ir:Stmt:=bC (top 56) 3
theorem qi:aq ["self"] ["self"] (ah ir):=by walk_at "s"
noncomputable abbrev iY:Stmt:=bC (top 56) 4
theorem r8:aq ["self"] ["self"] (ah iY):=by walk_at "s"
noncomputable abbrev qt:Stmt:=bC (top 56) 5
theorem Aq:aq ["self"] ["self"] (ah qt):=by walk_at "s"
noncomputable abbrev iq:Stmt:=bC (top 56) 6
theorem qh:aq ["self"] ["self"] (ah iq):=by walk_at "s"
noncomputable abbrev kP:Stmt:=bC (top 56) 7
theorem vG:aq ["self","name"] ["self","name"] (ah kP):=by walk_at "s"
noncomputable abbrev dH:Stmt:=bC (top 56) 9
theorem nD:aq ["self"] ["self"] (ah dH):=by walk_at "s"
noncomputable abbrev uh:Stmt:=top 61
theorem CO:aq ["thing","stores","inputs"] ["thing","stores","inputs"] (ah uh):=by walk_at "s"
noncomputable abbrev iD:Stmt:=top 62
theorem vE:aq ["inputs","nexts","outs"] ["inputs","nexts","outs"] (ah iD):=by walk_at "s"
noncomputable abbrev xr:Stmt:=top 63
theorem FC:aq ["pair","state","row"] ["pair","state","row"] (ah xr):=by walk_at "s"
noncomputable abbrev jF:Stmt:=top 64
theorem xk:aq ["pairs","state","row"] ["pairs","state","row"] (ah jF):=by walk_at "s"
noncomputable abbrev gw:Stmt:=bC (top 65) 0
theorem oq:aq ["self","inputs","nexts","outs"] ["self","inputs","nexts","outs"] (ah gw):=by walk_at "s"
noncomputable abbrev iw:Stmt:=bC (top 65) 1
theorem qj:aq ["self"] ["self"] (ah iw):=by walk_at "s"
noncomputable abbrev eF:Stmt:=bC (top 65) 4
theorem lR:aq ["self","state"] ["self","state"] (ah eF):=by walk_at "s"
noncomputable abbrev jZ:Stmt:=bC (top 65) 5
theorem ub:aq ["self","state","row"] ["self","state","row"] (ah jZ):=by walk_at "s"
noncomputable abbrev iu:Stmt:=bC (top 65) 6
theorem du:aq ["self","rows","state","answers","row","done"] ["self","rows","state"] (ah iu):=by walk_at "s"
noncomputable abbrev dy:Stmt:=bC (top 65) 8
theorem r9:aq ["self","rows","state"] ["self","rows","state"] (ah dy):=by walk_at "s"
noncomputable abbrev j2:Stmt:=bC (top 65) 10
theorem dw:aq ["self","mask","store_mask","input_mask","place"] ["self","mask"] (ah j2):=by walk_at "s"
noncomputable abbrev Au:Stmt:=top 67
theorem xl:aq ["net","pairs","name"] ["net"] (ah Au):=by walk_at "s"
noncomputable abbrev kb:Stmt:=top 68
theorem kH:aq ["net","pairs","nexts","outs"] ["net"] (ah kb):=by walk_at "s"
noncomputable abbrev o6:Stmt:=top 70
theorem CM:aq ["wires","wire","fresh"] ["wires","wire","fresh"] (ah o6):=by walk_at "s"
noncomputable abbrev s_cut:Stmt:=top 71
theorem FD:aq ["net","wire","fresh","sums","stores"] ["net","wire","fresh"] (ah s_cut):=by walk_at "s"
noncomputable abbrev mU:Stmt:=top 73
theorem Ap:aq ["words"] ["words"] (ah mU):=by walk_at "s"
noncomputable abbrev ud:Stmt:=top 74
theorem CK:aq ["text"] ["text"] (ah ud):=by walk_at "s"
noncomputable abbrev gb:Stmt:=top 75
theorem eE:aq ["text","rows","number","words","ins","sums","stores","outs"] ["text"] (ah gb):=by walk_at "s"
noncomputable abbrev fZ:Stmt:=top 76
theorem tV:aq ["net","rows"] ["net"] (ah fZ):=by walk_at "s"
noncomputable abbrev ou:Stmt:=top 78
theorem md:aq ["net","row","state","bits","name"] ["net","row","state"] (ah ou):=by walk_at "s"
noncomputable abbrev o7:Stmt:=top 79
theorem CN:aq ["wires","bits"] ["wires","bits"] (ah o7):=by walk_at "s"
noncomputable abbrev jW:Stmt:=bC (top 80) 0
theorem tY:aq ["self","net"] ["self","net"] (ah jW):=by walk_at "s"
noncomputable abbrev mW:Stmt:=bC (top 80) 1
theorem tX:aq ["self","row","answer"] ["self","row"] (ah mW):=by walk_at "s"
noncomputable abbrev oE:Stmt:=bC (top 80) 2
theorem yG:aq ["self"] ["self"] (ah oE):=by walk_at "s"
noncomputable abbrev oB:Stmt:=top 82
theorem yF:aq ["_law_script","_law_k"] ["_law_script","_law_k"] (ah oB):=by walk_at "s"
noncomputable abbrev qr:Stmt:=top 83
theorem oj:aq ["_law_cell_here","_law_k","_law_number"] ["_law_cell_here","_law_k"] (ah qr):=by walk_at "s"
noncomputable abbrev mj:Stmt:=top 84
theorem gq:aq ["_law_cell_here","_law_start","_law_many","_law_width","_law_digits","_law_found","_law_left","_law_k"] ["_law_cell_here","_law_start","_law_many","_law_width","_law_digits"] (ah mj):=by walk_at "s"
noncomputable abbrev oA:Stmt:=top 85
theorem dG:aq ["_law_cell_here","_law_k","_law_letters","_law_some"] ["_law_cell_here","_law_k"] (ah oA):=by walk_at "s"
noncomputable abbrev jG:Stmt:=top 86
theorem ff:aq ["_law_cell_here","_law_start","_law_names","_law_digits","_law_left","_law_found","_law_k","_law_many"] ["_law_cell_here","_law_start","_law_names","_law_digits"] (ah jG):=by walk_at "s"
noncomputable abbrev iO:Stmt:=top 87
theorem bu:aq ["_law_script","_law_start","_law_most","_law_cell_here","_law_sizes","_law_ins","_law_stores","_law_known","_law_sums","_law_k","_law_wires_here","_law_at","_law_ends","_law_name_here","_law_outs"] ["_law_script","_law_start","_law_most"] (ah iO):=by walk_at "s"
noncomputable abbrev oz:Stmt:=top 88
theorem yE:aq ["_law_cell_here","_law_many","_law_width"] ["_law_cell_here","_law_many","_law_width"] (ah oz):=by walk_at "s"
noncomputable abbrev qp:Stmt:=top 89
theorem kI:aq ["_law_number","_law_many"] ["_law_number"] (ah qp):=by walk_at "s"
noncomputable abbrev kN:Stmt:=top 90
theorem g9:aq ["_law_net_one","_law_rows_here","_law_run_one","_law_found","_law_row"] ["_law_net_one","_law_rows_here"] (ah kN):=by walk_at "s"
noncomputable abbrev fh:Stmt:=top 91
theorem gu:aq ["_law_net_one","_law_state","_law_states_here","_law_found","_law_mask"] ["_law_net_one","_law_state","_law_states_here"] (ah fh):=by walk_at "s"
noncomputable abbrev fC:Stmt:=top 92
theorem cn:aq ["_law_net_one","_law_rows_here","_law_wish","_law_turns","_law_cell_here","_law_start","_law_found","_law_later","_law_other"] ["_law_net_one","_law_rows_here","_law_wish","_law_turns","_law_cell_here"] (ah fC):=by walk_at "s"
noncomputable abbrev ij:Stmt:=top 93
theorem bZ:aq ["_law_net_one","_law_script","_law_start","_law_inputs","_law_rows_here","_law_states_here","_law_wish","_law_state","_law_turns"] ["_law_net_one","_law_script","_law_start"] (ah ij):=by walk_at "s"
noncomputable abbrev CV:Stmt:=top 94
theorem o4:aq ["_law_script","_law_lists","_law_net_one","_law_start","_law_names","_law_k","_law_cell_here","_law_fresh","_law_net_two"] ["_law_script"] (ah CV):=by walk_at "s"
noncomputable abbrev FR (K:PySem.W.Frag) (x q:Str) (st:Stmt) (f:Addr):Prop:=∃(Z:Value) (od:Option Addr) (kV O Y:Value) (an:Option Addr) (G ct:Value) (L:Array (Option Value)),K.lookup f=some ⟨Z,od,.func (PySem.W.fnOf x q (g6 st) (eT st) (ah st) .none kV O Y an G ct),L⟩/\PySem.W.codeIn K G q=true/\PySem.W.keepIn K (.ref f)=true
theorem FR.mk {K:PySem.W.Frag} {x q:Str} {st:Stmt} {f:Addr} {Z:Value} {od:Option Addr} {kV O Y:Value} {an:Option Addr} {G ct:Value} {L:Array (Option Value)} (h1:K.lookup f=some ⟨Z,od,.func (PySem.W.fnOf x q (g6 st) (eT st) (ah st) .none kV O Y an G ct),L⟩) (h2:PySem.W.codeIn K G q=true) (α:PySem.W.keepIn K (.ref f)=true):FR K x q st f:=⟨_,_,_,_,_,_,_,_,_,h1,h2,α⟩
structure FT (K:PySem.W.Frag) (x q:Str) (st:Stmt) (f:Addr) (d:FuncData) (ps:List Str):Prop where
 F:Fun K x q st f d
 b:nQ K d ps []
theorem FR.ok {K:PySem.W.Frag} {x q:Str} {st:Stmt} {f:Addr} {ps:List Str} (h:FR K x q st f) (g:∀(kV G O:Value) (an:Option Addr) (L ct:Value) (us:List Value),us.length=ps.length->bindArgs (PySem.W.fnOf x q (g6 st) (eT st) (ah st) .none kV G O an L ct) ⟨us,[]⟩=pure (ps.zip us)):∃d,FT K x q st f d ps:=by
 obtain⟨_,_,_,_,_,_,_,_,_,h1,h2,Y⟩:=h;have F:=KD (st:=st) h1 h2 Y;exact⟨_,F,F.binds g⟩
theorem aj {X:Cx} {CX:CXT} {k j:Nat} {f:Addr} {fd:FuncData} {ps:List Str} {sp:Sp} {E:XK} {x n q:Str} {st:Stmt} {p pos:Pos} {e:Expr} {es:List Expr} {t:TA} (F:FnOk X.prog X.w X.K X.mg X.base CX k f fd ps sp) (O:Room j X.A) (hm:X.mg x=some (.ref f)) (U:FT X.K n q st f fd ps)
  (ha:PA X (e::es) t) (Y:p9 CX X E:=by exact bO) (Z:k<=j:=by decide) (α:Gl X x:=by rfl) (L:(x == ("__debug__":Str))=false:=by decide) (he:starEach (e::es) X.env=(false,eval e X.env)::starEach es X.env:=by rfl) (G:(backTo pos (starEach es X.env)).any (·.1)=false:=by rfl):
  PE X (.Call (.Name x p) (e::es) [] pos) (E6 sp [] E t):=L8 F (O.mono Z) α hm U.1.2 U.2 .nil Y ha L he G
noncomputable abbrev NI (K:PySem.W.Frag) (x:Str) (f:Addr):Prop:=PySem.W.nsIn K mainGlobals x=some (some (.ref f))
noncomputable abbrev NN (K:PySem.W.Frag) (x:Str):Prop:=PySem.W.nsIn K mainGlobals x=some none
noncomputable abbrev FI (K:PySem.W.Frag) (c:Addr) (x:Str) (f:Addr):Prop:=PySem.W.findIn K (.ref c) x=some (some (.ref f))
noncomputable abbrev FN (K:PySem.W.Frag) (c:Addr) (x:Str):Prop:=PySem.W.findIn K (.ref c) x=some none
theorem bln1 {l:List PySem.Value} (h:l.length=1):∃a,l=[a]:=by match l,h with | [a],_=>exact ⟨a,rfl⟩
theorem bln2 {l:List PySem.Value} (h:l.length=2):∃a b,l=[a,b]:=by match l,h with | [a,b],_=>exact ⟨a,b,rfl⟩
theorem bln3 {l:List PySem.Value} (h:l.length=3):∃a b c,l=[a,b,c]:=by match l,h with | [a,b,c],_=>exact ⟨a,b,c,rfl⟩
theorem bln4 {l:List PySem.Value} (h:l.length=4):∃a b c d,l=[a,b,c,d]:=by match l,h with | [a,b,c,d],_=>exact ⟨a,b,c,d,rfl⟩
theorem bln5 {l:List PySem.Value} (h:l.length=5):∃a b c d e,l=[a,b,c,d,e]:=by match l,h with | [a,b,c,d,e],_=>exact ⟨a,b,c,d,e,rfl⟩
theorem bln6 {l:List PySem.Value} (h:l.length=6):∃a b c d e f,l=[a,b,c,d,e,f]:=by match l,h with | [a,b,c,d,e,f],_=>exact ⟨a,b,c,d,e,f,rfl⟩
theorem bln7 {l:List PySem.Value} (h:l.length=7):∃a b c d e f g,l=[a,b,c,d,e,f,g]:=by match l,h with | [a,b,c,d,e,f,g],_=>exact ⟨a,b,c,d,e,f,g,rfl⟩
local macro_rules | `(tactic| walk_at "b") =>`(tactic| first | (refine fun _ _ _ _ _ _ us hl=>?_;obtain ⟨_,hz⟩:=bln1 hl;subst hz;rfl) | (refine fun _ _ _ _ _ _ us hl=>?_;obtain ⟨_,_,hz⟩:=bln2 hl;subst hz;rfl) | (refine fun _ _ _ _ _ _ us hl=>?_;obtain ⟨_,_,_,hz⟩:=bln3 hl;subst hz;rfl) | (refine fun _ _ _ _ _ _ us hl=>?_;obtain ⟨_,_,_,_,hz⟩:=bln4 hl;subst hz;rfl) | (refine fun _ _ _ _ _ _ us hl=>?_;obtain ⟨_,_,_,_,_,hz⟩:=bln5 hl;subst hz;rfl) | (refine fun _ _ _ _ _ _ us hl=>?_;obtain ⟨_,_,_,_,_,_,hz⟩:=bln6 hl;subst hz;rfl) | (refine fun _ _ _ _ _ _ us hl=>?_;obtain ⟨_,_,_,_,_,_,_,hz⟩:=bln7 hl;subst hz;rfl))
abbrev n10:List Str:=["row"]
abbrev n11:List Str:=["words"]
abbrev n12:List Str:=["row","waiting"]
abbrev n13:List Str:=["text","rows","number","words","ins","sums","stores","outs"]
abbrev n14:List Str:=["net","rows"]
abbrev n15:List Str:=["ins","sums","stores","wires"]
abbrev n16:List Str:=["self","ins","sums","stores","outs"]
abbrev n17:List Str:=["row","wire","fresh"]
abbrev n18:List Str:=["_law_k","_law_cell_here"]
abbrev n19:List Str:=["place","pair","state","row"]
abbrev n20:List Str:=["_law_script","_law_start","_law_most","_law_cell_here","_law_sizes","_law_ins","_law_stores","_law_known","_law_sums","_law_k","_law_wires_here","_law_at","_law_ends","_law_name_here","_law_outs"]
abbrev n21:List Str:=["_law_k","_law_names","_law_cell_here","_law_start"]
set_option genInjectivity false in
set_option genSizeOf false in
structure Ad where
 fi:Addr
 ng:FuncData
 hX:Addr
 vm:FuncData
 jr:Addr
 zK:FuncData
 vh:Addr
 KM:FuncData
 jv:Addr
 zN:FuncData
 jl:Addr
 zH:FuncData
 gR:Addr
 wN:FuncData
 gS:Addr
 wO:FuncData
 bJ:Addr
 lK:FuncData
 bR:Addr
 mH:FuncData
 dU:Addr
 vp:FuncData
 bS:Addr
 mI:FuncData
 jf:Addr
 zC:FuncData
 oW:Addr
 Ht:FuncData
 oU:Addr
 Hq:FuncData
 jh:Addr
 zE:FuncData
 dN:Addr
 pR:FuncData
 jt:Addr
 zL:FuncData
 ju:Addr
 zM:FuncData
 cu:Addr
 dC:FuncData
 bz:Addr
 kq:FuncData
 cZ:Addr
 rO:FuncData
 cE:Addr
 p4:FuncData
 bo:Addr
 jN:FuncData
 cC:Addr
 pZ:FuncData
 b7:Addr
 nW:FuncData
 a9:Addr
 iC:FuncData
 bQ:Addr
 mG:FuncData
 bI:Addr
 lJ:FuncData
 dQ:Addr
 pV:FuncData
 dR:Addr
 pW:FuncData
 eO:Addr
 rL:FuncData
 dO:Addr
 pS:FuncData
 cP:Addr
 mF:FuncData
 oS:Addr
 Hn:FuncData
 jk:Addr
 zG:FuncData
 cc:Addr
 oa:FuncData
 cb:Addr
 nZ:FuncData
 b9:Addr
 nY:FuncData
 bL:Addr
 lM:FuncData
 bT:Addr
 mJ:FuncData
 fk:Addr
 w6:FuncData
 bK:Addr
 lL:FuncData
 cD:Addr
 p3:FuncData
 bg:Addr
 jw:FuncData
 jq:Addr
 zJ:FuncData
 dP:Addr
 pU:FuncData
 kZ:Addr
 B7:FuncData
 eM:Addr
 rK:FuncData
 bp:Addr
 jO:FuncData
 bN:Addr
 lO:FuncData
 aW:Addr
 hZ:FuncData
 cf:Addr
 og:FuncData
 bM:Addr
 lN:FuncData
 bG:Addr
 jx:FuncData
 vi:Value
 cj:Addr
 oh:FuncData
 oV:Addr
 Hr:FuncData
 gT:Addr
 wQ:FuncData
 ji:Addr
 zF:FuncData
 A8:Addr
 Pp:FuncData
 gX:Addr
 wV:FuncData
 jg:Addr
 zD:FuncData
 gW:Addr
 wU:FuncData
 gU:Addr
 wR:FuncData
 fV:Addr
 vk:FuncData
 jm:Addr
 zI:FuncData
 b8:Addr
 nX:FuncData
 fj:Addr
 w4:FuncData
 dW:Addr
 vq:FuncData
 fX:Addr
 vo:FuncData
 g5:Addr
 wZ:FuncData
 eR:Addr
 rN:FuncData
 eQ:Addr
 oX:FuncData
 eP:Addr
 rM:FuncData
 gZ:Addr
 wX:FuncData
 fW:Addr
 vn:FuncData
 gY:Addr
 wW:FuncData
 dS:Addr
 pX:FuncData
 b5:Addr
 ko:FuncData
 bD:Addr
 iB:FuncData
 cB:Addr
 lI:FuncData
 DY:Addr
 Po:FuncData
 bA:Addr
 p6:Addr
 aZ:Addr
 aK:Addr
 az:Addr
 cv:Addr
 ax:Addr
 fH:Addr
 vy:Addr
 dD:Addr
 iQ:Addr
 la:Addr
 tT:Tok
 jS:Tok
 kF:Tok
 qe:Tok
 fA:Tok
 ib:Tok
 eg:Tok
 gj:Tok
 oi:Tok
 l0:Tok
 lZ:Tok
 lY:Tok
open PySem.W in
structure Tx (K:Frag) (mg:Str->Option Value) (a:Ad):Prop where
 iS:FT K "is_whole" "is_whole" qm a.fi a.ng ["thing"]
 rn:mg "is_whole"=some (.ref a.fi)
 h9:FT K "is_mask" "is_mask" ui a.hX a.vm ["thing","width"]
 mE:mg "is_mask"=some (.ref a.hX)
 gI:FT K "is_name" "is_name" o8 a.jr a.zK ["thing"]
 kl:mg "is_name"=some (.ref a.jr)
 xc:FT K "even" "even" FG a.vh a.KM ["number"]
 GX:mg "even"=some (.ref a.vh)
 mP:FT K "bits_of" "bits_of" o9 a.jv a.zN ["mask"]
 zh:mg "bits_of"=some (.ref a.jv)
 kA:FT K "mask_of" "mask_of" ug a.jl a.zH ["places"]
 ve:mg "mask_of"=some (.ref a.jl)
 nj:FT K "words_of" "words_of" ql a.gR a.wN ["row"]
 DR:mg "words_of"=some (.ref a.gR)
 nq:FT K "unpacked" "unpacked" mT a.gS a.wO ["whole","width","count"]
 DS:mg "unpacked"=some (.ref a.gS)
 fT:FT K "__init__" "Steps.__init__" ip a.bJ a.lK ["self","rows"]
 dF:FT K "lowered" "Steps.lowered" iW a.bR a.mH ["self","mask"]
 jC:FT K "lay" "Steps.lay" oC a.dU a.vp ["self","place","row"]
 eX:FT K "barring" "Steps.barring" iX a.bS a.mI ["self","bit"]
 jz:FT K "sum_for" "sum_for" uc a.jf a.zC ["rows","wish"]
 pO:mg "sum_for"=some (.ref a.jf)
 yx:FT K "chain" "chain" s_chain a.oW a.Ht ["masks"]
 MA:mg "chain"=some (.ref a.oW)
 vD:FT K "reach" "reach" uf a.oU a.Hq ["machine","turns"]
 GU:mg "reach"=some (.ref a.oU)
 mL:FT K "rows_at" "rows_at" ue a.jh a.zE ["machine","places","turns"]
 ze:mg "rows_at"=some (.ref a.jh)
 iH:FT K "masks_ahead" "masks_ahead" kJ a.dN a.pR ["machine","mask"]
 yc:mg "masks_ahead"=some (.ref a.dN)
 jA:FT K "come_to" "come_to" uj a.jt a.zL ["machine","state"]
 zg:mg "come_to"=some (.ref a.jt)
 mO:FT K "brought" "brought" uk a.ju a.zM ["machine","start","wish","turns"]
 GY:mg "brought"=some (.ref a.ju)
 cQ:FT K "__init__" "Wire.__init__" iU a.cu a.dC ["self","name"]
 fz:FT K "__init__" "InWire.__init__" gO a.bz a.kq ["self","name","number"]
 ia:FT K "bit" "InWire.bit" ml a.cZ a.rO ["self","known","row","state"]
 gK:FT K "hang" "InWire.hang" kQ a.cE a.p4 ["self","known"]
 eB:FT K "__init__" "SumWire.__init__" gv a.bo a.jN ["self","name","wires"]
 gJ:FT K "bit" "SumWire.bit" kO a.cC a.pZ ["self","known","row","state"]
 fL:FT K "hang" "SumWire.hang" jV a.b7 a.nW ["self","known"]
 dq:FT K "__init__" "StoreWire.__init__" fE a.a9 a.iC ["self","name","wire","number"]
 eW:FT K "bit" "StoreWire.bit" iV a.bQ a.mG ["self","known","row","state"]
 d7:FT K "hang" "StoreWire.hang" il a.bI a.lJ ["self","known"]
 iK:FT K "check_sizes" "check_sizes" iE a.dQ a.pV ["ins","sums","stores","outs"]
 yf:mg "check_sizes"=some (.ref a.dQ)
 iL:FT K "check_names" "check_names" kM a.dR a.pW ["names"]
 yg:mg "check_names"=some (.ref a.dR)
 eV:FT K "check_wire" "check_wire" mi a.eO a.rL ["wire","known"]
 jM:mg "check_wire"=some (.ref a.eO)
 iI:FT K "check_wires" "check_wires" kL a.dO a.pS ["sums","stores","outs","known"]
 yd:mg "check_wires"=some (.ref a.dO)
 gH:FT K "wires_by_name" "wires_by_name" cK a.cP a.mF ["ins","sums","stores"]
 vc:mg "wires_by_name"=some (.ref a.cP)
 vC:FT K "waits" "waits" xq a.oS a.Hn ["row","waiting"]
 GS:mg "waits"=some (.ref a.oS)
 qb:FT K "ordered" "ordered" mh a.jk a.zG ["sums"]
 GV:mg "ordered"=some (.ref a.jk)
 di:FT K "__init__" "Net.__init__" c6 a.cc a.oa ["self","ins","sums","stores","outs"]
 bH:FT K "in_names" "Net.in_names" jY a.cb a.nZ ["self"]
 dh:FT K "sum_rows" "Net.sum_rows" jX a.b9 a.nY ["self"]
 bx:FT K "store_rows" "Net.store_rows" ir a.bL a.lM ["self"]
 bW:FT K "out_wires" "Net.out_wires" iY a.bT a.mJ ["self"]
 iT:FT K "told" "Net.told" qt a.fk a.w6 ["self"]
 cS:FT K "wire_names" "Net.wire_names" iq a.bK a.lL ["self"]
 bU:FT K "wire_of" "Net.wire_of" kP a.cD a.p3 ["self","name"]
 b6:FT K "names_by_need" "Net.names_by_need" dH a.bg a.jw ["self"]
 qc:FT K "is_pair" "is_pair" uh a.jq a.zJ ["thing","stores","inputs"]
 GW:mg "is_pair"=some (.ref a.jq)
 iJ:FT K "check_table" "check_table" iD a.dP a.pU ["inputs","nexts","outs"]
 ye:mg "check_table"=some (.ref a.dP)
 tP:FT K "is_odd" "is_odd" xr a.kZ a.B7 ["pair","state","row"]
 JL:mg "is_odd"=some (.ref a.kZ)
 h8:FT K "odd_places" "odd_places" jF a.eM a.rK ["pairs","state","row"]
 rJ:mg "odd_places"=some (.ref a.eM)
 eC:FT K "__init__" "Machine.__init__" gw a.bp a.jO ["self","inputs","nexts","outs"]
 cT:FT K "stores" "Machine.stores" iw a.bN a.lO ["self"]
 aR:FT K "check_state" "Machine.check_state" eF a.aW a.hZ ["self","state"]
 dj:FT K "step" "Machine.step" jZ a.cf a.og ["self","state","row"]
 d8:FT K "walked" "Machine.walked" iu a.bM a.lN ["self","rows","state"]
 eZ:FunD K "after" "Machine.after" dy a.bG a.jx a.vi
 jy:nQ K a.jx ["self","rows","state"] []
 fM:FT K "back" "Machine.back" j2 a.cj a.oh ["self","mask"]
 yw:FT K "hangs" "hangs" Au a.oV a.Hr ["net"]
 Mz:mg "hangs"=some (.ref a.oV)
 iR:FT K "table_of" "table_of" kb a.gT a.wQ ["net"]
 rm:mg "table_of"=some (.ref a.gT)
 ku:FT K "put_for" "put_for" o6 a.ji a.zF ["wires","wire","fresh"]
 vd:mg "put_for"=some (.ref a.ji)
 J9:FT K "cut" "cut" s_cut a.A8 a.Pp ["net","wire","fresh"]
 Qw:mg "cut"=some (.ref a.A8)
 ny:FT K "has_form" "has_form" mU a.gX a.wV ["words"]
 DV:mg "has_form"=some (.ref a.gX)
 qa:FT K "rows_of" "rows_of" ud a.jg a.zD ["text"]
 GT:mg "rows_of"=some (.ref a.jg)
 nv:FT K "read_net" "read_net" gb a.gW a.wU ["text"]
 DU:mg "read_net"=some (.ref a.gW)
 nu:FT K "show_net" "show_net" fZ a.gU a.wR ["net"]
 DT:mg "show_net"=some (.ref a.gU)
 lg:FT K "turn_bits" "turn_bits" ou a.fV a.vk ["net","row","state"]
 A3:mg "turn_bits"=some (.ref a.fV)
 mM:FT K "mask_at" "mask_at" o7 a.jm a.zI ["wires","bits"]
 zf:mg "mask_at"=some (.ref a.jm)
 hV:FT K "__init__" "Run.__init__" jW a.b8 a.nX ["self","net"]
 kB:FT K "step" "Run.step" mW a.fj a.w4 ["self","row"]
 g8:FT K "state" "Run.state" oE a.dW a.vq ["self"]
 df:FT K "_law_cell" "_law_cell" oB a.fX a.vo ["_law_script","_law_k"]
 fU:mg "_law_cell"=some (.ref a.fX)
 bj:FT K "_law_mix" "_law_mix" qr a.g5 a.wZ ["_law_cell_here","_law_k"]
 bF:mg "_law_mix"=some (.ref a.g5)
 jQ:FT K "_law_masks" "_law_masks" mj a.eR a.rN ["_law_cell_here","_law_start","_law_many","_law_width","_law_digits"]
 zj:mg "_law_masks"=some (.ref a.eR)
 dY:FT K "_law_name" "_law_name" oA a.eQ a.oX ["_law_cell_here","_law_k"]
 je:mg "_law_name"=some (.ref a.eQ)
 jP:FT K "_law_wires" "_law_wires" jG a.eP a.rM ["_law_cell_here","_law_start","_law_names","_law_digits"]
 zi:mg "_law_wires"=some (.ref a.eP)
 nC:FT K "_law_net" "_law_net" iO a.gZ a.wX ["_law_script","_law_start","_law_most"]
 DW:mg "_law_net"=some (.ref a.gZ)
 jB:FT K "_law_rows" "_law_rows" oz a.fW a.vn ["_law_cell_here","_law_many","_law_width"]
 vf:mg "_law_rows"=some (.ref a.fW)
 g7:FT K "_law_odd" "_law_odd" qp a.gY a.wW ["_law_number"]
 m9:mg "_law_odd"=some (.ref a.gY)
 ck:FT K "_law_states" "_law_states" kN a.dS a.pX ["_law_net_one","_law_rows_here"]
 dM:mg "_law_states"=some (.ref a.dS)
 fw:FT K "_law_come_right" "_law_come_right" fh a.b5 a.ko ["_law_net_one","_law_state","_law_states_here"]
 ro:mg "_law_come_right"=some (.ref a.b5)
 dn:FT K "_law_brought_right" "_law_brought_right" fC a.bD a.iB ["_law_net_one","_law_rows_here","_law_wish","_law_turns","_law_cell_here"]
 nJ:mg "_law_brought_right"=some (.ref a.bD)
 d6:FT K "_law_net_right" "_law_net_right" ij a.cB a.lI ["_law_net_one","_law_script","_law_start"]
 lG:mg "_law_net_right"=some (.ref a.cB)
 J8:Fun K "law" "law" CV a.DY a.Po
 MB:mg "Steps"=some (.ref a.bA)
 gL:Cls K a.bA
 MU:Mk K a.bA a.bJ
 mC:Meth K a.bA "lowered" a.bR
 AM:Meth K a.bA "lay" a.dU
 uE:Meth K a.bA "barring" a.bS
 d9:cx K a.bA "by_top"
 ja:cx K a.bA "free_places"
 jK:cx K a.bA "null_masks"
 GZ:mg "Wire"=some (.ref a.p6)
 JN:mg "InWire"=some (.ref a.aZ)
 lh:Cls K a.aZ
 J7:Mk K a.aZ a.bz
 yV:Meth K a.aZ "bit" a.cZ
 xS:Meth K a.aZ "hang" a.cE
 pJ:cx K a.aZ "name"
 jb:cx K a.aZ "number"
 G0:mg "SumWire"=some (.ref a.aK)
 jD:Cls K a.aK
 HW:Mk K a.aK a.bo
 xR:Meth K a.aK "bit" a.cC
 vT:Meth K a.aK "hang" a.b7
 nU:cx K a.aK "name"
 i9:cx K a.aK "wires"
 A4:mg "StoreWire"=some (.ref a.az)
 fc:Cls K a.az
 Bm:Mk K a.az a.a9
 uD:Meth K a.az "bit" a.bQ
 sC:Meth K a.az "hang" a.bI
 lD:cx K a.az "name"
 gD:cx K a.az "number"
 sA:cx K a.az "wire"
 JM:mg "Net"=some (.ref a.cv)
 bX:Cls K a.cv
 J6:Mk K a.cv a.cc
 dc:Meth K a.cv "in_names" a.cb
 j7:Meth K a.cv "sum_rows" a.b9
 cR:Meth K a.cv "store_rows" a.bL
 eL:Meth K a.cv "out_wires" a.bT
 wK:Meth K a.cv "told" a.fk
 lE:Meth K a.cv "wire_names" a.bK
 dJ:Meth K a.cv "wire_of" a.cD
 jd:Meth K a.cv "names_by_need" a.bg
 gE:cx K a.cv "by_name"
 pI:cx K a.cv "ins"
 dA:cx K a.cv "kept_stores"
 qL:cx K a.cv "outs"
 mB:cx K a.cv "sum_order"
 ki:cx K a.cv "sums"
 G1:mg "Machine"=some (.ref a.ax)
 bc:Cls K a.ax
 HX:Mk K a.ax a.bp
 lF:Meth K a.ax "stores" a.bN
 bP:Meth K a.ax "check_state" a.aW
 j8:Meth K a.ax "step" a.cf
 sD:Meth K a.ax "walked" a.bM
 uG:Meth K a.ax "after" a.bG
 vU:Meth K a.ax "back" a.cj
 fQ:cx K a.ax "inputs"
 dB:cx K a.ax "nexts"
 nV:cx K a.ax "outs"
 Qx:mg "Run"=some (.ref a.fH)
 lX:Cls K a.fH
 QF:Mk K a.fH a.b8
 DC:Meth K a.fH "step" a.fj
 uF:Meth K a.fH "state" a.dW
 m5:cx K a.fH "bits"
 uC:cx K a.fH "given"
 m4:cx K a.fH "held"
 mz:cx K a.fH "net"
 dC:KW K a.p6 "__init__" a.cu
 zq:mg "BadMask"=some (.ref a.dD)
 j9:excIn K a.dD [.type "ValueError",.type "Exception",.type "BaseException",.type "object"] "ValueError.__new__"=true
 nc:mg "BadTable"=some (.ref a.iQ)
 fY:excIn K a.iQ [.type "ValueError",.type "Exception",.type "BaseException",.type "object"] "ValueError.__new__"=true
 JO:mg "BadRow"=some (.ref a.la)
 oZ:excIn K a.la [.type "ValueError",.type "Exception",.type "BaseException",.type "object"] "ValueError.__new__"=true
 G2:mg "LETTERS"=some (.str "abcdefghijklmnopqrstuvwxyz" a.tT)
 wu:mg "LONGEST_NAME"=some (.int 6 a.jS)
 yh:mg "MOST_INPUTS"=some (.int 6 a.kF)
 DX:mg "MOST_INS"=some (.int 6 a.qe)
 nK:mg "MOST_OUTS_machines"=some (.int 6 a.fA)
 sY:mg "MOST_OUTS_nets"=some (.int 6 a.ib)
 lV:mg "MOST_STORES_machines"=some (.int 120 a.eg)
 pP:mg "MOST_STORES_nets"=some (.int 16 a.gj)
 A5:mg "MOST_SUMS"=some (.int 40 a.oi)
 zo:mg "MOST_TURNS"=some (.int 40 a.l0)
 zm:mg "MOST_WIRES"=some (.int 24 a.lZ)
 zk:mg "NAME_SIGNS"=some (.str "abcdefghijklmnopqrstuvwxyz0123456789" a.lY)
 Mi:mg "all"=none
 OY:mg "any"=none
 OX:mg "bool"=none
 KA:mg "dict"=none
 eK:mg "enumerate"=none
 Qt:mg "int"=none
 gf:mg "isinstance"=none
 fG:mg "len"=none
 kh:mg "list"=none
 gC:mg "range"=none
 Dz:mg "reversed"=none
 Jy:mg "sorted"=none
 Mh:mg "str"=none
 j6:mg "tuple"=none
section
variable {P:Program} {w:World} {K:PySem.W.Frag} {mg:Str->Option Value} {base:Heap} {a:Ad}
section
theorem oJ (T:Tx K mg a):FnOk P w K mg base CX0 1 a.fi a.ng ["thing"] (tG K):=by
 refine T.iS.1.okA Ao λL A outer s H vs Q E O h=>?_;obtain⟨x,k,rfl,hk,q⟩:=h;refine⟨_,((ai (aB (nT (aH (kr (K:=K) rfl) (by rfl) T.gf PyProof.Rows.boot_isinstance (aa (pv 0) (aa (qC (v:= .ty "int") (by rfl) T.Qt PyProof.Rows.boot_int rfl) ae))) (pj (OC (aH (kr (K:=K) rfl) (by rfl) T.gf PyProof.Rows.boot_isinstance (aa (pv 0) (aa (qC (v:= .ty "bool") (by rfl) T.OX PyProof.Rows.boot_bool rfl) ae))))))))),ar (σ':=[some _]) rfl ?_⟩;walk_at "l2";unfold EX at q;cases G:subB k "int"
 ·rw[G] at q;walk_at "l2";exact q
 ·rw[G] at q;walk_at "l2";exact q
local macro_rules | `(tactic| walk_at "l2step") =>`(tactic| ((with_reducible refine' eU ?e ?_);(case e=>walk_at "l2kind")))
theorem mZ (T:Tx K mg a):FnOk P w K mg base CX0 2 a.hX a.vm ["thing","width"] (Ai K):=by
 have G:FnOk P w K mg base CX0 1 a.fi a.ng ["thing"] (tG K):=oJ T;refine T.h9.1.okA CQ λY A outer s H vs Q E O h=>?_;obtain⟨x,k,wd,rfl,hk,q⟩:=h;refine⟨_,((ai (aB (nT (aj G O T.rn T.iS (aa (pv 0) ae)) (nT (fF Qr (pv 0) ag (aQ _)) (pj (fF Qq (oF (K:=K) rfl PySem.F.plainAttrs_int PySem.F.slot_int_bit_length PySem.F.type_int_bit_length oO (pv 0)) (pv 1) (aQ _)))))))),ar (σ':=[some _,some _]) rfl ?_⟩;walk_at "l2";cases x with
 | int i=>
   have hk:k="int":=hk;subst hk;walk_at "l2";have q:Q (.bl (decide (0<=i)&&decide (((Builtin.Int.intBits i:Nat):Int)<=wd))) H:=q;cases L:decide (0<=i)
   ·rw[L] at q;walk_at "l2";exact q
   ·rw[L] at q;walk_at "l2";exact q
 | bl b=>have hk:k="bool":=hk;subst hk;walk_at "l2";exact q
 | non=>have hk:k="NoneType":=hk;subst hk;walk_at "l2";exact q
 | str z=>have hk:k="str":=hk;subst hk;walk_at "l2";exact q
 | ref p=>
   rcases hk with ⟨rfl,_⟩ | ⟨rfl,_⟩ | ⟨rfl,_⟩<;>walk_at "l2"<;>exact q
 | _=>exact False.elim hk
local macro_rules | `(tactic| walk_at "l2step") =>`(tactic| ((with_reducible refine' h7 ?e ?_);(case e=>walk_at "l2kind")))
theorem AD (T:Tx K mg a):FnOk P w K mg base CX0 1 a.vh a.KM ["number"] Lp:=by
 refine T.xc.1.okA tW fun η A outer s H vs Q E θ h=>?_;obtain⟨m,rfl,hm,q⟩:=h
 refine⟨_,((af (aA (i:=1) tW.nd rfl (by walk_at "o") (oF (K:=K) rfl PySem.F.plainAttrs_int PySem.F.slot_int_bit_length PySem.F.type_int_bit_length oO (pv 0)))
  (af (pf PassesOwn.never (aI oH (pv 1) ag (aQ _)) (af (aA (i:=2) tW.nd rfl (by walk_at "o") (au uq (au bY (pv 1) ag) ag))
  (af (aA (i:=0) tW.nd rfl (by walk_at "o") (au i0 (au yO (pv 0) (pv 2)) (au ly (pv 0) (au rD (au jH ag (pv 2)) ag))))
  (ai (aA (i:=1) tW.nd rfl (by walk_at "o") (pv 2))))))
  (ai (aB (fF fK (pv 0) ag (aQ _))))))),ar (σ':=[some _,none,none]) rfl ?_⟩
 walk_at "l2";refine⟨fun μ σ' H'=>∃n hf,σ'=[some (nat n),some (nat μ),hf]/\H'=H/\n < 2 ^ μ/\μ<=1000/\M.od n=M.od m,⟨Builtin.Int.intBits (m:Int),m,none,rfl,rfl,Bc m,Bd hm,rfl⟩,?_⟩;rintro μ σ' H' ⟨n,hf,rfl,rfl,hn,hw,β⟩;walk_at "l2";refine iteB (λO=>?_) (λO=>?_)
 ·have O:=of_decide_eq_true O;have Z:(μ + 1) / 2 < μ:=by omega
  refine⟨λG H2=>∃L hf,G=[some (nat L),some (nat ((μ + 1) / 2)),hf]/\H2=H'/\L < 2 ^ ((μ + 1) / 2)/\M.od L=M.od m,λG H2 ⟨L,α,ζ,ε,δ,γ⟩=>⟨(μ + 1) / 2,Z,L,α,ζ,ε,δ,by omega,γ⟩,?_⟩;walk_at "l2";refine⟨(n>>>((μ + 1) / 2))^^^(n&&&(2 ^ ((μ + 1) / 2) - 1)),some (nat ((μ + 1) / 2)),?_,rfl,M.fold_lt μ _ n hn (by omega),?_⟩
  ·rw[GQ,G9]
  ·rw[<-β];have f:=M.pb_fold μ ((μ + 1) / 2) n (by omega) hn (by omega);show M.pb 1000 _=M.pb 1000 _;rw[M.pb_up (M.fold_lt μ _ n hn (by omega)) (by omega),f,<-M.pb_up hn hw]
 ·have O:=of_decide_eq_false O;have Y:n < 2:=lt_of_lt_of_le hn (pow_le_pow_right (by decide) (show μ<=1 by omega));walk_at "l2";rw[show decide (V.int (n:Int)=V.int 0)= !M.od n from Jx Y,β];exact q
theorem sh (T:Tx K mg a):FnOk P w K mg base CX0 2 a.bS a.mI ["self","bit"] (Nz a.bA):=by
 refine T.eX.1.okA fO λa0 A outer s H vs Q E ο h=>?_;obtain⟨p,d,f,n,rows,b,rfl,st,hb,η,ω,θ,q⟩:=h;have υ:=oR ο;obtain⟨dx,ho⟩:=st.ho;obtain⟨es,hd,ht,g,l⟩:=st.he;have nd:(es.map λe=>e.m.log2).Nodup:=by have:=g.nd;rw[map_map] at this;exact this
 refine⟨_,((af (aA (i:=2) fO.nd rfl (by walk_at "o") (au jH ag (pv 1)))
  (af (dz PassesOwn.never rfl (aU (K:=K) rfl (aH (El rfl) (by rfl) T.Jy PyProof.Rows.boot_sorted (aa (aM (K:=K) rfl (pv 0) rfl) ae))) (aw (i:=3) fO.nd rfl (by walk_at "o")) (ai (cG (gx (eu (aj (AD T) ο T.GX T.xc (aa (au ly (pv 2) (aD (av (K:=K) rfl) (mq υ (aM (K:=K) rfl (pv 0) rfl) (pv 3) (λ_ _=>rfl)) ag (λ_ _=>rfl))) ae)))) (ai (aA (i:=2) fO.nd rfl (by walk_at "o") (au i0 (pv 2) (au jH ag (pv 3))))) aV)))
  (ai (aB (pv 2)))))),ar (σ':=[some _,some _,none,none]) rfl ?_⟩
 walk_at "l2";refine aJ ho T.gL T.d9 rfl ?_;walk_at "l2";refine LF hd (JE es) (by unfold pN;rw[length_map];omega) λL ns H1 f1 β ρ χ hw=>?_;obtain⟨ts,rfl,up,mem⟩:=Af χ hw nd;rw[<-Mg] at ρ;walk_at "l2";rw[shl1];refine gF (xs:=ts.map nat) (λi σ H'=>∃(m:Nat) (v:Option V),σ=[some (.ref p),some (nat b),some (nat m),v]/\H'=H1/\M.BarI (es.map λe=>(e.m,e.p)) (ts.take i) b m) ⟨2 ^ b,none,rfl,rfl,M.BarI.zero _ b⟩ (λi σ H' _ ⟨_,_,_,e,_⟩=>by rw[e];exact SqL.of ρ) ?_ ?_
 ·rintro i y σ H' τ ⟨m,v,rfl,rfl,I⟩;obtain⟨t,O,rfl⟩:=aF τ;obtain⟨hi,ξ⟩:=List.getElem?_eq_some_iff.mp O;rcases tS es (t:Int) with ⟨e,he,γ,ev⟩ | ⟨ι,_⟩
  ·have γ:e.m.log2=t:=by omega
   subst γ;have G:(e.m,e.p)∈es.map (λe=>(e.m,e.p)):=mem_map.mpr ⟨e,he,rfl⟩;have α:e.m < 2 ^ 1000:=M.span_lt η (g.span G);have ζ:e.m.log2 < 1000:=M.log2_under (g.nz _ G) α;have φ:=β.get (ht e he)
   have ε:∀t∈ts.take i,t < e.m.log2:=λt hm=>by
    obtain⟨j,ψ,π⟩:=mem_iff_getElem.mp hm;rw[length_take] at ψ;rw[List.getElem_take] at π;have:=List.pairwise_iff_getElem.mp up j i (by omega) hi (by omega);rw[π,ξ] at this;exact this
   have δ:e.m.log2≠b:=θ e.m (g.span G) (g.nz _ G);have Y:=g.nd;walk_at "l2";refine aJ (β.get ho) T.gL T.d9 rfl ?_;walk_at "l2";refine FJ (β.get hd) ev ?_;walk_at "l2";rw[dE];refine⟨m&&&e.m,rfl,lt_of_le_of_lt and_le_right α,?_⟩;cases Z:M.od (m&&&e.m) with
   | true=>
     walk_at "l2";refine⟨m^^^2 ^ e.m.log2,some (nat e.m.log2),by rw[shl1,cI],rfl,?_⟩;rw[take_succ O];exact I.flip (e:=(e.m,e.p)) Y g.nz G Z ε δ ζ
   | false=>
     walk_at "l2";rw[take_succ O];exact I.keep (e:=(e.m,e.p)) Y G Z
  ·obtain⟨e,he,γ⟩:=(mem t).mp (mem_of_getElem? O);exact absurd (by rw[γ]) (ι e he)
 ·rintro σ H' ⟨m,v,rfl,rfl,I⟩;rw[length_map,take_length] at I;walk_at "l2";refine q m H' β (I.done g λe he=>?_);obtain⟨e',ν,rfl⟩:=mem_map.mp he;exact(mem _).mpr ⟨e',ν,rfl⟩
theorem wJ (T:Tx K mg a):FnOk P w K mg base CX0 1 a.jv a.zN ["mask"] Lr:=by
 refine T.mP.1.okA CU λL A outer s H vs Q E O h=>?_;obtain⟨m,rfl,hm,q⟩:=h;have hb:=Bd hm;refine⟨_,((ai (aB (cy (osc:=ah o9) (ON:=["mask"]) (N:=["place","mask"]) (n:=1) (fx:=[0]) rfl rfl rfl (by decide +kernel) (cV (by rfl) T.gC (aa (oF (K:=K) rfl PySem.F.plainAttrs_int PySem.F.slot_int_bit_length PySem.F.type_int_bit_length oO (pv 0)) ae)) (aS (by decide)) (λ_ _ _ _ _=>⟨(aw (i:=0) (show List.Nodup (["place","mask"]:List Str) from by decide +kernel) rfl (by walk_at "o")),(iZ (aI fK (au ly (au yO (pv 1) (pv 0)) ag) ag (aQ _))),(pv 0)⟩))))),ar (σ':=[some _]) rfl ?_⟩;walk_at "l2";intro D G;refine gh (λi ys H'=>Cs (λi ys=>ys=(M.pl i m).map nat) H D i ys H') (Cs.zero G rfl) (λi ys H' hi c=>?_) (λys H' c=>?_)
 ·walk_at "l2";rw[Cd];by_cases ht:m.testBit i=true
  ·rw[if_pos ht];walk_at "l2";refine Cs.put G c.same c.at' c.len (by omega) ?_;rw[c.pv,M.pl_next,if_pos ht,map_append,Int.zero_add];rfl
  ·rw[if_neg ht];walk_at "l2";refine Cs.skip c.same c.at' c.len ?_;rw[c.pv,M.pl_next,if_neg ht,append_nil]
 ·have e:=c.pv;rw[Int.toNat_natCast] at e;refine q D H' G c.same ?_;rw[c.at',e,M.pl_up (Bc m) hb]
theorem qF (T:Tx K mg a):FnOk P w K mg base CX0 1 a.jl a.zH ["places"] Fk:=by
 refine T.kA.1.okA mR λO A outer s H vs Q E Y h=>?_;obtain⟨r,ps,rfl,L,hl,q⟩:=h
 refine⟨_,((af (aA (i:=1) mR.nd rfl (by walk_at "o") ag)
  (af (dz PassesOwn.never rfl (aU (K:=K) rfl (pv 0)) (aw (i:=2) mR.nd rfl (by walk_at "o")) (ai (aA (i:=1) mR.nd rfl (by walk_at "o") (au i0 (pv 1) (au jH ag (pv 2))))))
  (ai (aB (pv 1)))))),ar (σ':=[some _,none,none]) rfl ?_⟩
 walk_at "l2";refine gF (xs:=ps.map nat) (λi σ H'=>∃v,σ=[some (.ref r),some (nat (M.xm (ps.take i))),v]/\H'=H) ⟨none,rfl,rfl⟩ (λi σ H' _ ⟨_,_,e⟩=>by rw[e];exact SqL.of L) ?_ ?_
 ·rintro i y σ H' G ⟨v,rfl,rfl⟩;obtain⟨k,hk,rfl⟩:=aF G;have:=hl k (mem_of_getElem? hk);walk_at "l2";refine⟨some (nat k),?_,rfl⟩;rw[shl1,cI,K3 hk]
 ·rintro σ H' ⟨v,rfl,rfl⟩;rw[length_map,take_length];walk_at "l2";exact q
end
theorem iP (T:Tx K mg a):FnOk P w K mg base CX0 1 a.jr a.zK ["thing"] (Fj K):=by
 refine T.gI.1.okA CP fun α A outer s H vs Q E β h=>?_;obtain⟨x,k,rfl,hk,hz,q⟩:=h;have L:=q H (Same.refl H)
 refine⟨_,((af (cG (PW.pt (qy (gx (eu (aH (kr (K:=K) rfl) (by rfl) T.gf PyProof.Rows.boot_isinstance (aa (pv 0) (aa (qC (v:= .ty "str") (by rfl) T.Mh PyProof.Rows.boot_str rfl) ae))))) (qy (aI fK (pv 0) bq (aQ _)) (pe (aI oH (aH (aP (K:=K) rfl) (by rfl) T.fG PySem.boot_len (aa (pv 0) ae)) (iy (v:= .int 6) (by rfl) T.wu ⟨_,rfl⟩) (aQ _)))))) (ai (aB pA)) aV)
  (ai (aB (nT (fF yR (aD GJ (pv 0) ag (λ_ _=>rfl)) (iy (v:= .str "abcdefghijklmnopqrstuvwxyz") (by rfl) T.G2 ⟨_,rfl⟩) (by rfl)) (pj (aH (vw (K:=K) rfl rfl) (by rfl) T.Mi PyProof.Rows.boot_all (aa (cy (osc:=ah o8) (ON:=["thing"]) (N:=["sign"]) (n:=1) (fx:=[]) rfl rfl rfl (by decide +kernel) (OA (pv 0)) (aS (by decide)) (λ_ _ _ _ _=>⟨(aw (i:=0) (show List.Nodup (["sign"]:List Str) from by decide +kernel) rfl (by walk_at "o")),bB,(fF yR (pv 0) (iy (v:= .str "abcdefghijklmnopqrstuvwxyz0123456789") (by rfl) T.zk ⟨_,rfl⟩) (by rfl))⟩)) ae)))))))),ar (σ':=[some _]) rfl ?_⟩
 walk_at "l2";cases x with
 | int i=>have hk:k="int":=hk;subst hk;walk_at "l2";exact L
 | bl b=>have hk:k="bool":=hk;subst hk;walk_at "l2";exact L
 | non=>have hk:k="NoneType":=hk;subst hk;walk_at "l2";exact L
 | ref p=>rcases hk with ⟨rfl,_⟩ | ⟨rfl,_⟩ | ⟨rfl,_⟩<;>walk_at "l2"<;>exact L
 | str z=>
   have hk:k="str":=hk;subst hk;have hz:=hz z rfl;have hs:z.length<=sizeLine:=le_of_lt (aE hz);have q:∀H',Same H H'->Q (.bl (nm z.cps.toList)) H':=q;have L:=q H (Same.refl H);walk_at "l2";by_cases h1:z=""
   ·rw[Ag.mp h1] at L;refine kK (by rw[decide_eq_true];rw[h1]) ?_;walk_at "l2";exact L
   ·refine ie (by rw[decide_eq_false];exactλz=>h1 (V.str.inj z)) ?_;walk_at "l2"
    obtain⟨c,r,G⟩:∃c r,z.cps.toList=c::r:=by
     cases hl:z.cps.toList with
     | nil=>exact absurd (Ag.mpr hl) h1
     | cons c r=>exact⟨c,r,rfl⟩
    have O:=m8 z;rw[G] at L O;have q:∀H',Same H H'->Q (.bl (decide ((c::r).length<=6)&&low c&&(c::r).all λc=>low c||fig c)) H':=λH' s=>by have:=q H' s;rw[G] at this;exact this
    by_cases h2:(6:Int) < z.length
    ·refine kK (decide_eq_true h2) ?_;walk_at "l2";have:=q H (Same.refl H);rw[decide_eq_false (show ¬(c::r).length<=6 by omega)] at this;exact this
    ·refine ie (decide_eq_false h2) ?_;rw[decide_eq_true (show(c::r).length<=6 by omega)] at q;walk_at "l2";refine LK hs (c:=c) (by rw[G];exact fI (j:=0) rfl) ?_;walk_at "l2";rw[StrLaws.found_one,memL];cases Y:low c
     ·rw[Y] at q;walk_at "l2";exact q H (Same.refl H)
     ·rw[Y] at q;walk_at "l2";intro D f;refine JZ (Cs (λi ys=>ys=(((c::r).take i).map λc=>low c||fig c).map V.bl) H D) (Cs.zero f rfl) (λi d ys H' hd ⟨e,s,at',len⟩=>?_) (λys H' ⟨e,s,at',len⟩=>?_)
      ·have hi:i < z.cps.size:=(Array.getElem?_eq_some_iff.mp hd).1;have Z:(c::r)[i]? =some d:=by rw[<-G];simpa using hd
       walk_at "l2";rw[StrLaws.found_one,memN];refine Cs.put f s at' len (by have:z.cps.size=z.length:=rfl;omega) ?_;rw[e,List.take_succ,Z,map_append,map_append];rfl
      ·have hsz:z.cps.size=(c::r).length:=O.symm;rw[hsz,take_length] at e;refine BB (SqL.of (by rw[at',e])) ?_;have:=q H' s;rw[List.all_map];exact this
 | _=>exact False.elim hk
theorem iz (T:Tx K mg a):FnOk P w K mg base CX0 1 a.cu a.dC ["self","name"] (IU K):=by
 refine T.cQ.1.okA rZ λO A outer s H vs Q E Y h=>?_;obtain⟨x,C,dx,nm,rfl,L,hn,G,q⟩:=h;refine⟨_,((ai (cM (K:=K) rfl (pv 0) (pv 1) rfl))),ar (σ':=[some _,some _]) rfl ?_⟩;walk_at "l2";exact cL G L hn (by decide) rfl q
theorem pE (T:Tx K mg a):FnOk P w K mg base CX0 2 a.bz a.kq ["self","name","number"] (IT a.aZ):=by
 refine T.fz.1.okA o5 λY A outer s H vs Q E O h=>?_;obtain⟨x,dx,nm,k,rfl,L,q⟩:=h
 refine⟨_,((af (be (uo (by rfl) T.GZ T.dC (iz T) (O.mono (by decide)) T.cQ.2 .nil bO (aa (pv 0) (aa (pv 1) ae))))
  (ai (cM (K:=K) rfl (pv 0) (pv 2) rfl)))),ar (σ':=[some _,some _,some _]) rfl ?_⟩
 walk_at "l2";refine⟨x,_,dx,nm,rfl,T.lh,T.pJ,L,λH2 u=>?_⟩;walk_at "l2";exact cL u.at' T.lh T.jb (by show 1 < 1000;decide) rfl λZ G=>q Z (u.trans G)
theorem my (T:Tx K mg a):FnOk P w K mg base CX0 2 a.a9 a.iC ["self","name","wire","number"] (IS a.az):=by
 refine T.dq.1.okA me λZ A outer s H vs Q E Y h=>?_;obtain⟨x,dx,nm,wr,k,rfl,O,q⟩:=h
 refine⟨_,((af (be (uo (by rfl) T.GZ T.dC (iz T) (Y.mono (by decide)) T.cQ.2 .nil bO (aa (pv 0) (aa (pv 1) ae))))
  (af (cM (K:=K) rfl (pv 0) (pv 2) rfl)
  (ai (cM (K:=K) rfl (pv 0) (pv 3) rfl))))),ar (σ':=[some _,some _,some _,some _]) rfl ?_⟩
 walk_at "l2";refine⟨x,_,dx,nm,rfl,T.fc,T.lD,O,λH2 u=>?_⟩;walk_at "l2";refine cL u.at' T.fc T.sA (by show 1 < 1000;decide) rfl fun β G=>?_;walk_at "l2";exact cL G.at' T.fc T.gD (by show 2 < 1000;decide) rfl fun α L=>q α ((u.trans G).trans L)
theorem oK (T:Tx K mg a):FnOk P w K mg base CX0 2 a.bo a.jN ["self","name","wires"] (Ft K a.aK):=by
 refine T.eB.1.okA om fun β A outer s H vs Q E α h=>?_;obtain⟨x,dx,nm,Y,ws,rfl,hw,L,q⟩:=h;have G:Y≠x:=b4 hw L λz=>by cases z
 refine⟨_,((af (be (uo (by rfl) T.GZ T.dC (iz T) (α.mono (by decide)) T.cQ.2 .nil bO (aa (pv 0) (aa (pv 1) ae))))
  (ai (cM (K:=K) rfl (pv 0) (bw (dX (K:=K) rfl) (by rfl) T.j6 PyProof.Rows.boot_tuple (aa (pv 2) ae)) rfl)))),ar (σ':=[some _,some _,some _]) rfl ?_⟩
 walk_at "l2";refine⟨x,_,dx,nm,rfl,T.jD,T.nU,L,λH2 u=>?_⟩;have Z:=u.oth _ _ G hw;walk_at "l2";exact cL u.at' T.jD T.i9 (by show 1 < 1000;decide) rfl fun γ O=>q γ (u.trans O)
theorem xJ (T:Tx K mg a):FnOk P w K mg base CX0 1 a.cZ a.rO ["self","known","row","state"] (Lw a.aZ):=by
 refine T.ia.1.okA xp λL A outer s H vs Q E Y h=>?_;obtain⟨p,dx,nm,k,O,row,st,rfl,G,Z,q⟩:=h;refine⟨_,((ai (aB (au ly (au yO (pv 2) (aM (K:=K) rfl (pv 0) rfl)) ag)))),ar (σ':=[some _,some _,some _,some _]) rfl ?_⟩;walk_at "l2";refine aJ G T.lh T.jb rfl ?_;walk_at "l2";exact q
theorem sg (T:Tx K mg a):FnOk P w K mg base CX0 1 a.bQ a.mG ["self","known","row","state"] (Lu a.az):=by
 refine T.eW.1.okA r6 λL A outer s H vs Q E Y h=>?_;obtain⟨p,dx,nm,wr,k,O,row,st,rfl,G,Z,q⟩:=h;refine⟨_,((ai (aB (au ly (au yO (pv 3) (aM (K:=K) rfl (pv 0) rfl)) ag)))),ar (σ':=[some _,some _,some _,some _]) rfl ?_⟩;walk_at "l2";refine aJ G T.fc T.gD rfl ?_;walk_at "l2";exact q
theorem vO (T:Tx K mg a):FnOk P w K mg base CX0 1 a.cC a.pZ ["self","known","row","state"] (Lv K a.aK):=by
 refine T.gJ.1.okA hU λZ A outer s H vs Q E O h=>?_;obtain⟨p,dx,nm,α,d,ws,kvs,f,row,st,rfl,Y,ht,hd,hf,q⟩:=h;have L:=oR O
 refine⟨_,((af (aA (i:=4) hU.nd rfl (by walk_at "o") ag)
  (af (dz PassesOwn.never rfl (kS (K:=K) rfl (aM (K:=K) rfl (pv 0) rfl)) (aw (i:=5) hU.nd rfl (by walk_at "o")) (ai (aA (i:=4) hU.nd rfl (by walk_at "o") (au i0 (pv 4) (mq L (pv 1) (pv 5) (λ_ _=>rfl))))))
  (ai (aB (pv 4)))))),ar (σ':=[some _,some _,some _,some _,none,none]) rfl ?_⟩
 walk_at "l2";refine aJ Y T.jD T.i9 rfl ?_;walk_at "l2";refine rp (λi σ H2=>∃v,σ=[some (.ref p),some (.ref d),some (.int row),some (.int st),some (.int (((ws.take i).map f).foldl Builtin.bitXor 0)),v]/\H2=H) ⟨none,rfl,rfl⟩ (λi σ H2 _ ⟨v,_,e⟩=>by rw[e];exact ht) ?_ ?_
 ·rintro i x σ H2 G ⟨v,rfl,rfl⟩;obtain⟨z,hz,rfl⟩:=aF G;walk_at "l2";refine qo hd (hf z (mem_of_getElem? hz)) ?_;walk_at "l2";exact⟨_,by rw[vg hz],rfl⟩
 ·rintro σ H2 ⟨v,rfl,rfl⟩;walk_at "l2";rw[length_map,take_length];exact q
theorem vP (T:Tx K mg a):FnOk P w K mg base CX0 1 a.cE a.p4 ["self","known"] (IY a.aZ):=by
 refine T.gK.1.okA vH λL A outer s H vs Q E Y h=>?_;obtain⟨p,dx,nm,k,O,rfl,G,Z,h1,q⟩:=h;refine⟨_,((ai (aB (dk (aa ag (aa (au jH ag (aM (K:=K) rfl (pv 0) rfl)) ae)))))),ar (σ':=[some _,some _]) rfl ?_⟩;walk_at "l2";refine aJ G T.lh T.jb rfl ?_;walk_at "l2";exactλt H2 _ s e=>q t H2 s e
theorem qG (T:Tx K mg a):FnOk P w K mg base CX0 1 a.bI a.lJ ["self","known"] (IW a.az):=by
 refine T.d7.1.okA qg λL A outer s H vs Q E Y h=>?_;obtain⟨p,dx,nm,wr,k,O,rfl,G,Z,h1,q⟩:=h;refine⟨_,((ai (aB (dk (aa (au jH ag (aM (K:=K) rfl (pv 0) rfl)) (aa ag ae)))))),ar (σ':=[some _,some _]) rfl ?_⟩;walk_at "l2";refine aJ G T.fc T.gD rfl ?_;walk_at "l2";exactλt H2 _ s e=>q t H2 s e
theorem ur (T:Tx K mg a):FnOk P w K mg base CX0 1 a.b7 a.nW ["self","known"] (IX K a.aK):=by
 refine T.fL.1.okA cJ fun γ A outer s H vs Q E α h=>?_;obtain⟨p,dx,nm,ε,d,ws,kvs,f,g,rfl,β,ht,hd,hf,q⟩:=h;have Y:=oR α
 refine⟨_,((af (aA (i:=2) cJ.nd rfl (by walk_at "o") ag)
  (af (aA (i:=3) cJ.nd rfl (by walk_at "o") ag)
  (af (dz PassesOwn.never rfl (kS (K:=K) rfl (aM (K:=K) rfl (pv 0) rfl)) (aw (i:=4) cJ.nd rfl (by walk_at "o")) (af (aA (i:=5) cJ.nd rfl (by walk_at "o") (mq Y (pv 1) (pv 4) (λ_ _=>rfl)))
  (af (aA (i:=2) cJ.nd rfl (by walk_at "o") (au i0 (pv 2) (aD (av (K:=K) rfl) (pv 5) ag (λ_ _=>rfl))))
  (ai (aA (i:=3) cJ.nd rfl (by walk_at "o") (au i0 (pv 3) (aD (av (K:=K) rfl) (pv 5) ag (λ_ _=>rfl))))))))
  (ai (aB (dk (aa (pv 2) (aa (pv 3) ae))))))))),ar (σ':=[some _,some _,none,none,none,none]) rfl ?_⟩
 walk_at "l2";refine aJ β T.jD T.i9 rfl ?_;walk_at "l2";refine rp (λi σ H2=>∃v G,σ=[some (.ref p),some (.ref d),some (.int (((ws.take i).map f).foldl Builtin.bitXor 0)),some (.int (((ws.take i).map g).foldl Builtin.bitXor 0)),v,G]/\H2=H) ⟨none,none,rfl,rfl⟩ (λi σ H2 _ ⟨v,G,_,e⟩=>by rw[e];exact ht) ?_ ?_
 ·rintro i x σ H2 O ⟨v,G,rfl,rfl⟩;obtain⟨z,hz,rfl⟩:=aF O;obtain⟨t,L,Z⟩:=hf z (mem_of_getElem? hz);walk_at "l2";refine qo hd L ?_;walk_at "l2";exact⟨_,_,by rw[vg hz,vg hz],rfl⟩
 ·rintro σ H2 ⟨v,G,rfl,rfl⟩;walk_at "l2";rw[length_map,take_length];exactλt δ _ s e=>q t δ s e
section
local macro_rules | `(tactic| walk_at "l2step") =>`(tactic| first | ((with_reducible refine' eU ?e ?_);(case e=>walk_at "l2kind")) | ((with_reducible refine' h7 ?e ?_);(case e=>walk_at "l2kind")) | (with_reducible refine cU ?_) | (with_reducible refine fB ?_))
theorem vM (T:Tx K mg a):FnOk P w K mg base CX0 1 a.dQ a.pV ["ins","sums","stores","outs"] Fv:=by
 refine T.iK.1.okA vF fun β A outer s H vs Q E γ h=>?_;obtain⟨i,s,t,o,rs,qs,N,rfl,hn,g,q⟩:=h;have hi:=hn.i;have hs:=hn.s;have ht:=hn.t;have ho:=hn.o;have li:=g.li;have ls:=g.ls;have lt:=g.lt;have lo:=g.lo;have Y:rs.length=N.sums.length:=by rw[<-hn.es,length_map]
 have Z:qs.length=N.sts.length:=by rw[<-hn.et,length_map]
 refine⟨_,((af (cG (aI oH (aH (aP (K:=K) rfl) (by rfl) T.fG PySem.boot_len (aa (pv 0) ae)) (iy (v:= .int 6) (by rfl) T.DX ⟨_,rfl⟩) (aQ _)) (ai gP) aV)
  (af (cG (aI oH (aH (aP (K:=K) rfl) (by rfl) T.fG PySem.boot_len (aa (pv 1) ae)) (iy (v:= .int 40) (by rfl) T.A5 ⟨_,rfl⟩) (aQ _)) (ai gP) aV)
  (af (cG (aI oH (aH (aP (K:=K) rfl) (by rfl) T.fG PySem.boot_len (aa (pv 2) ae)) (iy (v:= .int 16) (by rfl) T.pP ⟨_,rfl⟩) (aQ _)) (ai gP) aV)
  (af (cG (aI oH (aH (aP (K:=K) rfl) (by rfl) T.fG PySem.boot_len (aa (pv 3) ae)) (iy (v:= .int 6) (by rfl) T.sY ⟨_,rfl⟩) (aQ _)) (ai gP) aV)
  (ai (cG (eu (aH (zR (K:=K) rfl rfl) (by rfl) T.OY PyProof.Rows.boot_any (aa (cy (osc:=ah iE) (ON:=["ins","sums","stores","outs"]) (N:=n10) (n:=1) (fx:=[]) rfl rfl rfl (by decide +kernel) (aU (K:=K) rfl (pv 1)) (aS (by decide)) (λ_ _ _ _ _=>⟨(aw (i:=0) (show List.Nodup (n10:List Str) from by decide +kernel) rfl (by walk_at "o")),bB,(fF oH (aH (aP (K:=K) rfl) (by rfl) T.fG PySem.boot_len (aa (aD (av (K:=K) rfl) (pv 0) ag (λ_ _=>rfl)) ae)) (iy (v:= .int 24) (by rfl) T.zm ⟨_,rfl⟩) (aQ _))⟩)) ae))) (ai gP) aV))))))),ar (σ':=[some _,some _,some _,some _]) rfl ?_⟩
 walk_at "l2";rw[length_map];refine ie (decide_eq_false (by omega)) ?_;walk_at "l2";rw[length_map];refine ie (decide_eq_false (by omega)) ?_;walk_at "l2";rw[length_map];refine ie (decide_eq_false (by omega)) ?_;walk_at "l2";rw[length_map];refine ie (decide_eq_false (by omega)) ?_;walk_at "l2";intro D L;refine aX (xs:=rs.map λr=>V.ref r.1) (λi ys H'=>Cs (λi ys=>ys=(List.replicate i false).map V.bl) H D i ys H') (Cs.zero L rfl) (λi ys H' _ c=>SqL.of (c.same.get hs)) (λi x ys H' α c=>?_) (λys H' c=>?_)
 ·obtain⟨r,G,rfl⟩:=aF α;have hi:=(List.getElem?_eq_some_iff.mp G).1;have hm:=mem_of_getElem? G;have ε:=c.same.get (hn.sr r hm).1;have δ:=c.same.get (hn.sr r hm).2;have hw:=g.lw r.2.2 (by rw[<-hn.es];exact mem_map.mpr ⟨r,hm,rfl⟩);walk_at "l2";rw[length_map,decide_eq_false (show ¬(24:Int) < (r.2.2.2.length:Int) by omega)];refine Cs.put L c.same c.at' c.len (by omega) ?_;rw[c.pv,replicate_succ',map_append];rfl
 ·have O:=c.at';rw[c.pv] at O;walk_at "l2";refine Ko (SqL.of O) ?_;walk_at "l2";refine ie (by simp) ?_;walk_at "l2";exact q H' c.same
theorem vN (T:Tx K mg a):FnOk P w K mg base CX0 2 a.dR a.pW ["names"] Fx:=by
 refine T.iL.1.okA jU fun θ A outer s H vs Q E γ h=>?_;obtain⟨l,zs,rfl,hl,ln,nd,hn,q⟩:=h;have β:=oR γ
 refine⟨_,((af (aA (i:=1) jU.nd rfl (by walk_at "o") pq)
  (ai (dz PassesOwn.never rfl (aU (K:=K) rfl (pv 0)) (aw (i:=2) jU.nd rfl (by walk_at "o")) (af (cG (gx (eu (aj (iP T) γ T.kl T.gI (aa (pv 2) ae)))) (ai gP) aV)
  (af (cG (F1 (F6 β (pv 2) (pv 1))) (ai gP) aV)
  (ai (xy β (pv 1) (pv 2) pA rfl)))))))),ar (σ':=[some _,none,none]) rfl ?_⟩
 walk_at "l2";intro D H1 ε α η;have hl1:=α.get hl;walk_at "l2";refine gF (xs:=zs.map V.str) (λi σ H'=>∃v,σ=[some (.ref l),some (.ref D),v]/\Same H H'/\∃kvs:List (Key×V),H' D=some (.dK kvs)/\kvs.map (·.1)=(zs.take i).map Sum.inr) ⟨none,rfl,α,[],η,rfl⟩ (λi σ H' _ ⟨_,_,s',_⟩=>SqL.of (s'.get hl)) ?_ ?_
 ·rintro i y σ H' δ ⟨v,rfl,s',kvs,ζ,O⟩;obtain⟨z,hz,rfl⟩:=aF δ;have hi:=(List.getElem?_eq_some_iff.mp hz).1
  have G:z∉zs.take i:=λm=>by
   have h2:=nd;rw[<-List.take_append_drop i zs,nodup_append] at h2;exact h2.2.2 z m z (mem_of_getElem? (i:=0) (by rw[getElem?_drop,Nat.add_zero];exact hz)) rfl
  have lk:kvs.length<=1000:=by have:=congrArg List.length O;rw[length_map,length_map,length_take] at this;omega
  walk_at "l2";refine c_nm (hn z (mem_of_getElem? hz)) λH2 Z=>?_;have L:=Z.get ζ;walk_at "l2";refine Kn L ?_;rw[tF O z,decide_eq_false G];walk_at "l2";refine ox L (aE lk) fun ι Y=>?_;rw[Aw O G] at Y;walk_at "l2";refine⟨λb o e=>Y.oth _ _ (ao e ε) (Z.get (s'.get e)),_,Y.at',?_⟩;rw[map_append,O,take_succ hz,map_append];rfl
 ·rintro σ H' ⟨v,rfl,s',_⟩;walk_at "l2";exact q H' s'
theorem iF (T:Tx K mg a):FnOk P w K mg base CX0 2 a.eO a.rL ["wire","known"] IZ:=by
 refine T.eV.1.okA xn fun β A outer s H vs Q E O h=>?_;obtain⟨z,d,zs,rfl,⟨kvs,α,Z⟩,hz,hn,q⟩:=h;have Y:=oR O;refine⟨_,((ai (cG (PW.pt (qy (gx (eu (aj (iP T) O T.kl T.gI (aa (pv 0) ae)))) (pe (F1 (F5 Y (pv 0) (pv 1)))))) (ai gP) aV))),ar (σ':=[some _,some _]) rfl ?_⟩;walk_at "l2";refine c_nm hn λH2 L=>?_;have G:=L.get α;walk_at "l2";refine LS G ?_;rw[tF Z z,decide_eq_true hz];walk_at "l2";exact q H2 L
theorem vK (T:Tx K mg a):FnOk P w K mg base CX0 3 a.dO a.pS ["sums","stores","outs","known"] Fu:=by
 refine T.iI.1.okA fJ fun π A outer s H vs Q E θ h=>?_;obtain⟨i,s,t,o,d,rs,qs,N,rfl,kp,g,ζ,q⟩:=h;have hs:=kp.s;have ht:=kp.t;have ho:=kp.o
 refine⟨_,((af (dz PassesOwn.never rfl (kS (K:=K) rfl (pv 0)) (aw (i:=4) fJ.nd rfl (by walk_at "o")) (ai (dz PassesOwn.never rfl (kS (K:=K) rfl (aD (av (K:=K) rfl) (pv 4) ag (λ_ _=>rfl))) (aw (i:=5) fJ.nd rfl (by walk_at "o")) (ai (be (aj (iF T) θ T.jM T.eV (aa (pv 5) (aa (pv 3) ae))))))))
  (af (dz PassesOwn.never rfl (kS (K:=K) rfl (pv 1)) (aw (i:=4) fJ.nd rfl (by walk_at "o")) (ai (be (aj (iF T) θ T.jM T.eV (aa (aD (av (K:=K) rfl) (pv 4) ag (λ_ _=>rfl)) (aa (pv 3) ae))))))
  (ai (dz PassesOwn.never rfl (kS (K:=K) rfl (pv 2)) (aw (i:=5) fJ.nd rfl (by walk_at "o")) (ai (be (aj (iF T) θ T.jM T.eV (aa (pv 5) (aa (pv 3) ae)))))))))),ar (σ':=[some _,some _,some _,some _,none,none]) rfl ?_⟩
 walk_at "l2";refine rp (xs:=rs.map λr=>V.ref r.1) (λi σ H'=>∃Z Y,σ=[some (.ref s),some (.ref t),some (.ref o),some (.ref d),Z,Y]/\Same H H') ⟨none,none,rfl,Same.refl _⟩ (λi σ H' _ ⟨_,_,_,s'⟩=>SqT.of (s'.get hs)) ?_ ?_
 ·rintro i y σ H' β ⟨Z,Y,rfl,s'⟩;obtain⟨r,γ,rfl⟩:=aF β;have hm:=mem_of_getElem? γ;have ο:=s'.get (kp.sr r hm).1;have ξ:=s'.get (kp.sr r hm).2;have δ:r.2.2∈N.sums:=by rw[<-kp.es];exact mem_map.mpr ⟨r,hm,rfl⟩
  walk_at "l2";refine rp (xs:=r.2.2.2.map V.str) (λj σ H2=>∃v,σ=[some (.ref s),some (.ref t),some (.ref o),some (.ref d),some (.ref r.1),v]/\Same H' H2) ⟨_,rfl,Same.refl _⟩ (λj σ H2 _ ⟨_,_,L⟩=>SqT.of (L.get ξ)) ?_ ?_
  ·rintro j y σ H2 β ⟨v,rfl,L⟩;obtain⟨z,hz,rfl⟩:=aF β;have G:=g.ws r.2.2 δ z (mem_of_getElem? hz);walk_at "l2";refine⟨z,d,N.names,rfl,(ζ.same s').same L,G,g.nm z G,fun ε O=>?_⟩;walk_at "l2";exact L.trans O
  ·rintro σ H2 ⟨v,rfl,L⟩;walk_at "l2";exact⟨_,_,rfl,s'.trans L⟩
 ·rintro σ H' ⟨Z,Y,rfl,s'⟩;have η:=s'.get ht;walk_at "l2";refine rp (xs:=qs.map λr=>V.ref r.1) (λi σ H2=>∃Z,σ=[some (.ref s),some (.ref t),some (.ref o),some (.ref d),Z,Y]/\Same H' H2) ⟨_,rfl,Same.refl _⟩ (λi σ H2 _ ⟨_,_,L⟩=>SqT.of (L.get η)) ?_ ?_
  ·rintro i y σ H2 β ⟨Z,rfl,L⟩;obtain⟨r,γ,rfl⟩:=aF β;have hm:=mem_of_getElem? γ;have ο:=L.get (s'.get (kp.tr r hm));have δ:r.2∈N.sts:=by rw[<-kp.et];exact mem_map.mpr ⟨r,hm,rfl⟩
   have G:=g.ts r.2 δ;walk_at "l2";refine⟨r.2.2,d,N.names,rfl,(ζ.same s').same L,G,g.nm _ G,fun ε O=>?_⟩;walk_at "l2";exact L.trans O
  ·rintro σ H2 ⟨Z,rfl,L⟩;have α:=s'.trans L;have ι:=α.get ho;walk_at "l2";refine rp (xs:=N.outs.map V.str) (λi σ ε=>∃Y,σ=[some (.ref s),some (.ref t),some (.ref o),some (.ref d),Z,Y]/\Same H2 ε) ⟨_,rfl,Same.refl _⟩ (λi σ ε _ ⟨_,_,O⟩=>SqT.of (O.get ι)) ?_ ?_
   ·rintro i y σ ε β ⟨Y,rfl,O⟩;obtain⟨z,hz,rfl⟩:=aF β;have G:=g.os z (mem_of_getElem? hz);walk_at "l2";refine⟨z,d,N.names,rfl,(ζ.same α).same O,G,g.nm z G,fun ρ ν=>?_⟩;walk_at "l2";exact O.trans ν
   ·rintro σ ε ⟨Y,rfl,O⟩;walk_at "l2";exact q _ (α.trans O)
theorem BL (T:Tx K mg a):FnOk P w K mg base CX0 1 a.oS a.Hn ["row","waiting"] IE:=by
 refine T.vC.1.okA Jd fun ε A outer s H vs Q E α h=>?_;obtain⟨r,d,zs,rfl,ζ,β,lw,⟨kvs,δ,γ⟩,q⟩:=h;have Z:=oR α;refine⟨_,((ai (aB (aH (zR (K:=K) rfl rfl) (by rfl) T.OY PyProof.Rows.boot_any (aa (cy (osc:=ah xq) (ON:=n12) (N:=["wire","waiting"]) (n:=1) (fx:=[1]) rfl rfl rfl (by decide +kernel) (kS (K:=K) rfl (aD (av (K:=K) rfl) (pv 0) ag (λ_ _=>rfl))) (aS (by decide)) (λ_ _ _ _ _=>⟨(aw (i:=0) (show List.Nodup (["wire","waiting"]:List Str) from by decide +kernel) rfl (by walk_at "o")),bB,(OE (F6 Z (pv 0) (pv 1)))⟩)) ae))))),ar (σ':=[some _,some _]) rfl ?_⟩;walk_at "l2";intro D L;refine tO (xs:=r.2.2.2.map V.str) (λi ys H'=>Cs (λi ys=>ys=((r.2.2.2.take i).map λw=>decide (w∈zs)).map V.bl) H D i ys H') (Cs.zero L rfl) (λi ys H' _ c=>SqT.of (c.same.get β)) (λi x ys H' Y c=>?_) (λys H' c=>?_)
 ·obtain⟨z,hz,rfl⟩:=aF Y;have hi:=(List.getElem?_eq_some_iff.mp hz).1;walk_at "l2";refine Kn (c.same.get δ) ?_;rw[tF γ z];refine Cs.put L c.same c.at' c.len (by omega) ?_;rw[c.pv,take_succ hz,map_append,map_append];rfl
 ·have O:=c.at';rw[c.pv,length_map,take_length] at O;walk_at "l2";refine Ko (SqL.of O) ?_;have G:(r.2.2.2.map λw=>decide (w∈zs)).any id=gM zs r.2.2.2:=by rw[List.any_map];rfl
  walk_at "l2";rw[G];exact q H' c.same
theorem sf (T:Tx K mg a):FnOk P w K mg base CX0 4 a.cP a.mF ["ins","sums","stores"] (Cw a.aZ a.aK a.az):=by
 refine T.gH.1.okA lx λf0 A outer s H vs Q E hr h=>?_;obtain⟨i,s,t,o,rs,qs,N,rfl,kp,g,q⟩:=h;have hi:=kp.i;have hs:=kp.s;have ht:=kp.t;have li:=g.li;have ls:=g.ls;have lt:=g.lt;have e8:rs.length=N.sums.length:=by rw[<-kp.es,length_map]
 have e9:qs.length=N.sts.length:=by rw[<-kp.et,length_map]
 refine⟨_,((af (dI (osc:=ah cK) (ON:=n15) (N:=["number","name"]) (n:=2) (fx:=[]) (i:=3) lx.nd rfl rfl rfl rfl rfl rfl (by decide +kernel) (ph (K:=K) rfl (by rfl) T.eK (pv 0)) (B0 (jL (aS (by decide)) (jL (aS (by decide)) yb))) (λ_ _ _ _ _=>⟨(xB (K:=K) (n:=2) rfl rfl (dm (aw (i:=0) (show List.Nodup (["number","name"]:List Str) from by decide +kernel) rfl (by walk_at "o")) (dm (aw (i:=1) (show List.Nodup (["number","name"]:List Str) from by decide +kernel) rfl (by walk_at "o")) mn))),bB,(j5 T.J7 (pE T) (hr.mono (by decide)) (by rfl) T.JN T.fz.2 .nil bO (aa (pv 1) (aa (pv 0) ae)))⟩))
  (af (be (d2 (K:=K) rfl PySem.F.plainAttrs_list PySem.F.slot_list_extend PySem.F.type_list_extend kj (pv 3) (aa (cy (osc:=ah cK) (ON:=n15) (N:=n10) (n:=1) (fx:=[]) rfl rfl rfl (by decide +kernel) (kS (K:=K) rfl (pv 1)) (aS (by decide)) (λ_ _ _ _ _=>⟨(aw (i:=0) (show List.Nodup (n10:List Str) from by decide +kernel) rfl (by walk_at "o")),bB,(j5 T.HW (oK T) (hr.mono (by decide)) (by rfl) T.G0 T.eB.2 .nil bO (aa (aD (av (K:=K) rfl) (pv 0) ag (λ_ _=>rfl)) (aa (aD (av (K:=K) rfl) (pv 0) ag (λ_ _=>rfl)) ae)))⟩)) ae)))
  (af (be (d2 (K:=K) rfl PySem.F.plainAttrs_list PySem.F.slot_list_extend PySem.F.type_list_extend kj (pv 3) (aa (cy (osc:=ah cK) (ON:=n15) (N:=["number","row"]) (n:=2) (fx:=[]) rfl rfl rfl (by decide +kernel) (ph (K:=K) rfl (by rfl) T.eK (pv 2)) (B0 (jL (aS (by decide)) (jL (aS (by decide)) yb))) (λ_ _ _ _ _=>⟨(xB (K:=K) (n:=2) rfl rfl (dm (aw (i:=0) (show List.Nodup (["number","row"]:List Str) from by decide +kernel) rfl (by walk_at "o")) (dm (aw (i:=1) (show List.Nodup (["number","row"]:List Str) from by decide +kernel) rfl (by walk_at "o")) mn))),bB,(j5 T.Bm (my T) (hr.mono (by decide)) (by rfl) T.A4 T.dq.2 .nil bO (aa (aD (av (K:=K) rfl) (pv 1) ag (λ_ _=>rfl)) (aa (aD (av (K:=K) rfl) (pv 1) ag (λ_ _=>rfl)) (aa (pv 0) ae))))⟩)) ae)))
  (ai (aB (bw (xa rfl) (by rfl) T.KA PyProof.Rows.boot_dict (aa (cy (osc:=ah cK) (ON:=n15) (N:=["wire"]) (n:=1) (fx:=[]) rfl rfl rfl (by decide +kernel) (aU (K:=K) rfl (pv 3)) (aS (by decide)) (λ_ _ _ _ _=>⟨(aw (i:=0) (show List.Nodup (["wire"]:List Str) from by decide +kernel) rfl (by walk_at "o")),bB,(dk (aa (aM (K:=K) rfl (pv 0) rfl) (aa (pv 0) ae)))⟩)) ae)))))))),ar (σ':=[some _,some _,some _,none]) rfl ?_⟩
 walk_at "l2";refine .inr ⟨⟨_,SqT.of hi⟩,?_⟩;intro D hD;refine rq (xs:=N.ins.map V.str) (λi ys H'=>∃ws,WL H H' a.aZ a.aK a.az N D ys (N.ins.take i) ws) ⟨[],rfl,rfl,λ_ h=>absurd h (by simp),bh hD,ay⟩ (λi ys H' _ ⟨ws,c⟩=>SqT.of (c.same.get hi)) (λi x ys H' pz H2 ψ ⟨ws,c⟩ fp s2 e2=>?_) (λys H' ⟨ws,c⟩=>?_)
 ·obtain⟨z,hz,rfl⟩:=aF ψ;have ι:=(List.getElem?_eq_some_iff.mp hz).1;have lw:ws.length=i:=by have:=congrArg List.length c.nm;rw[length_map,length_take] at this;omega
  walk_at "l2";intro x dx H3 f3 s3 e3;refine⟨x,dx,.str z,nat i,rfl,e3,λH4 ρ=>⟨rfl,?_⟩⟩;have β:Same H2 H4:=λb o e=>ρ.oth _ _ (ao e f3) (s3.get e);exact c.put hD (s2.trans β) (.i i dx hz ρ.at') (by rw[length_take];omega) (take_succ hz)
 ·rw[length_map,take_length] at c;have ω:=c.same.get hs;have c1:=c.same.get ht;have a5:=c.d;walk_at "l2";intro D2 ξ;refine tO (xs:=rs.map λr=>V.ref r.1) (λi ys H2=>∃ws,WL H' H2 a.aZ a.aK a.az N D2 ys ((rs.take i).map (·.2.2.1)) ws) ⟨[],rfl,rfl,λ_ h=>absurd h (by simp),bh ξ,ay⟩ (λi ys H2 _ ⟨ws,O⟩=>SqT.of (O.same.get ω)) (λi x Z H2 ψ ⟨π,O⟩=>?_) (λZ H2 ⟨π,O⟩=>?_)
  ·obtain⟨r,G,rfl⟩:=aF ψ;have ι:=(List.getElem?_eq_some_iff.mp G).1;have hm:=mem_of_getElem? G;have υ:=c.same.trans O.same;have er:=υ.get (kp.sr r hm).1;have ew:=υ.get (kp.sr r hm).2;walk_at "l2";intro x dx H3 f3 s3 e3;refine⟨x,dx,.str r.2.2.1,r.2.1,_,rfl,s3.get ew,e3,λH4 ρ=>⟨rfl,?_⟩⟩;have β:Same H2 H4:=λb o e=>ρ.oth _ _ (ao e f3) (s3.get e);exact O.put ξ β (.s r.2.2.2 dx r.2.1 (by rw[<-kp.es];exact mem_map.mpr ⟨r,hm,rfl⟩) ρ.at' (β.get ew)) (by rw[length_map,length_take];omega) (by rw[take_succ G,map_append];rfl)
  ·rw[length_map,take_length] at O;have ε:=O.same.get a5;have a8:=O.d;have χ:ys.length=N.ins.length:=by rw[c.ey,<-c.nm,length_map,length_map]
   have γ:Z.length=rs.length:=by rw[O.ey,length_map,<-length_map (f:=(·.1)),O.nm,length_map]
   walk_at "l2";refine mV ε a8 (by rw[sizeLine_eq];omega) λH3 u3=>?_;have c3:=c.join O hD u3;have a4:=c3.d;have ζ:=c3.same.get ht;have e0:(ys++Z).length=N.ins.length + rs.length:=by rw[length_append,χ,γ]
   clear c O ε a8 ω c1 a5 χ γ ξ;generalize ys++Z=ys3 at *
   walk_at "l2";refine .inr ⟨⟨_,SqT.of ζ⟩,?_⟩;intro D4 ν;refine rq (xs:=qs.map λq=>V.ref q.1) (λi ys H'=>∃ws,WL H3 H' a.aZ a.aK a.az N D4 ys ((qs.take i).map (·.2.1)) ws) ⟨[],rfl,rfl,λ_ h=>absurd h (by simp),bh ν,ay⟩ (λi ys H' _ ⟨ws,c⟩=>SqT.of (c.same.get ζ)) (λi x ys H4 pz H5 ψ ⟨ws,c⟩ fp s5 e5=>?_) (λb0 H4 ⟨b3,ο⟩=>?_)
   ·obtain⟨r,G,rfl⟩:=aF ψ;have ι:=(List.getElem?_eq_some_iff.mp G).1;have hm:=mem_of_getElem? G;have er:=s5.get (c.same.get (c3.same.get (kp.tr r hm)));walk_at "l2";intro x dx H6 f6 τ e6;refine⟨x,dx,.str r.2.1,.str r.2.2,nat i,rfl,e6,λH7 u7=>⟨rfl,?_⟩⟩;have α:Same H5 H7:=λb o e=>u7.oth _ _ (ao e f6) (τ.get e);exact c.put ν (s5.trans α) (.t i r.2.2 dx (by rw[<-kp.et,getElem?_map,G];rfl) u7.at') (by rw[length_map,length_take];omega) (by rw[take_succ G,map_append];rfl)
   ·rw[length_map,take_length] at ο;have δ:=ο.same.get a4;have a7:=ο.d;have d4:b0.length=qs.length:=by rw[ο.ey,length_map,<-length_map (f:=(·.1)),ο.nm,length_map]
    walk_at "l2";refine mV δ a7 (by rw[sizeLine_eq];omega) λH5 u5=>?_;have Y:=c3.join ο hD u5;have a3:=Y.d;have d1:=Y.ey
    have a6:N.ins++rs.map (·.2.2.1)++qs.map (·.2.1)=N.names:=by
     unfold Nt.names;rw[<-kp.es,<-kp.et,map_map,map_map];rfl
    rw[a6] at Y;clear c3 ο δ a7 a4 ζ ν;rw[d1] at a3;generalize ws++π++b3=wl at *
    have e4:wl.length<=100:=by rw[<-length_map (f:=(·.1)),Y.nm,<-a6,length_append,length_append,length_map,length_map];omega
    walk_at "l2";intro D6 a0;refine aX (xs:=wl.map λq=>V.ref q.2) (λi ys H'=>∃ps:List (Addr×Key×V),ys=ps.map (λq=>V.ref q.1)/\ps.map (·.2)=(wl.take i).map (λq=>((Sum.inr q.1:Key),V.ref q.2))/\(∀q∈ps,H' q.1=some (.tup [kV q.2.1,q.2.2]))/\Same H5 H'/\H' D6=some (.lst ys)) ⟨[],rfl,rfl,λ_ h=>absurd h (by simp),bh a0,ay⟩ (λi ys H' _ ⟨_,_,_,_,s',_⟩=>SqL.of (s'.get a3)) ?_ ?_
    ·rintro i y ys H' hy ⟨ps,rfl,L,hq,s',eD⟩;obtain⟨φ,η,rfl⟩:=aF hy;have ι:=(List.getElem?_eq_some_iff.mp η).1;have e1:ps.length=i:=by have:=congrArg List.length L;rw[length_map,length_map,length_take] at this;omega
     have wb:=(Y.ob φ (mem_of_getElem? η)).same s'
     have fld:∀{Q:VK},Q (.str φ.1) H'->MW K (Str.ofString "name") Q (V.ref φ.2) H':=λh=>by
      cases wb with
      | i k dx hk e=>exact aJ e T.lh T.pJ rfl h
      | s ws dx tw hk e et=>exact aJ e T.jD T.nU rfl h
      | t k y dx hk e=>exact aJ e T.fc T.lD rfl h
     walk_at "l2";refine fld ?_;walk_at "l2";intro tt H6 f6 τ e6;have c0:tt≠D6:=λz=>by rw[z,eD] at f6;cases f6
     refine⟨τ.get eD,by rw[length_map];exact aE (by omega),ps++[(tt,Sum.inr φ.1,.ref φ.2)],by rw[map_append];rfl,by rw[map_append,L,take_succ η,map_append];rfl,λq' θ=>?_,λb o e=>?_,ay⟩
     ·rcases mem_append.mp θ with h | h
      ·have e:=hq q' h;rw[aG (b4 e eD λz=>by cases z)];exact τ.get e
      ·rw[mem_singleton] at h;subst h;rw[aG c0];exact e6
     ·rw[aG (ao e a0)];exact τ.get (s'.get e)
    ·rintro ys H6 ⟨ps,rfl,L,hq,s',eD⟩;rw[length_map,take_length] at L
     have ek:ps.map (λq=>q.2.1)=N.names.map Sum.inr:=by
      have:=congrArg (List.map (·.1)) L;rw[map_map,map_map] at this;rw[<-Y.nm,map_map];exact this
     walk_at "l2";refine FH eD hq (by rw[ek];exact List.Pairwise.map _ (λx y h z=>h (Sum.inr.inj z)) g.nd) λd H7 f7 s7 e7=>?_;have α:=s'.trans s7;rw[L] at e7;exact q d H7 wl ((Y.same.trans s').free f7) (Y.same.trans α) ⟨e7,Y.nm,λq' θ=>(Y.ob q' θ).same α⟩
theorem Df (T:Tx K mg a):FnOk P w K mg base CX0 2 a.jk a.zG ["sums"] CA:=by
 refine T.qb.1.okA iM λf8 A outer s H vs Q E Z h=>?_;obtain⟨s,rs,N,rfl,hs,ω,ζ,g,q⟩:=h;have f3:rs.length=N.sums.length:=by rw[<-ζ,length_map]
 have ls:=g.ls
 refine⟨_,((af (aA (i:=1) iM.nd rfl (by walk_at "o") (cw ae))
  (af (aA (i:=2) iM.nd rfl (by walk_at "o") (bw (fq (K:=K) rfl) (by rfl) T.kh PyProof.Rows.boot_list (aa (pv 0) ae)))
  (af (pf PassesOwn.never (aI oH (aH (aP (K:=K) rfl) (by rfl) T.fG PySem.boot_len (aa (pv 2) ae)) ag (aQ _)) (af (aA (i:=3) iM.nd rfl (by walk_at "o") (bw (xa rfl) (by rfl) T.KA PyProof.Rows.boot_dict (aa (pv 2) ae)))
  (af (dI (osc:=ah mh) (ON:=["sums","names","left","waiting","ready"]) (N:=n12) (n:=1) (fx:=[3]) (i:=4) iM.nd rfl rfl rfl rfl rfl rfl (by decide +kernel) (aU (K:=K) rfl (pv 2)) (aS (by decide)) (λ_ _ _ _ _=>⟨(aw (i:=0) (show List.Nodup (n12:List Str) from by decide +kernel) rfl (by walk_at "o")),(iZ (gx (eu (aj (BL T) Z T.GS T.vC (aa (pv 0) (aa (pv 1) ae)))))),(aD (av (K:=K) rfl) (pv 0) ag (λ_ _=>rfl))⟩))
  (af (cG (aI fK (aH (aP (K:=K) rfl) (by rfl) T.fG PySem.boot_len (aa (pv 4) ae)) ag (aQ _)) (ai gP) aV)
  (af (be (d2 (K:=K) rfl PySem.F.plainAttrs_list PySem.F.slot_list_extend PySem.F.type_list_extend kj (pv 1) (aa (pv 4) ae)))
  (ai (dI (osc:=ah mh) (ON:=["sums","names","left","waiting","ready"]) (N:=n12) (n:=1) (fx:=[3]) (i:=2) iM.nd rfl rfl rfl rfl rfl rfl (by decide +kernel) (aU (K:=K) rfl (pv 2)) (aS (by decide)) (λ_ _ _ _ _=>⟨(aw (i:=0) (show List.Nodup (n12:List Str) from by decide +kernel) rfl (by walk_at "o")),(iZ (eu (aj (BL T) Z T.GS T.vC (aa (pv 0) (aa (pv 1) ae))))),(pv 0)⟩))))))))
  (ai (aB (pv 1))))))),ar (σ':=[some _,none,none,none,none]) rfl ?_⟩
 walk_at "l2";intro β H1 f1 s1 e1;have f7:=s1.get hs;walk_at "l2";intro O H2 f2 s2 e2;walk_at "l2";have nd:=g.nds;refine⟨fun μ σ' H'=>∃(od:List Str) (lf:List Rw) (O:Addr) (ι θ:Option V),σ'=[some (.ref s),some (.ref β),some (.ref O),ι,θ]/\Same H H'/\H' β=some (.lst (od.map V.str))/\H' O=some (.lst (lf.map λr=>V.ref r.1))/\O≠β/\(∀r∈lf,r∈rs)/\Otp N.sums od (lf.map (·.2.2))/\μ=lf.length,⟨rs.length,[],rs,O,none,none,rfl,s1.trans s2,s2.get e1,e2,λz=>(by rw[z,e1] at f2;cases f2),λ_ h=>h,by rw[ζ];exact Otp.start _,rfl⟩,?_⟩;rintro μ σ' H3 ⟨od,lf,O,ι,θ,rfl,s3,en,el,c1,sub,φ,rfl⟩;walk_at "l2";rw[length_map];by_cases h0:lf=[]
 ·subst h0;refine ie (decide_eq_false (by simp)) ?_;walk_at "l2";exact q β H3 od f1 s3 en φ.done
 ·have e9:0 < lf.length:=length_pos_iff.mpr h0;refine kK (decide_eq_true (by omega)) ?_;have Y:=φ.perm.nodup_iff.mpr nd;rw[nodup_append] at Y;have c2:(lf.map (·.2.2.1)).Nodup:=by have:=Y.2.1;rw[map_map] at this;exact this
  have f5:od.length + lf.length=N.sums.length:=by have:=φ.perm.length_eq;rw[length_append,length_map,length_map,length_map] at this;exact this
  have δ:=φ.ready g (by simpa using h0);have ξ:(lf.map (·.2.2)).map (·.1)=lf.map (·.2.2.1):=by rw[map_map];rfl
  rw[ξ] at δ;have γ:∀r∈lf,∀{H'},Same H H'->H' r.1=some (.tup [.str r.2.2.1,.ref r.2.1])/\H' r.2.1=some (.tup (r.2.2.2.map V.str)):=λr Z H' s'=>⟨s'.get (ω r (sub r Z)).1,s'.get (ω r (sub r Z)).2⟩;have χ:∀r∈lf,r.2.2.2.length<=24:=λr Z=>g.lw r.2.2 (by rw[<-ζ];exact mem_map.mpr ⟨r,sub r Z,rfl⟩);refine⟨fun σ' H'=>∃(od:List Str) (L:List Rw) (O:Addr) (ι θ:Option V),σ'=[some (.ref s),some (.ref β),some (.ref O),ι,θ]/\Same H H'/\H' β=some (.lst (od.map V.str))/\H' O=some (.lst (L.map λr=>V.ref r.1))/\O≠β/\(∀r∈L,r∈rs)/\Otp N.sums od (L.map (·.2.2))/\L.length < lf.length,fun σ' H' ⟨od,L,O,ι,θ,a1,a2,a3,a4,a5,a6,a7,a8⟩=>⟨L.length,a8,od,L,O,ι,θ,a1,a2,a3,a4,a5,a6,a7,rfl⟩,?_⟩;walk_at "l2";refine FH (ps:=lf.map λr=>(r.1,Sum.inr r.2.2.1,V.ref r.2.1)) (by rw[map_map];exact el) (λq' d1=>?_) ?_ λd H4 f4 s4 e4=>?_
  ·obtain⟨r,G,rfl⟩:=mem_map.mp d1;exact(γ r G s3).1
  ·rw[map_map];have:=List.Pairwise.map (Sum.inr:Str->Key) (S:=λa b=>a≠b) (λx y h z=>h (Sum.inr.inj z)) c2;rw[map_map] at this;exact this
  have kn:Knw H4 d (lf.map (·.2.2.1)):=⟨_,e4,by rw[map_map,map_map,map_map];rfl⟩;have c0:=s4.get el;have b3:=s4.get en;have τ:=s3.trans s4;walk_at "l2";intro D5 a0;refine aX (xs:=lf.map λr=>V.ref r.1) (λi ys H'=>ys=(((lf.take i).filter λr=> !gM (lf.map (·.2.2.1)) r.2.2.2).map (·.2.2.1)).map V.str/\Same H4 H'/\H' D5=some (.lst ys)) ⟨rfl,bh a0,ay⟩ (λi ys H' _ ⟨_,s',_⟩=>SqL.of (s'.get c0)) (λi x ys H' hx ⟨ey,s',e'⟩=>?_) (λys H5 ⟨ey,s5,e5⟩=>?_)
  ·obtain⟨r,G,rfl⟩:=aF hx;have hm:=mem_of_getElem? G;have d4:=(List.getElem?_eq_some_iff.mp G).1;have ν:=γ r hm (τ.trans s');have r1:=ν.1;have fs:(lf.take (i + 1)).filter (λr=> !gM (lf.map (·.2.2.1)) r.2.2.2)=(lf.take i).filter (λr=> !gM (lf.map (·.2.2.1)) r.2.2.2)++(if (!gM (lf.map (·.2.2.1)) r.2.2.2)=true then [r] else []):=by rw[take_succ G,filter_append,filter_cons];rfl
   walk_at "l2";refine⟨r,d,lf.map (·.2.2.1),rfl,ν.1,ν.2,χ r hm,kn.same s',λH6 ο=>?_⟩;have f0:=ο.get r1;cases hw:gM (lf.map (·.2.2.1)) r.2.2.2 with
   | true=>
     walk_at "l2";refine⟨?_,s'.trans ο,ο.get e'⟩;rw[fs,hw,ey];simp
   | false=>
     walk_at "l2";refine⟨ο.get e',?_,?_,λb o e=>?_,ay⟩
     ·rw[ey,length_map,length_map];have:=length_filter_le (λr:Rw=> !gM (lf.map (·.2.2.1)) r.2.2.2) (lf.take i);rw[length_take] at this;exact aE (by omega)
     ·rw[fs,hw,ey];simp
     ·rw[aG (ao e a0)];exact ο.get (s'.get e)
  ·rw[length_map,take_length] at ey;have fm:((lf.map (·.2.2)).filter λr=> !gM (lf.map (·.2.2.1)) r.2)=(lf.filter λr=> !gM (lf.map (·.2.2.1)) r.2.2.2).map (·.2.2):=by rw[List.filter_map];rfl
   have e0:((lf.map (·.2.2)).filter λr=>gM (lf.map (·.2.2.1)) r.2)=(lf.filter λr=>gM (lf.map (·.2.2.1)) r.2.2.2).map (·.2.2):=by rw[List.filter_map];rfl
   rw[fm,length_map] at δ;have c4:ys.length=(lf.filter λr=> !gM (lf.map (·.2.2.1)) r.2.2.2).length:=by rw[ey,length_map,length_map]
   have f6:=length_filter_le (λr:Rw=> !gM (lf.map (·.2.2.1)) r.2.2.2) lf;have ε:=A6 (λr:Rw=>gM (lf.map (·.2.2.1)) r.2.2.2) lf δ;have υ:=φ.step nd;rw[ξ,fm,e0,map_map] at υ;have e8:=s5.get c0;have e3:=s5.get b3;walk_at "l2";refine ie (decide_eq_false λz=>by have:=V.int.inj z;omega) ?_;walk_at "l2";refine mV e3 e5 (by rw[length_map,c4,sizeLine_eq];omega) λH6 u6=>?_;have π:∀b o,b≠β->H4 b=some o->H6 b=some o:=λb o n e=>u6.oth _ _ n (s5.get e);have ρ:Same H H6:=λb o e=>π b o (ao e f1) (τ.get e);have e6:=u6.oth _ _ c1 e8;have η:=u6.at';rw[ey,<-map_append] at η
   have c5:Knw H6 d (lf.map (·.2.2.1)):=by
    obtain⟨kvs,ed,ek⟩:=kn;exact⟨kvs,π _ _ (b4 ed b3 λz=>by cases z) ed,ek⟩
   walk_at "l2";intro D7 α;refine aX (xs:=lf.map λr=>V.ref r.1) (λi ys H'=>ys=((lf.take i).filter λr=>gM (lf.map (·.2.2.1)) r.2.2.2).map (λr=>V.ref r.1)/\Same H6 H'/\H' D7=some (.lst ys)) ⟨rfl,bh α,ay⟩ (λi ys H' _ ⟨_,s',_⟩=>SqL.of (s'.get e6)) (λi x ys H' hx ⟨ey,s',e'⟩=>?_) (λys H7 ⟨b0,s7,e7⟩=>?_)
   ·obtain⟨r,G,rfl⟩:=aF hx;have hm:=mem_of_getElem? G;have d4:=(List.getElem?_eq_some_iff.mp G).1;have ν:=γ r hm (ρ.trans s');have fs:(lf.take (i + 1)).filter (λr=>gM (lf.map (·.2.2.1)) r.2.2.2)=(lf.take i).filter (λr=>gM (lf.map (·.2.2.1)) r.2.2.2)++(if gM (lf.map (·.2.2.1)) r.2.2.2=true then [r] else []):=by rw[take_succ G,filter_append,filter_cons];rfl
    walk_at "l2";refine⟨r,d,lf.map (·.2.2.1),rfl,ν.1,ν.2,χ r hm,c5.same s',λH8 s8=>?_⟩;cases hw:gM (lf.map (·.2.2.1)) r.2.2.2 with
    | false=>
      walk_at "l2";refine⟨?_,s'.trans s8,s8.get e'⟩;rw[fs,hw,ey];simp
    | true=>
      walk_at "l2";refine⟨s8.get e',?_,?_,λb o e=>?_,ay⟩
      ·rw[ey,length_map];have:=length_filter_le (λr:Rw=>gM (lf.map (·.2.2.1)) r.2.2.2) (lf.take i);rw[length_take] at this;exact aE (by omega)
      ·rw[fs,hw,ey];simp
      ·rw[aG (ao e α)];exact s8.get (s'.get e)
   ·rw[length_map,take_length] at b0;rw[b0] at e7;walk_at "l2";have ψ:∀r∈lf.filter (λr=>gM (lf.map (·.2.2.1)) r.2.2.2),r∈rs:=λr Z=>sub r (mem_filter.mp Z).1;have c3:D7≠β:=λz=>(by rw[z,η] at α;cases α);exact⟨_,_,D7,_,_,rfl,ρ.trans s7,s7.get η,e7,c3,ψ,υ,ε⟩
theorem gy (T:Tx K mg a):FnOk P w K mg base CX0 5 a.cc a.oa ["self","ins","sums","stores","outs"] (Nv a.cv a.aZ a.aK a.az):=by
 refine T.di.1.okA t9 λs3 A outer s H vs Q E hr h=>?_;obtain⟨x,dx,i,s,t,o,rs,qs,N,rfl,hx,hn,g,q⟩:=h;have li:=g.li;have ls:=g.ls;have lt:=g.lt;have lo:=g.lo;have r0:rs.length=N.sums.length:=by rw[<-hn.es,length_map]
 have r1:qs.length=N.sts.length:=by rw[<-hn.et,length_map]
 refine⟨_,((af (be (aj (vM T) hr T.yf T.iK (aa (pv 1) (aa (pv 2) (aa (pv 3) (aa (pv 4) ae))))))
  (af (be (aj (vN T) hr T.yg T.iL (aa (au i5 (au i5 (bw (fq (K:=K) rfl) (by rfl) T.kh PyProof.Rows.boot_list (aa (pv 1) ae)) (cy (osc:=ah c6) (ON:=n16) (N:=n10) (n:=1) (fx:=[]) rfl rfl rfl (by decide +kernel) (aU (K:=K) rfl (pv 2)) (aS (by decide)) (λ_ _ _ _ _=>⟨(aw (i:=0) (show List.Nodup (n10:List Str) from by decide +kernel) rfl (by walk_at "o")),bB,(aD (av (K:=K) rfl) (pv 0) ag (λ_ _=>rfl))⟩))) (cy (osc:=ah c6) (ON:=n16) (N:=n10) (n:=1) (fx:=[]) rfl rfl rfl (by decide +kernel) (aU (K:=K) rfl (pv 3)) (aS (by decide)) (λ_ _ _ _ _=>⟨(aw (i:=0) (show List.Nodup (n10:List Str) from by decide +kernel) rfl (by walk_at "o")),bB,(aD (av (K:=K) rfl) (pv 0) ag (λ_ _=>rfl))⟩))) ae)))
  (af (cM (K:=K) rfl (pv 0) (bw (dX (K:=K) rfl) (by rfl) T.j6 PyProof.Rows.boot_tuple (aa (pv 1) ae)) rfl)
  (af (cM (K:=K) rfl (pv 0) (bw (dX (K:=K) rfl) (by rfl) T.j6 PyProof.Rows.boot_tuple (aa (cy (osc:=ah c6) (ON:=n16) (N:=n10) (n:=1) (fx:=[]) rfl rfl rfl (by decide +kernel) (aU (K:=K) rfl (pv 2)) (aS (by decide)) (λ_ _ _ _ _=>⟨(aw (i:=0) (show List.Nodup (n10:List Str) from by decide +kernel) rfl (by walk_at "o")),bB,(dk (aa (aD (av (K:=K) rfl) (pv 0) ag (λ_ _=>rfl)) (aa (bw (dX (K:=K) rfl) (by rfl) T.j6 PyProof.Rows.boot_tuple (aa (aD (av (K:=K) rfl) (pv 0) ag (λ_ _=>rfl)) ae)) ae)))⟩)) ae)) rfl)
  (af (cM (K:=K) rfl (pv 0) (bw (dX (K:=K) rfl) (by rfl) T.j6 PyProof.Rows.boot_tuple (aa (cy (osc:=ah c6) (ON:=n16) (N:=n10) (n:=1) (fx:=[]) rfl rfl rfl (by decide +kernel) (aU (K:=K) rfl (pv 3)) (aS (by decide)) (λ_ _ _ _ _=>⟨(aw (i:=0) (show List.Nodup (n10:List Str) from by decide +kernel) rfl (by walk_at "o")),bB,(dk (aa (aD (av (K:=K) rfl) (pv 0) ag (λ_ _=>rfl)) (aa (aD (av (K:=K) rfl) (pv 0) ag (λ_ _=>rfl)) ae)))⟩)) ae)) rfl)
  (af (cM (K:=K) rfl (pv 0) (bw (dX (K:=K) rfl) (by rfl) T.j6 PyProof.Rows.boot_tuple (aa (pv 4) ae)) rfl)
  (af (cM (K:=K) rfl (pv 0) (aj (sf T) hr T.vc T.gH (aa (aM (K:=K) rfl (pv 0) rfl) (aa (aM (K:=K) rfl (pv 0) rfl) (aa (aM (K:=K) rfl (pv 0) rfl) ae)))) rfl)
  (af (be (aj (vK T) hr T.yd T.iI (aa (aM (K:=K) rfl (pv 0) rfl) (aa (aM (K:=K) rfl (pv 0) rfl) (aa (aM (K:=K) rfl (pv 0) rfl) (aa (aM (K:=K) rfl (pv 0) rfl) ae))))))
  (ai (cM (K:=K) rfl (pv 0) (bw (dX (K:=K) rfl) (by rfl) T.j6 PyProof.Rows.boot_tuple (aa (aj (Df T) hr T.GV T.qb (aa (aM (K:=K) rfl (pv 0) rfl) ae)) ae)) rfl))))))))))),ar (σ':=[some _,some _,some _,some _,some _]) rfl ?_⟩
 walk_at "l2";refine⟨i,s,t,o,rs,qs,N,rfl,hn,g,λH1 s1=>?_⟩;have τ:=hn.same s1;have q1:=τ.i;have m0:=τ.s;have l6:=τ.t;walk_at "l2";intro D2 H2 f2 s2 e2;have l8:=s2.get m0;walk_at "l2";intro D3 j1;refine aX (xs:=rs.map λr=>V.ref r.1) (λi ys H'=>Cs (λi ys=>ys=((rs.take i).map (·.2.2.1)).map V.str) H2 D3 i ys H') (Cs.zero j1 rfl) (λi ys H' _ c=>SqL.of (c.same.get l8)) (λi x ys H' hx c=>?_) (λys H3 c=>?_)
 ·obtain⟨r,L,rfl⟩:=aF hx;have i4:=(List.getElem?_eq_some_iff.mp L).1;have er:=c.same.get (s2.get (τ.sr r (mem_of_getElem? L)).1);walk_at "l2";refine Cs.put j1 c.same c.at' c.len (by omega) ?_;rw[c.pv,take_succ L,map_append,map_append];rfl
 ·have e3:=c.at';rw[c.pv,length_map,take_length] at e3;have h0:=c.same;clear c;refine oy (h0.get e2) e3 (by rw[length_map,length_map,length_map,sizeLine_eq];omega) λD4 H4 f4 s4 e4=>?_;have Y:=s2.trans (h0.trans s4);have l5:=Y.get l6;walk_at "l2";intro D5 j0;refine aX (xs:=qs.map λr=>V.ref r.1) (λi ys H'=>Cs (λi ys=>ys=((qs.take i).map (·.2.1)).map V.str) H4 D5 i ys H') (Cs.zero j0 rfl) (λi ys H' _ c=>SqL.of (c.same.get l5)) (λi x ys H' hx c=>?_) (λys H5 c=>?_)
  ·obtain⟨r,L,rfl⟩:=aF hx;have i4:=(List.getElem?_eq_some_iff.mp L).1;have er:=c.same.get (Y.get (τ.tr r (mem_of_getElem? L)));walk_at "l2";refine Cs.put j0 c.same c.at' c.len (by omega) ?_;rw[c.pv,take_succ L,map_append,map_append];rfl
  ·have e5:=c.at';rw[c.pv,length_map,take_length] at e5;have g4:=c.same;clear c
   have n3:N.ins++rs.map (·.2.2.1)++qs.map (·.2.1)=N.names:=by
    unfold Nt.names;rw[<-hn.es,<-hn.et,map_map,map_map];rfl
   have r3:N.names.length<=100:=by rw[<-n3,length_append,length_append,length_map,length_map];omega
   refine oy (g4.get e4) e5 (by rw[length_append,length_map,length_map,length_map,length_map,length_map,sizeLine_eq];omega) λD6 H6 f6 s6 e6=>?_;rw[<-map_append,<-map_append,n3] at e6;have α:=Y.trans (g4.trans s6);walk_at "l2";refine⟨D6,N.names,rfl,e6,by omega,g.nd,g.nm,λH7 s7=>?_⟩;have b0:=s1.trans (α.trans s7);have i3:=hn.same b0;have h6:=b0.get hx;clear e6 e5 e4 e3 e2 α Y l8 l5 q1 m0 l6 τ j1 j0 f2 f4 f6 s1 s2 h0 s4 g4 s6 s7;have q0:=i3.i;walk_at "l2";intro ti H8 f8 s8 e8;walk_at "l2";refine cL (s8.get h6) T.bX T.pI (by show 0 < 1000;decide) rfl λH9 u9=>?_;have h5:=s8.get h6;have a3:=(Kx.upd u9).hnd h5 (i3.same s8);have e9:=(Kx.upd u9).tup h5 e8;have l2:=u9.at';have k9:Kx x H H9:=(Kx.same (b0.trans s8)).trans (Kx.upd u9);have l7:=a3.s;clear u9 h5 s8 e8 f8 q0 h6 i3 b0;walk_at "l2";intro j4 a5;refine aX (xs:=rs.map λr=>V.ref r.1) (λi ys H'=>∃Z:List Rw,ys=Z.map (λr=>V.ref r.1)/\Z.map (·.2.2)=(rs.take i).map (·.2.2)/\RwK H' Z/\Same H9 H'/\H' j4=some (.lst ys)) ⟨[],rfl,rfl,λ_ h=>absurd h (by simp),bh a5,ay⟩ (λi ys H' _ ⟨_,_,_,_,s',_⟩=>SqL.of (s'.get l7)) ?_ ?_
   ·rintro i y ys H' hy ⟨Z,rfl,ρ,hk,s',eD⟩;obtain⟨r,L,rfl⟩:=aF hy;have i4:=(List.getElem?_eq_some_iff.mp L).1;have hm:=mem_of_getElem? L;have er:=s'.get (a3.sr r hm).1;have ew:=s'.get (a3.sr r hm).2;have m3:Z.length=i:=by have:=congrArg List.length ρ;rw[length_map,length_map,length_take] at this;omega
    walk_at "l2";intro tw q9 c0 ι c3;walk_at "l2";intro tr j3 n2 a8 c2;have h4:tr≠j4:=λz=>(by rw[z,ι.get eD] at n2;cases n2);have p0:tw≠j4:=λz=>(by rw[z,eD] at c0;cases c0);have g0:=a8.get (ι.get eD);refine⟨g0,by rw[length_map];exact aE (by omega),Z++[(tr,tw,r.2.2)],by rw[map_append];rfl,by rw[map_append,ρ,take_succ L,map_append];rfl,λr2 h2=>?_,λb ob e=>?_,ay⟩
    ·rcases mem_append.mp h2 with h2 | h2
     ·exact((hk.same ι).same a8).updL g0 (λb ob n e=>by rw[aG n];exact e) r2 h2
     ·rw[mem_singleton] at h2;subst h2;exact⟨by rw[aG h4];exact c2,by rw[aG p0];exact a8.get c3⟩
    ·rw[aG (ao e a5)];exact a8.get (ι.get (s'.get e))
   ·rintro ys t6 ⟨Z,rfl,ρ,hk,k6,n5⟩;rw[length_map,take_length,hn.es] at ρ;walk_at "l2";intro ts q9 c0 ι c3;have θ:=k6.trans ι;have ε:=θ.get l2;walk_at "l2";refine cL ε T.bX T.ki (by show 1 < 1000;decide) rfl λj3 ξ=>?_;have π:=(Kx.upd ξ).hnd ε (a3.same θ);have g3:=(Kx.upd ξ).tup ε (θ.get e9);have c2:=(Kx.upd ξ).tup ε c3;have d1:=(Kx.upd ξ).rw ε (hk.same ι);have e7:=ξ.at';have l1:Kx x H j3:=k9.trans ((Kx.same θ).trans (Kx.upd ξ));have f0:=π.t;clear ξ ε θ k6 ι c3 c0 hk n5 a5 a3 l7 l2 e9 k9;walk_at "l2";intro n8 a4;refine aX (xs:=qs.map λr=>V.ref r.1) (λi ys H'=>∃β:List Qs,ys=β.map (λr=>V.ref r.1)/\β.map (·.2)=(qs.take i).map (·.2)/\QsK H' β/\Same j3 H'/\H' n8=some (.lst ys)) ⟨[],rfl,rfl,λ_ h=>absurd h (by simp),bh a4,ay⟩ (λi ys H' _ ⟨_,_,_,_,s',_⟩=>SqL.of (s'.get f0)) ?_ ?_
    ·rintro i y ys H' hy ⟨β,rfl,a0,hk,s',eD⟩;obtain⟨r,L,rfl⟩:=aF hy;have i4:=(List.getElem?_eq_some_iff.mp L).1;have er:=s'.get (π.tr r (mem_of_getElem? L));have m3:β.length=i:=by have:=congrArg List.length a0;rw[length_map,length_map,length_take] at this;omega
     walk_at "l2";intro tr q8 b3 Y c1;have h4:tr≠n8:=λz=>(by rw[z,eD] at b3;cases b3);have f9:=Y.get eD;refine⟨f9,by rw[length_map];exact aE (by omega),β++[(tr,r.2)],by rw[map_append];rfl,by rw[map_append,a0,take_succ L,map_append];rfl,λr2 h2=>?_,λb ob e=>?_,ay⟩
     ·rcases mem_append.mp h2 with h2 | h2
      ·exact(hk.same Y).updL f9 (λb ob n e=>by rw[aG n];exact e) r2 h2
      ·rw[mem_singleton] at h2;subst h2;rw[aG h4];exact c1
     ·rw[aG (ao e a4)];exact Y.get (s'.get e)
    ·rintro ys t5 ⟨β,rfl,a0,m1,k4,n4⟩;rw[length_map,take_length,hn.et] at a0;walk_at "l2";intro tk q8 b3 Y c1;have G:=k4.trans Y;have O:=G.get e7;walk_at "l2";refine cL O T.bX T.dA (by show 2 < 1000;decide) rfl λq7 ζ=>?_;have f1:=(Kx.upd ζ).hnd O (π.same G);have f7:=(Kx.upd ζ).tup O (G.get g3);have f5:=(Kx.upd ζ).tup O (G.get c2);have c5:=(Kx.upd ζ).rw O (d1.same G);have f3:=(Kx.upd ζ).tup O c1;have d4:=(Kx.upd ζ).qs O (m1.same Y);have e1:=ζ.at';have k8:Kx x H q7:=l1.trans ((Kx.same G).trans (Kx.upd ζ));have m2:=f1.o;clear ζ O G k4 Y c1 b3 m1 n4 a4 π f0 e7 c2 g3 l1 d1;walk_at "l2";intro to t3 q3 α n6;have ω:=α.get e1;walk_at "l2";refine cL ω T.bX T.qL (by show 3 < 1000;decide) rfl λn7 a6=>?_;have ψ:Kpt n7 ti ts tk to Z β N:=(Kx.upd a6).kpt ω ⟨α.get f7,α.get f5,c5.same α,ρ,α.get f3,d4.same α,a0,n6⟩;have ν:=a6.at';have k7:Kx x H n7:=k8.trans ((Kx.same α).trans (Kx.upd a6));clear a6 ω α n6 q3 e1 k8 f7 f5 c5 f3 d4 m2 f1;walk_at "l2";refine aJ ν T.bX T.pI rfl ?_;walk_at "l2";refine aJ ν T.bX T.ki rfl ?_;walk_at "l2";refine aJ ν T.bX T.dA rfl ?_;walk_at "l2";refine⟨ti,ts,tk,to,Z,β,N,rfl,ψ,g,λdb t2 ws q2 a7 wi=>?_⟩;have δ:=a7.get ν;walk_at "l2";refine cL δ T.bX T.gE (by show 4 < 1000;decide) rfl λq6 φ=>?_;have n0:db≠x:=b4 wi.d δ λz=>by cases z
     have l4:∀q∈ws,q.2≠x:=λq hq z=>by
      obtain⟨C,s0,fs,e,_⟩:=(wi.ob q hq).name;rw[z,δ] at e;injection e with e
      injection e with _ _ e
      injection e with e _
      injection e with e _
      exact absurd e (by decide)
     have c4:=(Kx.upd φ).wia wi n0 l4 δ;have χ:=(Kx.upd φ).kpt δ (ψ.same a7);have γ:=φ.at';have p8:Kx x H q6:=k7.trans ((Kx.same a7).trans (Kx.upd φ));clear φ wi ψ ν δ a7 k7 q2;walk_at "l2";refine aJ γ T.bX T.ki rfl ?_;walk_at "l2";refine aJ γ T.bX T.dA rfl ?_;walk_at "l2";refine aJ γ T.bX T.qL rfl ?_;walk_at "l2";refine aJ γ T.bX T.gE rfl ?_;walk_at "l2";refine⟨ti,ts,tk,to,db,Z,β,N,rfl,χ,g,c4.knw,λt1 h3=>?_⟩;have l3:=h3.get γ;have e0:=χ.same h3;walk_at "l2";refine aJ l3 T.bX T.ki rfl ?_;walk_at "l2";refine⟨ts,Z,N,rfl,e0.s,e0.sr,ρ,g,λDo s9 od r5 o0 r7 tp=>?_⟩;walk_at "l2";intro tq s5 r4 n9 q4;have η:=h3.trans (o0.trans n9);have ο:=η.get γ;walk_at "l2";refine cL ο T.bX T.mB (by show 5 < 1000;decide) rfl λq5 υ=>?_;walk_at "l2";exact q q5 od (p8.trans ((Kx.same η).trans (Kx.upd υ))) ⟨⟨dx,ti,ts,tk,to,db,tq,Z,β,ws,υ.at',(Kx.upd υ).kpt ο (χ.same η),(Kx.upd υ).wia (c4.same η) n0 l4 ο,(Kx.upd υ).tup ο q4⟩,g,tp⟩
noncomputable abbrev NAof (a:Ad):NP:=λH p N od=>NetA H a.cv a.aZ a.aK a.az p N od
theorem cN (T:Tx K mg a):FnOk P w K mg base CX0 1 a.cb a.nZ ["self"] (CG (NAof a)):=by
 refine T.bH.1.okA t4 λL A outer s H vs Q E Z h=>?_;obtain⟨p,N,od,rfl,na,q⟩:=h;obtain⟨dx,i,s,t,o,d,Y,rs,qs,ws,G,kp,O,eq⟩:=na.ho;have hi:=kp.i;refine⟨_,((ai (aB (bw (fq (K:=K) rfl) (by rfl) T.kh PyProof.Rows.boot_list (aa (aM (K:=K) rfl (pv 0) rfl) ae))))),ar (σ':=[some _]) rfl ?_⟩;walk_at "l2";refine aJ G T.bX T.pI rfl ?_;walk_at "l2";exact q
theorem d3 (T:Tx K mg a):FnOk P w K mg base CX0 1 a.bT a.mJ ["self"] (Lk (NAof a)):=by
 refine T.bW.1.okA r8 λL A outer s H vs Q E Z h=>?_;obtain⟨p,N,od,rfl,na,q⟩:=h;obtain⟨dx,i,s,t,o,d,Y,rs,qs,ws,G,kp,O,eq⟩:=na.ho;have ho:=kp.o;refine⟨_,((ai (aB (bw (fq (K:=K) rfl) (by rfl) T.kh PyProof.Rows.boot_list (aa (aM (K:=K) rfl (pv 0) rfl) ae))))),ar (σ':=[some _]) rfl ?_⟩;walk_at "l2";refine aJ G T.bX T.qL rfl ?_;walk_at "l2";exact q
theorem cH (T:Tx K mg a):FnOk P w K mg base CX0 1 a.bL a.lM ["self"] (Ff (NAof a)):=by
 refine T.bx.1.okA qi fun α A outer s H vs Q E δ h=>?_;obtain⟨p,N,od,rfl,na,q⟩:=h;obtain⟨dx,i,s,t,o,d,γ,rs,qs,ws,O,kp,β,eq⟩:=na.ho;have ht:=kp.t;refine⟨_,((ai (aB (bw (fq (K:=K) rfl) (by rfl) T.kh PyProof.Rows.boot_list (aa (aM (K:=K) rfl (pv 0) rfl) ae))))),ar (σ':=[some _]) rfl ?_⟩;walk_at "l2";refine aJ O T.bX T.dA rfl ?_;walk_at "l2";intro D H2 Y G Z;exact q D H2 qs Y G Z (λL m=>G.get (kp.tr L m)) kp.et
theorem c8 (T:Tx K mg a):FnOk P w K mg base CX0 3 a.cD a.p3 ["self","name"] (Fc (NAof a) a.aZ a.aK a.az):=by
 refine T.bU.1.okA vG fun ζ A outer s H vs Q E β h=>?_;obtain⟨p,N,od,z,rfl,na,hz,q⟩:=h;have δ:=oR β;obtain⟨dx,i,s,t,o,d,η,rs,qs,ws,γ,kp,O,eq⟩:=na.ho;have g:=na.g
 refine⟨_,((af (be (aj (iF T) β T.jM T.eV (aa (pv 1) (aa (aM (K:=K) rfl (pv 0) rfl) ae))))
  (ai (aB (mq δ (aM (K:=K) rfl (pv 0) rfl) (pv 1) (λ_ _=>rfl)))))),ar (σ':=[some _,some _]) rfl ?_⟩
 walk_at "l2";refine aJ γ T.bX T.gE rfl ?_;walk_at "l2";refine⟨z,d,N.names,rfl,O.knw,hz,g.nm z hz,λH2 Y=>?_⟩;have G:=O.same Y;walk_at "l2";refine aJ (Y.get γ) T.bX T.gE rfl ?_;walk_at "l2"
 have Z:∀ws:List (Str×Addr),z∈ws.map (·.1)->∃q∈ws,q.1=z/\valV (ws.map λq=>((Sum.inr q.1:Key),V.ref q.2)) (Sum.inr z)=some (.ref q.2):=by
  intro ws
  induction ws with
  | nil=>intro h;cases h
  | cons q l ih=>
    intro h;by_cases e:q.1=z
    ·exact⟨q,mem_cons_self ..,e,kD (congrArg Sum.inr e)⟩
    ·rw[map_cons] at h;obtain⟨L,m,ε,v⟩:=ih ((mem_cons.mp h).resolve_left λh2=>e h2.symm);refine⟨L,mem_cons_of_mem _ m,ε,?_⟩;rw[map_cons,kE λh2=>e (Sum.inr.inj h2)];exact v
 obtain⟨L,m,e,v⟩:=Z ws (by rw[O.nm];exact hz);refine qo G.d v ?_;have α:=G.ob L m;rw[e] at α;walk_at "l2";exact q L.2 H2 Y α
theorem iA (T:Tx K mg a):FnOk P w K mg base CX0 1 a.bg a.jw ["self"] (Lm (NAof a)):=by
 refine T.b6.1.okA nD fun ω A outer s H vs Q E hr h=>?_;obtain⟨p,N,od,rfl,na,q⟩:=h;obtain⟨dx,i,s,t,o,d,tq,rs,qs,ws,δ,kp,wi,eq⟩:=na.ho;have g:=na.g;have ν:=xO g na.tp;have hi:=kp.i;have ht:=kp.t;have ξ:qs.length=N.sts.length:=by rw[<-kp.et,length_map]
 have Z:=ν;unfold need at Z;rw[length_append,length_append,length_map] at Z;refine⟨_,((ai (aB (au i5 (au i5 (bw (fq (K:=K) rfl) (by rfl) T.kh PyProof.Rows.boot_list (aa (aM (K:=K) rfl (pv 0) rfl) ae)) (cy (osc:=ah dH) (ON:=["self"]) (N:=n10) (n:=1) (fx:=[]) rfl rfl rfl (by decide +kernel) (kS (K:=K) rfl (aM (K:=K) rfl (pv 0) rfl)) (aS (by decide)) (λ_ _ _ _ _=>⟨(aw (i:=0) (show List.Nodup (n10:List Str) from by decide +kernel) rfl (by walk_at "o")),bB,(aD (av (K:=K) rfl) (pv 0) ag (λ_ _=>rfl))⟩))) (bw (fq (K:=K) rfl) (by rfl) T.kh PyProof.Rows.boot_list (aa (aM (K:=K) rfl (pv 0) rfl) ae)))))),ar (σ':=[some _]) rfl ?_⟩;walk_at "l2";refine aJ δ T.bX T.pI rfl ?_;walk_at "l2";intro D2 H2 f2 β ψ;have γ:=β.get ht;walk_at "l2";refine aJ (β.get δ) T.bX T.dA rfl ?_;walk_at "l2";intro D3 α;refine tO (xs:=qs.map λr=>V.ref r.1) (λi ys H'=>Cs (λi ys=>ys=((qs.take i).map (·.2.1)).map V.str) H2 D3 i ys H') (Cs.zero α rfl) (λi ys H' _ c=>SqT.of (c.same.get γ)) (λi x ys H' ο c=>?_) (λys H3 c=>?_)
 ·obtain⟨r,L,rfl⟩:=aF ο;have π:=(List.getElem?_eq_some_iff.mp L).1;have er:=c.same.get (β.get (kp.tr r (mem_of_getElem? L)));walk_at "l2";refine Cs.put α c.same c.at' c.len (by omega) ?_;rw[c.pv,take_succ L,map_append,map_append];rfl
 ·have η:=c.at';rw[c.pv,length_map,take_length] at η;have O:=c.same;clear c;refine oy (O.get ψ) η (by rw[length_map,length_map,length_map,sizeLine_eq];omega) λD4 H4 f4 ι χ=>?_;have G:=β.trans (O.trans ι);have τ:=G.get eq;walk_at "l2";refine aJ (G.get δ) T.bX T.mB rfl ?_;walk_at "l2";intro D5 H5 f5 ε φ;refine oy (ε.get χ) φ (by rw[length_append,length_map,length_map,length_map,length_map,sizeLine_eq];omega) λD6 H6 ρ θ ζ=>?_;have υ:N.ins++qs.map (·.2.1)++od=need N od:=by unfold need;rw[<-kp.et,map_map];rfl
  rw[<-map_append,<-map_append,υ] at ζ;have Y:=G.trans ε;exact q D6 H6 (Y.free ρ) (Y.trans θ) ζ
theorem ke (T:Tx K mg a):FnOk P w K mg base CX0 1 a.bK a.lL ["self"] (Fb (NAof a)):=by
 refine T.cS.1.okA qh fun α A outer s H vs Q E γ h=>?_;obtain⟨p,N,od,rfl,na,q⟩:=h;obtain⟨dx,i,s,t,o,d,β,rs,qs,ws,O,kp,G,eq⟩:=na.ho;have hd:=G.d;refine⟨_,((ai (aB (bw (Em rfl) (by rfl) T.kh PyProof.Rows.boot_list (aa (aM (K:=K) rfl (pv 0) rfl) ae))))),ar (σ':=[some _]) rfl ?_⟩;walk_at "l2";refine aJ O T.bX T.gE rfl ?_;walk_at "l2";intro D H2 Y L Z;refine q D H2 Y L ?_;rw[Z,<-G.nm];unfold za;rw[map_map,map_map];rfl
theorem yS (T:Tx K mg a):FnOk P w K mg base CX0 4 a.fV a.vk ["net","row","state"] (IF (NAof a)):=by
 refine T.lg.1.okA md λb3 A outer s H vs Q E ε h=>?_;obtain⟨p,N,od,row,st,rfl,na,q⟩:=h;have hu:=oR ε;obtain⟨dx,i,s,t,o,d,tq,rs,qs,ws,hp,kp,wi,eq⟩:=na.ho;have g:=na.g;have tp:=na.tp;have nl:=xO g tp
 refine⟨_,((af (aA (i:=3) md.nd rfl (by walk_at "o") pq)
  (af (dz PassesOwn.never rfl (aU (K:=K) rfl (bf (pv 0) T.bX T.jd (iA T) (ε.mono (by decide)) T.b6.2 .nil bO)) (aw (i:=4) md.nd rfl (by walk_at "o")) (ai (xy hu (pv 3) (pv 4) (PE.or (eh (eh (pv 0) T.bX T.dJ (c8 T) (ε.mono (by decide)) T.bU.2 .nil bO (aa (pv 4) ae)) T.lh T.yV (xJ T) (ε.mono (by decide)) T.ia.2 .nil bO (aa (pv 3) (aa (pv 1) (aa (pv 2) ae)))) (PE.or (eh (eh (pv 0) T.bX T.dJ (c8 T) (ε.mono (by decide)) T.bU.2 .nil bO (aa (pv 4) ae)) T.jD T.xR (vO T) (ε.mono (by decide)) T.gJ.2 .nil bO (aa (pv 3) (aa (pv 1) (aa (pv 2) ae)))) (eh (eh (pv 0) T.bX T.dJ (c8 T) (ε.mono (by decide)) T.bU.2 .nil bO (aa (pv 4) ae)) T.fc T.uD (sg T) (ε.mono (by decide)) T.eW.2 .nil bO (aa (pv 3) (aa (pv 1) (aa (pv 2) ae)))))) rfl)))
  (ai (aB (pv 3)))))),ar (σ':=[some _,some _,some _,none,none]) rfl ?_⟩
 walk_at "l2";intro η H1 f1 ω e1;have a5:=ω.get hp;walk_at "l2";refine aC a5 rfl ?_;walk_at "l2";refine⟨p,N,od,rfl,na.same ω,λD2 H2 f2 s2 e2=>?_⟩;have a0:=ω.trans s2;walk_at "l2";refine gF (xs:=(need N od).map V.str) (λi σ H'=>∃v f,σ=[some (.ref p),some (nat row),some (nat st),some (.ref η),v]/\Same H H'/\H' D2=some (.lst ((need N od).map V.str))/\H' η=some (.dK (bitK f ((need N od).take i)))/\Pre N row st ((need N od).take i) f) ⟨none,λ_=>false,rfl,a0,e2,s2.get e1,Pre.nil ..⟩ (λi σ H' _ ⟨_,_,_,_,e',_⟩=>SqL.of e') ?_ ?_
 ·rintro i y σ H' ο ⟨v,f,rfl,s',eD,ν,χ⟩;obtain⟨z,hz,rfl⟩:=aF ο;have b0:=(List.getElem?_eq_some_iff.mp hz).1;have β:=(jJ g tp z).mp (mem_of_getElem? hz);have ι:=s'.get hp;have θ:=na.same s';obtain⟨a8,a7,a6,x1,x2,x3⟩:=kW g;have Y:=uB g tp hz
  have fin:∀(b:Bool) (H4 Z:Hp),Same H' H4->Upd H4 Z η (.dK (putK (bitK f ((need N od).take i)) (Sum.inr z) (nat (M.bn b))))->Bt N row st ((need N od).take i) f z b->∃ζ,Same H Z/\Z D2=some (.lst ((need N od).map V.str))/\Z η=some (.dK (bitK ζ ((need N od).take (i + 1))))/\Pre N row st ((need N od).take (i + 1)) ζ:=λb H4 Z φ α bt=>by
   have ek:putK (bitK f ((need N od).take i)) (Sum.inr z) (nat (M.bn b))=bitK (λy=>if y=z then b else f y) ((need N od).take (i + 1)):=by
    rw[Aw (HB f _) Y,take_succ hz];unfold bitK;rw[map_append];congr 1
    ·exact List.map_congr_left λy ο=>by show(_,nat (M.bn (f y)))=(_,nat (M.bn (if y=z then b else f y)));rw[if_neg (λ(e:y=z)=>Y (e ▸ ο))]
    ·show[(_,nat (M.bn b))]=[(_,nat (M.bn (if z=z then b else f z)))];rw[if_pos rfl]
   rw[ek] at α;refine⟨_,λbb o e=>α.oth _ _ (ao e f1) (φ.get (s'.get e)),α.oth _ _ (b4 (φ.get eD) (φ.get ν) λz=>by cases z) (φ.get eD),α.at',by rw[take_succ hz];exact χ.step Y bt⟩
  have lk:(bitK f ((need N od).take i)).length<=1000:=by unfold bitK;rw[length_map,length_take];omega
  walk_at "l2";have δ:=β;unfold Nt.names at δ;rcases mem_append.mp δ with h' | h'
  ·rcases mem_append.mp h' with h' | h'
   ·refine Or.inl ?_;walk_at "l2";refine aC ι rfl ?_;walk_at "l2";refine⟨p,N,od,z,rfl,θ,β,λw υ γ ξ=>?_⟩;have L:=γ.get ν;cases ξ with
    | i k G hk e=>
      walk_at "l2";refine aC e rfl ?_;walk_at "l2";refine⟨w,G,.str z,(k:Int),.ref η,(row:Int),(st:Int),rfl,e,by omega,?_⟩;rw[zT,show(if row.testBit k=true then (1:Int) else 0)=((M.bn (row.testBit k):Nat):Int) by unfold M.bn;cases row.testBit k<;>rfl];walk_at "l2";refine ox L (aE lk) λZ α=>?_;obtain⟨ζ,a1,a2,τ,ρ⟩:=fin (row.testBit k) υ Z γ α (Pu g hk);walk_at "l2";exact⟨_,ζ,rfl,a1,a2,τ,ρ⟩
    | s O G ψ hk e et=>exact absurd (mem_map.mpr ⟨_,hk,rfl⟩) (x1 z h')
    | t k y G hk e=>exact absurd (mem_map.mpr ⟨_,mem_of_getElem? hk,rfl⟩) (x2 z h')
   ·refine Or.inr (Or.inl ?_);walk_at "l2";refine aC ι rfl ?_;walk_at "l2";refine⟨p,N,od,z,rfl,θ,β,λw υ γ ξ=>?_⟩;have L:=γ.get ν;cases ξ with
    | i k G hk e=>exact absurd h' (x1 z (mem_of_getElem? hk))
    | s O G ψ hk e et=>
      have π:=AJ g tp hz O hk;walk_at "l2";refine aC e rfl ?_;walk_at "l2";refine⟨w,G,.str z,ψ,η,O,_,λy=>((M.bn (f y):Nat):Int),(row:Int),(st:Int),rfl,e,SqT.of et,L,λy ο=>xg f (π y ο),?_⟩;rw[ME];walk_at "l2";refine ox L (aE lk) λZ α=>?_;obtain⟨ζ,a1,a2,τ,ρ⟩:=fin (xb f O) υ Z γ α (KP g hk π);walk_at "l2";exact⟨_,ζ,rfl,a1,a2,τ,ρ⟩
    | t k y G hk e=>exact absurd (mem_map.mpr ⟨_,mem_of_getElem? hk,rfl⟩) (x3 z h')
  ·refine Or.inr (Or.inr ?_);walk_at "l2";refine aC ι rfl ?_;walk_at "l2";refine⟨p,N,od,z,rfl,θ,β,λw υ γ ξ=>?_⟩;have L:=γ.get ν;cases ξ with
   | i k G hk e=>exact absurd h' (x2 z (mem_of_getElem? hk))
   | s O G ψ hk e et=>exact absurd h' (x3 z (mem_map.mpr ⟨_,hk,rfl⟩))
   | t k y G hk e=>
     walk_at "l2";refine aC e rfl ?_;walk_at "l2";refine⟨w,G,.str z,.str y,(k:Int),.ref η,(row:Int),(st:Int),rfl,e,by omega,?_⟩;rw[zT,show(if st.testBit k=true then (1:Int) else 0)=((M.bn (st.testBit k):Nat):Int) by unfold M.bn;cases st.testBit k<;>rfl];walk_at "l2";refine ox L (aE lk) λZ α=>?_;obtain⟨ζ,a1,a2,τ,ρ⟩:=fin (st.testBit k) υ Z γ α (Pt g hk);walk_at "l2";exact⟨_,ζ,rfl,a1,a2,τ,ρ⟩
 ·rintro σ H' ⟨v,f,rfl,s',eD,ν,χ⟩;rw[length_map,take_length] at ν χ;walk_at "l2";exact q η H' f f1 s' ν (F3 g tp χ)
theorem wH (T:Tx K mg a):FnOk P w K mg base CX0 2 a.jm a.zI ["wires","bits"] Fl:=by
 refine T.mM.1.okA CN fun ε A outer s H vs Q E Y h=>?_;obtain⟨l,d,ws,zs,f,rfl,hl,hd,ln,sub,q⟩:=h;have β:=oR Y;refine⟨_,((ai (aB (aj (qF T) Y T.ve T.kA (aa (cy (osc:=ah o7) (ON:=["wires","bits"]) (N:=["place","wire","bits"]) (n:=2) (fx:=[1]) rfl rfl rfl (by decide +kernel) (ph (K:=K) rfl (by rfl) T.eK (pv 0)) (B0 (jL (aS (by decide)) (jL (aS (by decide)) yb))) (λ_ _ _ _ _=>⟨(xB (K:=K) (n:=2) rfl rfl (dm (aw (i:=0) (show List.Nodup (["place","wire","bits"]:List Str) from by decide +kernel) rfl (by walk_at "o")) (dm (aw (i:=1) (show List.Nodup (["place","wire","bits"]:List Str) from by decide +kernel) rfl (by walk_at "o")) mn))),(iZ (aI fK (mq β (pv 2) (pv 1) (λ_ _=>rfl)) ag (aQ _))),(pv 0)⟩)) ae))))),ar (σ':=[some _,some _]) rfl ?_⟩;walk_at "l2";refine .inl ⟨⟨_,SqL.of hl⟩,?_⟩;intro D Z;refine Ej (xs:=ws.map V.str) (λi ys H'=>ys=((List.range i).filter λk=>f (ws.getD k "")).map nat/\Same H H'/\H' D=some (.lst ys)) ⟨rfl,bh Z,ay⟩ (λi ys H' _ ⟨_,s',_⟩=>SqL.of (s'.get hl)) (λi x ys H' ζ H2 α ⟨ey,s',O⟩ fp L η=>?_) (λys H' ⟨ey,s',O⟩=>?_)
 ·obtain⟨z,hz,rfl⟩:=aF α;have γ:=(List.getElem?_eq_some_iff.mp hz).1;have δ:ws.getD i ""=z:=by rw[getD_eq_getElem?_getD,hz];rfl
  have fs:(List.range (i + 1)).filter (λk=>f (ws.getD k ""))=(List.range i).filter (λk=>f (ws.getD k ""))++(if f z=true then [i] else []):=by rw[range_succ,filter_append,filter_cons,δ];rfl
  have G:=L.get O;walk_at "l2";refine qo (L.get (s'.get hd)) (xg f (sub z (mem_of_getElem? hz))) ?_;cases hf:f z with
  | true=>
    walk_at "l2";refine⟨G,?_,?_,λb o e=>?_,ay⟩
    ·rw[ey,length_map];have:=length_filter_le (λk=>f (ws.getD k "")) (List.range i);rw[length_range] at this;exact aE (by omega)
    ·rw[fs,hf,ey];simp
    ·rw[aG (ao e Z)];exact L.get (s'.get e)
  | false=>
    walk_at "l2";refine⟨?_,s'.trans L,G⟩;rw[fs,hf,ey];simp
 ·rw[length_map] at ey;rw[ey] at O;walk_at "l2";refine⟨D,_,rfl,O,λk hk=>?_,?_⟩
  ·have:=mem_range.mp (mem_filter.mp hk).1;omega
  ·rw[O0];exact q H' s'
theorem Of:(∀(v:V) (r:List (Str×V)),([]:List (Str×V))≠(("name":Str),v)::r)/\∀(v:V) (r:List (Str×V)),([]:List (Str×V))≠(("ins":Str),v)::r:=⟨λ_ _ h=>(by cases h),λ_ _ h=>(by cases h)⟩
theorem FL (x:V) (fs:List (Str×V)):(∀(v:V) (r:List (Str×V)),(("net":Str),x)::fs≠(("name":Str),v)::r)/\∀(v:V) (r:List (Str×V)),(("net":Str),x)::fs≠(("ins":Str),v)::r:=
 ⟨λ_ _ h=>(by injection h with h _;injection h with h _;exact absurd h (by decide)),λ_ _ h=>(by injection h with h _;injection h with h _;exact absurd h (by decide))⟩
theorem uu (T:Tx K mg a):FnOk P w K mg base CX0 1 a.b8 a.nX ["self","net"] (Cy (NAof a) a.fH):=by
 refine T.hV.1.okA tY fun ν A outer s H vs Q E ξ h=>?_;obtain⟨x,dx,n,N,od,rfl,ζ,na,q⟩:=h
 refine⟨_,((af (cM (K:=K) rfl (pv 0) (pv 1) rfl)
  (af (cM (K:=K) rfl (pv 0) ag rfl)
  (af (cM (K:=K) rfl (pv 0) pq rfl)
  (ai (cM (K:=K) rfl (pv 0) (cw ae) rfl)))))),ar (σ':=[some _,some _]) rfl ?_⟩
 walk_at "l2";refine cL ζ T.lX T.mz (by show 0 < 1000;decide) rfl λH1 γ=>?_;walk_at "l2";refine cL γ.at' T.lX T.m4 (by show 1 < 1000;decide) rfl λH2 θ=>?_;have G:=γ.trans θ;walk_at "l2";intro d υ ο Z π;walk_at "l2";refine cL (Z.get G.at') T.lX T.m5 (by show 2 < 1000;decide) rfl fun τ O=>?_;walk_at "l2";intro l ρ β δ ι;walk_at "l2";refine cL (δ.get O.at') T.lX T.uC (by show 3 < 1000;decide) rfl fun η Y=>?_;walk_at "l2";have ε:Kx x H η:=(Kx.upd G).trans ((Kx.same Z).trans ((Kx.upd O).trans ((Kx.same δ).trans (Kx.upd Y))));have L:l≠x:=λz=>(by rw[z,O.at'] at β;cases β)
 have α:H l=none:=by
  cases e:H l with
  | none=>rfl
  | some o=>
    have:=O.oth _ _ L (Z.get (G.oth _ _ L e));rw[β] at this;cases this
 exact q η l ε α ⟨⟨dx,d,Y.at'⟩,Y.oth _ _ L ι,na.keep ζ Of ε⟩
theorem rF (T:Tx K mg a):FnOk P w K mg base CX0 1 a.dW a.vq ["self"] (Fg (NAof a) a.fH):=by
 refine T.g8.1.okA yG λO A outer s H vs Q E Y h=>?_;obtain⟨p,l,n,N,od,st,Z,rfl,G,q⟩:=h;obtain⟨dx,d,L⟩:=G.ho;refine⟨_,((ai (aB (aM (K:=K) rfl (pv 0) rfl)))),ar (σ':=[some _]) rfl ?_⟩;walk_at "l2";refine aJ L T.lX T.m4 rfl ?_;walk_at "l2";exact q
theorem AF (T:Tx K mg a):FnOk P w K mg base CX0 5 a.fj a.w4 ["self","row"] (IH (NAof a) a.fH):=by
 refine T.kB.1.okA tX λd4 A outer s H vs Q E δ h=>?_;obtain⟨p,l,n,N,od,st,row,as,rfl,ra,ο,c4,q⟩:=h;obtain⟨dx,d,ζ⟩:=ra.ho;have hl:=ra.hl;have na:=ra.na;have g:=na.g;have tp:=na.tp;have η:l≠p:=b4 hl ζ λz=>by cases z
 obtain⟨d1,ni,ns,nt,no,nd,c0,c1,c2,b3,hn,_⟩:=na.ho
 refine⟨_,((af (cG (gx (eu (aj (mZ T) δ T.mE T.h9 (aa (pv 1) (aa (aH (aP (K:=K) rfl) (by rfl) T.fG PySem.boot_len (aa (bf (aM (K:=K) rfl (pv 0) rfl) T.bX T.dc (cN T) (δ.mono (by decide)) T.bH.2 .nil bO) ae)) ae))))) (ai gP) aV)
  (af (cM (K:=K) rfl (pv 0) (aj (yS T) δ T.A3 T.lg (aa (aM (K:=K) rfl (pv 0) rfl) (aa (pv 1) (aa (aM (K:=K) rfl (pv 0) rfl) ae)))) rfl)
  (af (cM (K:=K) rfl (pv 0) (aj (wH T) δ T.zf T.mM (aa (cy (osc:=ah mW) (ON:=["self","row","answer"]) (N:=["store"]) (n:=1) (fx:=[]) rfl rfl rfl (by decide +kernel) (aU (K:=K) rfl (bf (aM (K:=K) rfl (pv 0) rfl) T.bX T.cR (cH T) (δ.mono (by decide)) T.bx.2 .nil bO)) (aS (by decide)) (λ_ _ _ _ _=>⟨(aw (i:=0) (show List.Nodup (["store"]:List Str) from by decide +kernel) rfl (by walk_at "o")),bB,(aD (av (K:=K) rfl) (pv 0) ag (λ_ _=>rfl))⟩)) (aa (aM (K:=K) rfl (pv 0) rfl) ae))) rfl)
  (af (aA (i:=2) tX.nd rfl (by walk_at "o") (aj (wH T) δ T.zf T.mM (aa (bf (aM (K:=K) rfl (pv 0) rfl) T.bX T.eL (d3 T) (δ.mono (by decide)) T.bW.2 .nil bO) (aa (aM (K:=K) rfl (pv 0) rfl) ae))))
  (af (be (d2 (K:=K) rfl PySem.F.plainAttrs_list PySem.F.slot_list_append PySem.F.type_list_append cW (aM (K:=K) rfl (pv 0) rfl) (aa (pv 2) ae)))
  (ai (aB (pv 2))))))))),ar (σ':=[some _,some _,none]) rfl ?_⟩
 walk_at "l2";refine aJ ζ T.lX T.mz rfl ?_;walk_at "l2";refine aC hn rfl ?_;walk_at "l2";refine⟨n,N,od,rfl,na,λD1 H1 f1 s1 e1=>?_⟩;have φ:=s1.get ζ;walk_at "l2";rw[length_map,cX ο];walk_at "l2";refine aJ φ T.lX T.mz rfl ?_;walk_at "l2";refine aJ φ T.lX T.m4 rfl ?_;walk_at "l2";refine⟨n,N,od,row,st,rfl,na.same s1,λdb H2 f f2 s2 e2 vl=>?_⟩;have ι:=s1.trans s2;have υ:=ι.get ζ;walk_at "l2";refine cL υ T.lX T.m5 (by show 4 < 1000;decide) rfl λH3 u3=>?_;have G:=u3.at';have k3:Kx p H H3:=(Kx.same ι).trans (Kx.upd u3);have ξ:=na.keep ζ (FL _ _) k3;have a6:=k3 _ _ η hl
 have χ:n≠p:=λz=>by
  rw[z,ζ] at hn;injection hn with hn
  injection hn with _ _ hn
  exact(FL _ _).2 _ _ hn
 have ψ:=k3 _ _ χ hn;have Z:=u3.oth _ _ (b4 e2 υ λz=>by cases z) e2;walk_at "l2";refine aJ G T.lX T.mz rfl ?_;walk_at "l2";refine aC ψ rfl ?_;walk_at "l2";refine⟨n,N,od,rfl,ξ,λD4 H4 qs f4 s4 e4 qk et=>?_⟩;have c3:qs.length<=16:=by have:=g.lt;rw[<-et,length_map] at this;exact this
 walk_at "l2";intro D5 θ;refine aX (xs:=qs.map λr=>V.ref r.1) (λi ys H'=>Cs (λi ys=>ys=((qs.take i).map (·.2.2)).map V.str) H4 D5 i ys H') (Cs.zero θ rfl) (λi ys H' _ c=>SqL.of (c.same.get e4)) (λi x ys H' hx c=>?_) (λys H5 c=>?_)
 ·obtain⟨r,γ,rfl⟩:=aF hx;have c5:=(List.getElem?_eq_some_iff.mp γ).1;have er:=c.same.get (qk r (mem_of_getElem? γ));walk_at "l2";refine Cs.put θ c.same c.at' c.len (by omega) ?_;rw[c.pv,take_succ γ,map_append,map_append];rfl
 ·have e5:=c.at';rw[c.pv,length_map,take_length] at e5;have Y:=s4.trans c.same;clear c;have a7:qs.map (·.2.2)=N.sts.map (·.2):=by rw[<-et,map_map];rfl
  rw[a7] at e5;have τ:=Y.get G;walk_at "l2";refine aJ τ T.lX T.m5 rfl ?_;walk_at "l2";refine⟨D5,db,_,need N od,f,rfl,e5,Y.get Z,by rw[length_map,<-et,length_map];omega,λw hw=>(jJ g tp w).mpr (by obtain⟨q',a0,rfl⟩:=mem_map.mp hw;exact g.ts q' a0),λH6 s6=>?_⟩;rw[Ky g tp vl];have α:=Y.trans s6;have ρ:=α.get G;walk_at "l2";refine cL ρ T.lX T.m4 (by show 4 < 1000;decide) rfl λH7 u7=>?_;have ε:=u7.at';have β:Kx p H3 H7:=(Kx.same α).trans (Kx.upd u7);have k7:Kx p H H7:=k3.trans β;have ν:=na.keep ζ (FL _ _) k7;have a5:=k7 _ _ η hl;have a4:=k7 _ _ χ hn;have a8:=β _ _ (b4 Z G λz=>by cases z) Z;clear u7 ρ α s6 τ e5 θ Y e4 qk et f4 s4 ψ ξ a6 β Z G;walk_at "l2";refine aJ ε T.lX T.mz rfl ?_;walk_at "l2";refine aC a4 rfl ?_;walk_at "l2";refine⟨n,N,od,rfl,ν,λD8 H8 f8 s8 e8=>?_⟩;have a3:=s8.get ε;walk_at "l2";refine aJ a3 T.lX T.m5 rfl ?_;walk_at "l2";have lo:=g.lo;refine⟨D8,db,N.outs,need N od,f,rfl,e8,s8.get a8,by omega,λw hw=>(jJ g tp w).mpr (g.os w hw),λH9 s9=>?_⟩;rw[OV g tp vl];have O:=s8.trans s9;have π:=O.get ε;have ω:=O.get a5;walk_at "l2";refine aJ π T.lX T.uC rfl ?_;walk_at "l2";refine fg ω (by rw[length_map,sizeLine_eq];omega) λb0 L=>?_;walk_at "l2";refine q b0 (λb ob n1 n2 e=>L.oth _ _ n2 (O.get (k7 _ _ n1 e))) ⟨⟨dx,db,L.oth _ _ η.symm π⟩,by rw[L.at',map_append];rfl,(ν.same O).updL ω L.oth⟩
theorem Dg (T:Tx K mg a):FnOk P w K mg base CX0 3 a.jq a.zJ ["thing","stores","inputs"] IJ:=by
 have G:FnOk P w K mg base CX0 2 a.hX a.vm ["thing","width"] (Ai K):=mZ T;refine T.qc.1.okA CO λZ A outer s H vs Q E L h=>?_;obtain⟨t,x,y,n,m,rfl,ht,Y,O,q⟩:=h
 refine⟨_,((af (cG (PW.pt (qy (gx (eu (aH (kr (K:=K) rfl) (by rfl) T.gf PyProof.Rows.boot_isinstance (aa (pv 0) (aa (qC (v:= .ty "tuple") (by rfl) T.j6 PyProof.Rows.boot_tuple rfl) ae))))) (pe (aI F7 (aH (aP (K:=K) rfl) (by rfl) T.fG PySem.boot_len (aa (pv 0) ae)) ag (aQ _))))) (ai (aB pA)) aV)
  (ai (aB (nT (aj G L T.mE T.h9 (aa (aD (av (K:=K) rfl) (pv 0) ag (λ_ _=>rfl)) (aa (pv 1) ae))) (pj (aj G L T.mE T.h9 (aa (aD (av (K:=K) rfl) (pv 0) ag (λ_ _=>rfl)) (aa (pv 2) ae))))))))),ar (σ':=[some _,some _,some _]) rfl ?_⟩
 walk_at "l2";refine kK (cX Y) ?_;walk_at "l2";rw[cX O];exact q
theorem vL (T:Tx K mg a):FnOk P w K mg base CX0 4 a.dP a.pU ["inputs","nexts","outs"] Lq:=by
 have G:FnOk P w K mg base CX0 1 a.fi a.ng ["thing"] (tG K):=oJ T;refine T.iJ.1.okA vE fun η A outer s H vs Q E α h=>?_;obtain⟨n,o,m,nx,os,rfl,t,q⟩:=h
 refine⟨_,((af (cG (PW.pt (qy (gx (eu (aj G α T.rn T.iS (aa (pv 0) ae)))) (qy (aI Da (pv 0) ag (aQ _)) (pe (aI oH (pv 0) (iy (v:= .int 6) (by rfl) T.yh ⟨_,rfl⟩) (aQ _)))))) (ai (kR PySem.F.excBase_ValueError T.fY thr0 rfl (by rfl) T.nc (aa bq ae))) aV)
  (af (cG (PW.pt (qy (gx (eu (aH (kr (K:=K) rfl) (by rfl) T.gf PyProof.Rows.boot_isinstance (aa (pv 1) (aa (qC (v:= .ty "list") (by rfl) T.kh PyProof.Rows.boot_list rfl) ae))))) (pe (aI oH (aH (aP (K:=K) rfl) (by rfl) T.fG PySem.boot_len (aa (pv 1) ae)) (iy (v:= .int 120) (by rfl) T.lV ⟨_,rfl⟩) (aQ _))))) (ai (kR PySem.F.excBase_ValueError T.fY thr0 rfl (by rfl) T.nc (aa bq ae))) aV)
  (af (cG (PW.pt (qy (gx (eu (aH (kr (K:=K) rfl) (by rfl) T.gf PyProof.Rows.boot_isinstance (aa (pv 2) (aa (qC (v:= .ty "list") (by rfl) T.kh PyProof.Rows.boot_list rfl) ae))))) (pe (aI oH (aH (aP (K:=K) rfl) (by rfl) T.fG PySem.boot_len (aa (pv 2) ae)) (iy (v:= .int 6) (by rfl) T.nK ⟨_,rfl⟩) (aQ _))))) (ai (kR PySem.F.excBase_ValueError T.fY thr0 rfl (by rfl) T.nc (aa bq ae))) aV)
  (ai (cG (gx (eu (aH (vw (K:=K) rfl rfl) (by rfl) T.Mi PyProof.Rows.boot_all (aa (cy (osc:=ah iD) (ON:=["inputs","nexts","outs"]) (N:=["pair","nexts","inputs"]) (n:=1) (fx:=[1,0]) rfl rfl rfl (by decide +kernel) (aU (K:=K) rfl (au i5 (pv 1) (pv 2))) (aS (by decide)) (λ_ _ _ _ _=>⟨(aw (i:=0) (show List.Nodup (["pair","nexts","inputs"]:List Str) from by decide +kernel) rfl (by walk_at "o")),bB,(aj (Dg T) α T.GW T.qc (aa (pv 0) (aa (aH (aP (K:=K) rfl) (by rfl) T.fG PySem.boot_len (aa (pv 1) ae)) (aa (pv 2) ae))))⟩)) ae)))) (ai (kR PySem.F.excBase_ValueError T.fY thr0 rfl (by rfl) T.nc (aa bq ae))) aV)))))),ar (σ':=[some _,some _,some _]) rfl ?_⟩
 walk_at "l2";have m6:=t.m6;have ln:=t.ln;have lo:=t.lo;have hn:=t.n;have ho:=t.o;have ε:(refs nx).length=nx.length:=length_map ..
 have ι:(refs os).length=os.length:=length_map ..
 refine ie (decide_eq_false (by omega)) ?_;walk_at "l2";refine ie (decide_eq_false (by omega)) ?_;walk_at "l2";refine ie (decide_eq_false (by omega)) ?_;walk_at "l2";refine oy hn ho (by rw[sizeLine_eq];omega) λp H2 θ Z ζ=>?_;walk_at "l2";intro D β;refine aX (xs:=refs nx++refs os) (λi ys H'=>Cs (λi ys=>ys=(List.replicate i true).map V.bl) H2 D i ys H') (Cs.zero β rfl) (λi ys H' _ c=>SqL.of (c.same.get ζ)) (λi x ys H' Y c=>?_) (λys H' c=>?_)
 ·have Y:(refs (nx++os))[i]? =some x:=by unfold refs at Y ⊢;rw[map_append];exact Y
  obtain⟨L,O,rfl⟩:=aF Y;have hm:=mem_of_getElem? O;have hi:=(List.getElem?_eq_some_iff.mp O).1;rw[length_append] at hi;have hb:=t.bn L hm;have ht:H L.1=some (.tup [nat L.2.1,nat L.2.2]):=(mem_append.mp hm).elim (t.pn L) (t.po L);have δ:=c.same.get (Z.get hn);walk_at "l2";rw[ε];refine⟨L.1,L.2.1,L.2.2,nx.length,m,rfl,c.same.get (Z.get ht),hb.1,hb.2,?_⟩;refine Cs.put β c.same c.at' c.len (by omega) ?_;rw[c.pv,replicate_succ',map_append];rfl
 ·have γ:=c.at';rw[c.pv] at γ;walk_at "l2";refine BB (SqL.of γ) ?_;walk_at "l2";refine ie (by rw[List.all_replicate];simp) ?_;walk_at "l2";exact q H' (Z.trans c.same)
theorem oM (T:Tx K mg a):FnOk P w K mg base CX0 5 a.bp a.jO ["self","inputs","nexts","outs"] (Ln a.ax):=by
 refine T.eC.1.okA oq fun ω A outer s H vs Q E ρ h=>?_;obtain⟨x,dx,n,o,m,nx,os,rfl,α,t,q⟩:=h
 refine⟨_,((af (be (aj (vL T) ρ T.ye T.iJ (aa (pv 1) (aa (pv 2) (aa (pv 3) ae)))))
  (af (cM (K:=K) rfl (pv 0) (pv 1) rfl)
  (af (cM (K:=K) rfl (pv 0) (bw (dX (K:=K) rfl) (by rfl) T.j6 PyProof.Rows.boot_tuple (aa (pv 2) ae)) rfl)
  (ai (cM (K:=K) rfl (pv 0) (bw (dX (K:=K) rfl) (by rfl) T.j6 PyProof.Rows.boot_tuple (aa (pv 3) ae)) rfl)))))),ar (σ':=[some _,some _,some _,some _]) rfl ?_⟩
 walk_at "l2";refine⟨n,o,m,nx,os,rfl,t,λH1 γ=>?_⟩;have η:=b4 t.n α (by simp);have Z:=b4 t.o α (by simp);walk_at "l2";refine cL (γ.get α) T.bc T.fQ (by decide) rfl λH2 L=>?_;have υ:=L.oth _ _ η (γ.get t.n);have ι:=L.oth _ _ Z (γ.get t.o);walk_at "l2";intro ν H3 ο ζ ψ;have O:ν≠x:=λz=>by rw[z,L.at'] at ο;cases ο
 walk_at "l2";refine cL (ζ.get L.at') T.bc T.dB (by show 1 < 1000;decide) rfl λH4 G=>?_;have τ:=G.oth _ _ Z (ζ.get ι);have χ:=G.oth _ _ O ψ;walk_at "l2";intro to H5 ξ ε φ;have δ:to≠x:=λz=>by rw[z,G.at'] at ξ;cases ξ
 walk_at "l2";refine cL (ε.get G.at') T.bc T.nV (by show 2 < 1000;decide) rfl fun π β=>?_;have k:∀b ob,b≠x->H b=some ob->π b=some ob:=λb ob θ e=>β.oth _ _ θ (ε.get (G.oth _ _ θ (ζ.get (L.oth _ _ θ (γ.get e)))));walk_at "l2";refine q π k ⟨⟨dx,ν,to,β.at',β.oth _ _ O (ε.get χ),β.oth _ _ δ φ⟩,λY h=>k _ _ ?_ (t.pn Y h),λY h=>k _ _ ?_ (t.po Y h)⟩
 ·exact b4 (t.pn Y h) α (by simp)
 ·exact b4 (t.po Y h) α (by simp)
theorem kg (T:Tx K mg a):FnOk P w K mg base CX0 1 a.bN a.lO ["self"] (Fe a.ax):=by
 refine T.cT.1.okA qj λL A outer s H vs Q E Y h=>?_;obtain⟨p,m,nx,os,rfl,ma,q⟩:=h;obtain⟨dx,O,to,ho,hn,G⟩:=ma.ho;refine⟨_,((ai (aB (aH (aP (K:=K) rfl) (by rfl) T.fG PySem.boot_len (aa (aM (K:=K) rfl (pv 0) rfl) ae))))),ar (σ':=[some _]) rfl ?_⟩;walk_at "l2";refine aJ ho T.bc T.dB rfl ?_;walk_at "l2";unfold refs;rw[length_map];exact q
theorem Gd (T:Tx K mg a):FnOk P w K mg base CX0 2 a.kZ a.B7 ["pair","state","row"] IR:=by
 refine T.tP.1.okA FC λL A outer s H vs Q E G h=>?_;obtain⟨t,a1,b1,x,r,rfl,ht,ha,hb,q⟩:=h;refine⟨_,((ai (aB (fF F7 (aj (AD T) G T.GX T.xc (aa (au ly (aD (av (K:=K) rfl) (pv 0) ag (λ_ _=>rfl)) (pv 1)) ae)) (aj (AD T) G T.GX T.xc (aa (au ly (aD (av (K:=K) rfl) (pv 0) ag (λ_ _=>rfl)) (pv 2)) ae)) (aQ _))))),ar (σ':=[some _,some _,some _]) rfl ?_⟩;walk_at "l2";rw[dE];refine⟨a1&&&x,rfl,lt_of_le_of_lt Nat.and_le_left ha,?_⟩;walk_at "l2";rw[dE];refine⟨b1&&&r,rfl,lt_of_le_of_lt Nat.and_le_left hb,?_⟩;walk_at "l2";rw[EM];exact q
theorem pC (T:Tx K mg a):FnOk P w K mg base CX0 3 a.eM a.rK ["pairs","state","row"] (Ll K):=by
 refine T.h8.1.okA xk fun θ A outer s H vs Q E γ h=>?_;obtain⟨r,ps,x,y,rfl,δ,pt,hl,hb,q⟩:=h;refine⟨_,((ai (aB (aj (qF T) γ T.ve T.kA (aa (cy (osc:=ah jF) (ON:=["pairs","state","row"]) (N:=n19) (n:=2) (fx:=[1,2]) rfl rfl rfl (by decide +kernel) (ph (K:=K) rfl (by rfl) T.eK (pv 0)) (B0 (jL (aS (by decide)) (jL (aS (by decide)) yb))) (λ_ _ _ _ _=>⟨(xB (K:=K) (n:=2) rfl rfl (dm (aw (i:=0) (show List.Nodup (n19:List Str) from by decide +kernel) rfl (by walk_at "o")) (dm (aw (i:=1) (show List.Nodup (n19:List Str) from by decide +kernel) rfl (by walk_at "o")) mn))),(iZ (eu (aj (Gd T) γ T.JL T.tP (aa (pv 1) (aa (pv 2) (aa (pv 3) ae)))))),(pv 0)⟩)) ae))))),ar (σ':=[some _,some _,some _]) rfl ?_⟩;walk_at "l2";refine .inr ⟨⟨_,δ⟩,?_⟩;intro D ε;refine rq (xs:=refs ps) (λi ys H'=>Cs (λi ys=>∃qs:List Nat,ys=qs.map nat/\(∀p∈qs,p < i)/\M.xm qs=M.tr2 (prs (ps.take i)) x y) H D i ys H') (Cs.zero ε ⟨[],rfl,λ_ h=>absurd h (by simp),rfl⟩) (λi ys H' _ c=>Same.tup c.same δ) (λi v ys H' p ν η c fp Z ι=>?_) (λys H' c=>?_)
 ·obtain⟨O,Y,rfl⟩:=aF η;obtain⟨qs,L,α,G⟩:=c.pv;have hm:=mem_of_getElem? Y;have hi:=(List.getElem?_eq_some_iff.mp Y).1;have ht:=Z.get (c.same.get (pt O hm));have ts:=Iz x y Y;walk_at "l2";refine⟨O.1,O.2.1,O.2.2,x,y,rfl,ht,(hb O hm).1,(hb O hm).2,?_⟩;cases β:(M.od (O.2.1&&&x)^^M.od (O.2.2&&&y)) with
  | true=>
    rw[β,if_pos rfl] at ts;walk_at "l2";refine Cs.put ε (c.same.trans Z) (Z.get c.at') c.len (by omega) ⟨qs++[i],?_,λk hk=>?_,?_⟩
    ·rw[L,map_append];rfl
    ·rcases mem_append.mp hk with h | h
     ·have:=α k h;omega
     ·rw[mem_singleton.mp h];omega
    ·rw[M.xm_snoc,G,ts]
  | false=>
    rw[β,if_neg Bool.false_ne_true,xor_zero] at ts;walk_at "l2";refine Cs.skip (c.same.trans Z) (Z.get c.at') c.len ⟨qs,L,λk hk=>?_,?_⟩
    ·have:=α k hk;omega
    ·rw[G,ts]
 ·obtain⟨qs,L,α,G⟩:=c.pv;rw[tH] at α G;have ζ:=c.at';rw[L] at ζ;walk_at "l2";refine⟨D,qs,rfl,ζ,λk hk=>by have:=α k hk;omega,?_⟩;rw[G,take_length];exact q _ c.same
theorem bE (T:Tx K mg a):FnOk P w K mg base (CX1 P w) 3 a.aW a.hZ ["self","state"] (Ny K a.ax a.dD):=by
 refine T.aR.1.okX lR (λvs H Q E h=>?_) (λZ A outer s H vs Q E O h=>?_)
 ·obtain⟨p,m,nx,os,x,k,rfl,_⟩:=h;rfl
 ·obtain⟨p,m,nx,os,x,k,rfl,ma,hk,G,L⟩:=h;obtain⟨dx,α,to,ho,hn,Y⟩:=ma.ho;refine⟨_,((ai (cG (gx (eu (aj (mZ T) O T.mE T.h9 (aa (pv 1) (aa (aH (aP (K:=K) rfl) (by rfl) T.fG PySem.boot_len (aa (aM (K:=K) rfl (pv 0) rfl) ae)) ae))))) (ai (kR PySem.F.excBase_ValueError T.j9 fN rfl (by rfl) T.zq (aa bq ae))) aV))),ar (σ':=[some _,some _]) rfl ?_⟩;walk_at "l2";refine aJ ho T.bc T.dB rfl ?_;walk_at "l2";rw[tH];cases hm:jc x (nx.length:Int) with
  | false=>
    walk_at "l2";exact⟨by rw[sizeLine_eq];decide,L hm⟩
  | true=>
    walk_at "l2";exact G hm
theorem i7 (T:Tx K mg a):FnOk P w K mg base (CX1 P w) 4 a.cf a.og ["self","state","row"] (IL K a.ax a.dD):=by
 refine T.dj.1.okX ub (λvs H Q E h=>?_) (fun ι A outer s H vs Q E O h=>?_)
 ·obtain⟨p,m,nx,os,x,y,kx,ζ,rfl,_⟩:=h;rfl
 ·obtain⟨p,m,nx,os,x,y,kx,ζ,rfl,ma,g,Z,η,ε,α⟩:=h;obtain⟨dx,β,to,ho,hn,Y⟩:=ma.ho;have ln:=g.ln;have lo:=g.lo
  refine⟨_,((af (be (fP (pv 0) T.bc T.bP (bE T) (O.mono (by decide)) T.aR.2 .nil fN (aa (pv 1) ae)))
   (af (cG (gx (eu (aj (mZ T) O T.mE T.h9 (aa (pv 2) (aa (aM (K:=K) rfl (pv 0) rfl) ae))))) (ai (kR PySem.F.excBase_ValueError T.j9 fN rfl (by rfl) T.zq (aa bq ae))) aV)
   (ai (aB (dk (aa (aj (pC T) O T.rJ T.h8 (aa (aM (K:=K) rfl (pv 0) rfl) (aa (pv 1) (aa (pv 2) ae)))) (aa (aj (pC T) O T.rJ T.h8 (aa (aM (K:=K) rfl (pv 0) rfl) (aa (pv 1) (aa (pv 2) ae)))) ae)))))))),ar (σ':=[some _,some _,some _]) rfl ?_⟩
  walk_at "l2";refine d0 ho rfl ?_;walk_at "l2";refine⟨p,m,nx,os,x,kx,rfl,ma,Z,λhm=>?_,λhm=>α (.inl hm)⟩;walk_at "l2";refine aJ ho T.bc T.fQ rfl ?_;walk_at "l2";cases G:jc y (m:Int) with
  | false=>
    walk_at "l2";exact⟨by rw[sizeLine_eq];decide,α (.inr G)⟩
  | true=>
    obtain⟨a1,rfl,ha⟩:=kX hm;obtain⟨b1,rfl,hb⟩:=kX G;walk_at "l2";refine aJ ho T.bc T.nV rfl ?_;walk_at "l2";refine⟨to,os,a1,b1,rfl,SqT.of Y,ma.hs,by omega,g.b2,λH2 L=>?_⟩;walk_at "l2";refine aJ (L.get ho) T.bc T.dB rfl ?_;walk_at "l2";refine⟨β,nx,a1,b1,rfl,SqT.of (L.get hn),ma.hn.same L,by omega,g.b1,fun ο δ=>?_⟩;walk_at "l2";intro t ν ξ γ θ;exact ε a1 b1 rfl rfl ha hb t ν (L.trans (δ.trans γ)) θ
theorem qI (T:Tx K mg a):FnOk P w K mg base (CX1 P w) 5 a.bM a.lN ["self","rows","state"] (ID K a.ax a.dD):=by
 refine T.d8.1.okX du (λvs H Q E h=>?_) (λa5 A outer s H vs Q E ρ h=>?_)
 ·obtain⟨p,ο,m,nx,os,x,xs,rfl,_⟩:=h;rfl
 ·obtain⟨p,ο,m,nx,os,x,xs,rfl,G,χ,π⟩:=h;obtain⟨dx,tn,to,ho,hn,a4⟩:=G.ma.ho;obtain⟨kx,ξ⟩:=G.kx;have ln:=G.ln;have a3:=G.sq
  refine⟨_,((af (be (fP (pv 0) T.bc T.bP (bE T) (ρ.mono (by decide)) T.aR.2 .nil fN (aa (pv 2) ae)))
   (af (aA (i:=3) du.nd rfl (by walk_at "o") (cw ae))
   (af (dz (oG ⟨rfl,rfl⟩) rfl (aU (K:=K) rfl (pv 1)) (aw (i:=4) du.nd rfl (by walk_at "o")) (af (aA (i:=5) du.nd rfl (by walk_at "o") (fP (pv 0) T.bc T.j8 (i7 T) (ρ.mono (by decide)) T.dj.2 .nil fN (aa (pv 2) (aa (pv 4) ae))))
   (af (be (d2 (K:=K) rfl PySem.F.plainAttrs_list PySem.F.slot_list_append PySem.F.type_list_append cW (pv 3) (aa (aD (av (K:=K) rfl) (pv 5) ag (λ_ _=>rfl)) ae)))
   (ai (aA (i:=2) du.nd rfl (by walk_at "o") (aD (av (K:=K) rfl) (pv 5) ag (λ_ _=>rfl)))))))
   (ai (aB (dk (aa (pv 3) (aa (pv 2) ae))))))))),ar (σ':=[some _,some _,some _,none,none,none]) rfl ?_⟩
  walk_at "l2";refine d0 ho rfl ?_;walk_at "l2";refine⟨p,m,nx,os,x,kx,rfl,G.ma,ξ,λhm=>?_,λhm=>π (.inl hm) H (Same.refl _)⟩;obtain⟨Z,rfl,γ⟩:=kX hm;walk_at "l2";intro D H1 τ φ e1;walk_at "l2";refine gF (xs:=xs) (λi σ H'=>∃(rs:List Nat) (v η:Option V),σ=[some (.ref p),some (.ref ο),some (nat (M.wst (prs nx) Z rs)),some (.ref D),v,η]/\Same H H'/\H' D=some (.lst ((M.wan (prs nx) (prs os) Z rs).map nat))/\xs.take i=rs.map nat/\∀r∈rs,r < 2 ^ m) ⟨[],none,none,rfl,φ,e1,rfl,λ_ h=>absurd h (by simp)⟩ (λi σ H' _ ⟨_,_,_,_,e,_⟩=>Same.seq e G.sq) ?_ ?_
  ·rintro i y σ H' δ ⟨rs,v,η,rfl,L,ζ,et,O⟩;obtain⟨ω,ν⟩:=G.ks y (mem_of_getElem? δ);have hi:=(List.getElem?_eq_some_iff.mp δ).1;have ψ:rs.length=i:=by have:=congrArg List.length et;rw[length_take,length_map] at this;omega
   have α:M.wst (prs nx) Z rs < 2 ^ nx.length:=by have:=M.wst_lt (ps:=prs nx) (rs:=rs) (x:=Z) (by rw[eG];exact γ);rwa [eG] at this
   walk_at "l2";refine d0 (L.get ho) rfl ?_;walk_at "l2";refine⟨p,m,nx,os,nat (M.wst (prs nx) Z rs),y,"int",ω,rfl,G.ma.same L,G.g,rfl,GG ν L,λa1 b1 ea eb ha hb t υ Y ε=>?_,fun β=>?_⟩
   ·have ea:=gQ ea;subst ea;subst eb;walk_at "l2";refine fg (Y.get ζ) (by rw[length_map,M.wan_len,sizeLine_eq];omega) λH8 θ=>?_;have e8:=θ.oth _ _ (b4 ε (Y.get ζ) (by simp)) ε;walk_at "l2";refine⟨rs++[b1],?_⟩;rw[M.wst_snoc,M.wan_snoc,map_append];refine⟨_,_,rfl,λb o e=>θ.oth _ _ (ao e τ) (Y.get (L.get e)),θ.at',?_,λr ι=>?_⟩
    ·rw[List.take_add_one,et,δ,map_append];rfl
    ·rcases mem_append.mp ι with h | h
     ·exact O r h
     ·rw[mem_singleton.mp h];exact hb
   ·rcases β with h | h
    ·rw[cX α] at h;cases h
    ·exact π (.inr ⟨y,mem_of_getElem? δ,h⟩) H' L
  ·rintro σ H' ⟨rs,v,η,rfl,L,ζ,et,O⟩;rw[take_length] at et;walk_at "l2";intro t υ f7 Y ε;exact χ Z rs ⟨rfl,et,γ,O⟩ t D υ τ (L.trans Y) ε (Y.get ζ)
theorem si (T:Tx K mg a):FnOk P w K mg base (CX1 P w) 6 a.bG a.jx ["self","rows","state"] (Jb K a.ax a.dD):=by
 refine T.eZ.okX r9 (λvs H Q E h=>?_) (fun γ A outer s H vs Q E α h=>?_)
 ·obtain⟨p,G,m,nx,os,x,xs,rfl,_⟩:=h;rfl
 ·obtain⟨p,G,m,nx,os,x,xs,rfl,L,Y,Z⟩:=h;obtain⟨dx,δ,to,ho,hn,β⟩:=L.ma.ho;refine⟨_,((ai (aB (aD (av (K:=K) rfl) (fP (pv 0) T.bc T.sD (qI T) (α.mono (by decide)) T.d8.2 .nil fN (aa (pv 1) (aa (pv 2) ae))) ag (λ_ _=>rfl))))),ar (σ':=[some _,some _,some _]) rfl ?_⟩;walk_at "l2";refine d0 ho rfl ?_;walk_at "l2";refine⟨p,G,m,nx,os,x,xs,rfl,L,λa1 rs g t D H2 ε O et ζ=>?_,Z⟩;walk_at "l2";exact Y a1 rs g H2 O
theorem uw (T:Tx K mg a):FnOk P w K mg base (CX1 P w) 4 a.cj a.oh ["self","mask"] (IM K a.ax a.dD):=by
 refine T.fM.1.okX dw (λvs H Q E h=>?_) (fun ψ A outer s H vs Q E δ h=>?_)
 ·obtain⟨p,m,nx,os,x,k,rfl,_⟩:=h;rfl
 ·obtain⟨p,m,nx,os,x,k,rfl,ma,g,hk,β,ι⟩:=h;obtain⟨dx,ω,to,ho,hn,π⟩:=ma.ho;have ln:=g.ln
  refine⟨_,((af (be (fP (pv 0) T.bc T.bP (bE T) (δ.mono (by decide)) T.aR.2 .nil fN (aa (pv 1) ae)))
   (af (aA (i:=2) dw.nd rfl (by walk_at "o") ag)
   (af (aA (i:=3) dw.nd rfl (by walk_at "o") ag)
   (af (dz (oG ⟨rfl,rfl⟩) rfl (aU (K:=K) rfl (aj (wJ T) δ T.zh T.mP (aa (pv 1) ae))) (aw (i:=4) dw.nd rfl (by walk_at "o")) (af (aA (i:=2) dw.nd rfl (by walk_at "o") (au i0 (pv 2) (aD (av (K:=K) rfl) (aD (av (K:=K) rfl) (aM (K:=K) rfl (pv 0) rfl) (pv 4) (λ_ _=>rfl)) ag (λ_ _=>rfl))))
   (ai (aA (i:=3) dw.nd rfl (by walk_at "o") (au i0 (pv 3) (aD (av (K:=K) rfl) (aD (av (K:=K) rfl) (aM (K:=K) rfl (pv 0) rfl) (pv 4) (λ_ _=>rfl)) ag (λ_ _=>rfl)))))))
   (ai (aB (dk (aa (pv 2) (aa (pv 3) ae)))))))))),ar (σ':=[some _,some _,none,none,none]) rfl ?_⟩
  walk_at "l2";refine d0 ho rfl ?_;walk_at "l2";refine⟨p,m,nx,os,x,k,rfl,ma,hk,λhm=>?_,ι⟩;obtain⟨O,rfl,G⟩:=kX hm;walk_at "l2";refine⟨O,rfl,gc G (by omega),λD H1 f1 Z η=>?_⟩;rw[M.pl_up G (by omega)] at η;generalize ζ:nx.map (λq=>q.2.1)=As at β;generalize ε:nx.map (λq=>q.2.2)=Bs at β;have ξ:As.length=nx.length:=by rw[<-ζ,length_map]
  have ν:Bs.length=nx.length:=by rw[<-ε,length_map]
  walk_at "l2";refine gF (xs:=(M.pl nx.length O).map nat) (λi σ H'=>∃v,σ=[some (.ref p),some (nat O),some (nat (((M.pl nx.length O).take i).foldl (λa p=>a^^^As.getD p 0) 0)),some (nat (((M.pl nx.length O).take i).foldl (λa p=>a^^^Bs.getD p 0) 0)),v]/\H'=H1) ⟨none,rfl,rfl⟩ (λi σ H' _ ⟨_,_,e⟩=>by rw[e];exact SqL.of η) ?_ ?_
  ·rintro i y σ H' ο ⟨v,rfl,rfl⟩;obtain⟨k,α,rfl⟩:=aF ο;have γ:k < nx.length:=mem_range.mp (mem_filter.mp (mem_of_getElem? α)).1;obtain⟨Y,L⟩:∃Y,nx[k]? =some Y:=⟨_,getElem?_eq_getElem γ⟩;have τ:atI (refs nx) (k:Int)=some (.ref Y.1):=fI (by unfold refs;rw[getElem?_map,L];rfl);have ht:=Z.get (ma.hn Y (mem_of_getElem? L));have ρ:=Z.get hn;have φ:As.getD k 0=Y.2.1:=by rw[<-ζ,getD_eq_getElem?_getD,getElem?_map,L];rfl
   have υ:Bs.getD k 0=Y.2.2:=by rw[<-ε,getD_eq_getElem?_getD,getElem?_map,L];rfl
   walk_at "l2";refine aJ (Z.get ho) T.bc T.dB rfl ?_;walk_at "l2";refine aJ (Z.get ho) T.bc T.dB rfl ?_;walk_at "l2";refine⟨some (nat k),?_,rfl⟩;rw[cI,cI,take_succ α,foldl_append,foldl_append];show _=[_,_,some (nat (_^^^As.getD k 0)),some (nat (_^^^Bs.getD k 0)),_];rw[φ,υ]
  ·rintro σ H' ⟨v,rfl,rfl⟩;rw[length_map,take_length,M.sm_places As O (by rw[ξ];exact G) nx.length (by omega),M.sm_places Bs O (by rw[ν];exact G) nx.length (by omega)];walk_at "l2";intro t H2 f2 θ χ;exact β O rfl G t H2 (Z.trans θ) χ
end
theorem lC (T:Tx K mg a):FnOk P w K mg base CX0 1 a.bR a.mH ["self","mask"] (Nw a.bA):=by
 refine T.dF.1.okA dZ λa0 A outer s H vs Q E τ h=>?_;obtain⟨p,d,f,n,rows,x,rfl,st,q⟩:=h;have η:=oR τ;obtain⟨dx,ho⟩:=st.ho;obtain⟨es,hd,ht,g,l⟩:=st.he
 refine⟨_,((af (aA (i:=2) dZ.nd rfl (by walk_at "o") ag)
  (af (pf PassesOwn.never (F1 (F6 η (au rD (oF (K:=K) rfl PySem.F.plainAttrs_int PySem.F.slot_int_bit_length PySem.F.type_int_bit_length oO (pv 1)) ag) (aM (K:=K) rfl (pv 0) rfl))) (af (aA (i:=3) dZ.nd rfl (by walk_at "o") (mq η (aM (K:=K) rfl (pv 0) rfl) (au rD (oF (K:=K) rfl PySem.F.plainAttrs_int PySem.F.slot_int_bit_length PySem.F.type_int_bit_length oO (pv 1)) ag) (λ_ _=>rfl)))
  (af (aA (i:=1) dZ.nd rfl (by walk_at "o") (au i0 (pv 1) (aD (av (K:=K) rfl) (pv 3) ag (λ_ _=>rfl))))
  (ai (aA (i:=2) dZ.nd rfl (by walk_at "o") (au i0 (pv 2) (aD (av (K:=K) rfl) (pv 3) ag (λ_ _=>rfl))))))))
  (ai (aB (dk (aa (pv 1) (aa (pv 2) ae)))))))),ar (σ':=[some _,some _,none,none]) rfl ?_⟩
 walk_at "l2";refine⟨fun μ σ' H'=>∃L v,σ'=[some (.ref p),some (nat (x^^^M.sm rows L)),some (nat L),v]/\H'=H/\L < 2 ^ rows.length/\μ=x^^^M.sm rows L/\M.Frs rows L,⟨x,0,none,?_,rfl,two_pow_pos _,?_,M.Frs.zero _⟩,?_⟩
 ·rw[M.sm_zero,xor_zero];rfl
 ·rw[M.sm_zero,xor_zero]
 rintro μ σ' H' ⟨L,v,rfl,rfl,θ,rfl,α⟩;walk_at "l2";refine aJ ho T.gL T.d9 rfl ?_;refine N8 hd ?_;walk_at "l2";generalize hm:x^^^M.sm rows L=m;refine iteB (fun β=>?_) (fun β=>?_)
 ·rcases tS es ((Builtin.Int.intBits (m:Int):Nat) - 1:Int) with ⟨e,he,δ,ev⟩ | ⟨_,ζ⟩
  ·have Z:m≠0:=λz=>by rw[z,zS] at δ;omega
   have hl2:m.log2=e.m.log2:=by rw[nh Z] at δ;omega
   have G:(e.m,e.p)∈es.map (λe=>(e.m,e.p)):=mem_map.mpr ⟨e,he,rfl⟩;have e0:=g.nz _ G;refine⟨λY H2=>∃O v,Y=[some (.ref p),some (nat (x^^^M.sm rows O)),some (nat O),v]/\H2=H'/\O < 2 ^ rows.length/\x^^^M.sm rows O < m/\M.Frs rows O,λY H2 ⟨O,v,h1,h2,χ,φ,υ⟩=>⟨_,φ,O,v,h1,h2,χ,rfl,υ⟩,?_⟩;walk_at "l2";refine aJ ho T.gL T.d9 rfl ?_;walk_at "l2";refine FJ hd ev ?_;have ρ:=ht e he;walk_at "l2";refine⟨L^^^e.p,some (.ref e.a),?_,rfl,M.xor_lt_pow θ (g.lt _ G),?_,α.xor (g.sub _ G)⟩
   ·rw[M.sm_xor,g.sm _ G,<-xor_assoc,hm,cI,cI]
   ·rw[M.sm_xor,g.sm _ G,<-xor_assoc,hm];exact M.xor_less Z e0 hl2
  ·rw[ζ] at β;cases β
 ·walk_at "l2";intro t H2 ψ ξ ω;subst hm;refine q t H2 L ψ ξ ω θ (fun ο y π ν hl2=>?_) α;rcases tS es ((Builtin.Int.intBits ((x^^^M.sm rows L:Nat):Int):Nat) - 1:Int) with ⟨e,he,δ,ev⟩ | ⟨h1,ζ⟩
  ·rw[ev] at β;cases β
  ·obtain⟨e,he,ε⟩:=g.all y π ν;obtain⟨ι,γ,rfl⟩:=mem_map.mp he;refine h1 ι γ ?_;have ε:ι.m.log2=y.log2:=ε;rw[nh ο,ε,hl2];omega
theorem yT (T:Tx K mg a):FnOk P w K mg base CX0 2 a.dU a.vp ["self","place","row"] (Nx a.bA):=by
 refine T.jC.1.okA mf fun χ A outer s H vs Q E θ h=>?_;obtain⟨p,d,f,n,rows,r,rfl,st,hl,q⟩:=h;have ρ:=oR θ;obtain⟨dx,ho⟩:=st.ho
 refine⟨_,((af (aA (i:=3) mf.nd rfl (by walk_at "o") (eh (pv 0) T.gL T.mC (lC T) (θ.mono (by decide)) T.dF.2 .nil bO (aa (pv 2) ae)))
  (af (aA (i:=4) mf.nd rfl (by walk_at "o") (au i0 (aD (av (K:=K) rfl) (pv 3) ag (λ_ _=>rfl)) (au jH ag (pv 1))))
  (ai (cG (aI fK (aD (av (K:=K) rfl) (pv 3) ag (λ_ _=>rfl)) ag (aQ _)) (ai (be (d2 (K:=K) rfl PySem.F.plainAttrs_list PySem.F.slot_list_append PySem.F.type_list_append cW (aM (K:=K) rfl (pv 0) rfl) (aa (pv 4) ae)))) (af (be (d2 (K:=K) rfl PySem.F.plainAttrs_list PySem.F.slot_list_append PySem.F.type_list_append cW (aM (K:=K) rfl (pv 0) rfl) (aa (pv 1) ae)))
  (ai (xy ρ (aM (K:=K) rfl (pv 0) rfl) (au rD (oF (K:=K) rfl PySem.F.plainAttrs_int PySem.F.slot_int_bit_length PySem.F.type_int_bit_length oO (aD (av (K:=K) rfl) (pv 3) ag (λ_ _=>rfl))) ag) (dk (aa (aD (av (K:=K) rfl) (pv 3) ag (λ_ _=>rfl)) (aa (pv 4) ae))) rfl)))))))),ar (σ':=[some _,some _,some _,none,none]) rfl ?_⟩
 walk_at "l2";refine aC ho rfl ?_;walk_at "l2";refine⟨p,d,f,n,rows,r,rfl,st,λt H2 β f2 α ο ι hn ζ=>?_⟩;walk_at "l2";rw[shl1,cI];have L:=α.get ho;have G:=st.same α;have lf:=M.fr_len rows;refine iteB (fun γ=>?_) (fun γ=>?_)
 ·have hz:r^^^M.sm rows β=0:=by have:=V.int.inj (of_decide_eq_true γ);omega
  obtain⟨nms,Y,ξ⟩:=G.hn;have ln:=ξ.len;walk_at "l2";refine aJ L T.gL T.jK rfl ?_;walk_at "l2";refine fg Y (by rw[length_map];exact aE (by omega)) fun π O=>?_;walk_at "l2";exact q π (λb o h1 h2 ν e=>O.oth _ _ ν (α.get e)) (G.null ι hz ξ Y O)
 ·have hz:r^^^M.sm rows β≠0:=λz=>by rw[z] at γ;exact absurd γ (by decide)
  obtain⟨es,hd,ht,g,le⟩:=G.he;have τ:=G.hf;walk_at "l2";refine aJ L T.gL T.ja rfl ?_;walk_at "l2";refine fg G.hf (by rw[length_map];exact aE (by omega)) fun π O=>?_;have e3:=O.oth _ _ (b4 ο G.hf (by simp)) ο;have ε:=O.oth _ _ (b4 L G.hf (by simp)) L;have η:=O.oth _ _ (b4 hd G.hf (by simp)) hd;walk_at "l2";intro t' H4 ω Z φ;walk_at "l2";refine aJ (Z.get ε) T.gL T.d9 rfl ?_;walk_at "l2";refine LR (Z.get η) (by unfold pN;rw[length_map];exact aE (by omega)) fun ψ δ=>?_;walk_at "l2";refine q ψ (λb o h1 h2 ν e=>δ.oth _ _ h1 (Z.get (O.oth _ _ h2 (α.get e)))) (G.more ι hz (hn hz) ζ O Z φ hd ht g le ?_);have υ:(((r^^^M.sm rows β).log2 + 1:Nat):Int) - 1=(((r^^^M.sm rows β).log2:Nat):Int):=by omega
  rw[nh hz,υ] at δ;exact δ
theorem qH (T:Tx K mg a):FnOk P w K mg base CX0 3 a.bJ a.lK ["self","rows"] (Lh a.bA):=by
 refine T.fT.1.okA gN λa4 A outer s H vs Q E ψ h=>?_;obtain⟨x,dx,r,rows,rfl,hw,hl,ξ,q⟩:=h;have hu:=oR ψ;have χ:r≠x:=b4 hw ξ (by simp)
 refine⟨_,((af (cM (K:=K) rfl (pv 0) pq rfl)
  (af (cM (K:=K) rfl (pv 0) (cw ae) rfl)
  (af (cM (K:=K) rfl (pv 0) (cw ae) rfl)
  (ai (dz PassesOwn.never rfl (Ax (K:=K) rfl (by rfl) T.eK (pv 1)) (yN rfl (dm (aw (i:=2) gN.nd rfl (by walk_at "o")) (dm (aw (i:=3) gN.nd rfl (by walk_at "o")) mn))) (ai (be (eh (pv 0) T.gL T.AM (yT T) (ψ.mono (by decide)) T.jC.2 .nil bO (aa (pv 2) (aa (pv 3) ae))))))))))),ar (σ':=[some _,some _,none,none]) rfl ?_⟩
 walk_at "l2";intro d H1 υ φ e1;walk_at "l2";have O:d≠x:=λz=>by rw[z,ξ] at υ;cases υ
 refine cL (φ.get ξ) T.gL T.d9 (by decide) rfl λH2 δ=>?_;walk_at "l2";intro f H3 τ ι e3;walk_at "l2";have α:f≠x:=λz=>by rw[z,δ.at'] at τ;cases τ
 refine cL (ι.get δ.at') T.gL T.ja (by show 1 < 1000;decide) rfl λH4 Z=>?_;walk_at "l2";intro n H5 ζ ε e5;walk_at "l2";have ν:n≠x:=λz=>by rw[z,Z.at'] at ζ;cases ζ
 refine cL (ε.get Z.at') T.gL T.jK (by show 2 < 1000;decide) rfl fun ω Y=>?_;have k1:∀b o,b≠x->H b=some o->H2 b=some o:=λb o G e=>δ.oth _ _ G (φ.get e);have k2:∀b o,b≠x->H b=some o->H4 b=some o:=λb o G e=>Z.oth _ _ G (ι.get (k1 b o G e));have k3:∀b o,b≠x->H b=some o->ω b=some o:=λb o G e=>Y.oth _ _ G (ε.get (k2 b o G e));have nd:∀b o,H b=some o->b≠d:=λb o e=>ao e υ;have nf:∀b o,b≠x->H b=some o->b≠f:=λb o G e=>ao (k1 b o G e) τ;have nn:∀b o,b≠x->H b=some o->b≠n:=λb o G e=>ao (k2 b o G e) ζ;have β:=Z.oth _ _ α e3;have fn:f≠n:=ao β ζ;have π:ω d=some (.dK (pN [])):=Y.oth _ _ O (ε.get (Z.oth _ _ O (ι.get (δ.oth _ _ O e1))));have a0:=k3 _ _ χ hw;walk_at "l2";refine tK (xs:=rows.map nat) (λi σ H'=>∃v γ,σ=[some (.ref x),some (.ref r),v,γ]/\StA H' a.bA x d f n (rows.take i)/\∀b o,b≠x->H b=some o->H' b=some o) ?_ ?_ ?_ ?_
 ·refine⟨none,none,rfl,⟨⟨dx,Y.at'⟩,⟨[],π,λ_ h=>absurd h (by simp),M.Ech.nil,rfl⟩,Y.oth _ _ α (ε.get β),⟨[],Y.oth _ _ ν e5,M.Nul.nil⟩,fn⟩,k3⟩
 ·rintro i σ H' _ ⟨v,γ,_,_,k⟩;exact SqL.of (k _ _ χ hw)
 ·rintro i y σ H' p H7 hy ⟨v,γ,rfl,st,k⟩ fp θ e7;obtain⟨ri,L,rfl⟩:=aF hy;obtain⟨a3,ο⟩:=(st.same θ).ho;walk_at "l2";refine aC ο rfl ?_;walk_at "l2";have tl:=Bv L;refine⟨x,d,f,n,rows.take i,ri,by rw[tl],st.same θ,by rw[tl];have:=(List.getElem?_eq_some_iff.mp L).1;omega,λH8 ρ η=>?_⟩;walk_at "l2";refine⟨_,_,rfl,by rw[take_succ L];exact η,λb o G e=>ρ b o (nd b o e) (nf b o G e) (nn b o G e) (θ.get (k b o G e))⟩
 ·rintro σ H' ⟨v,γ,rfl,st,k⟩;rw[length_map,take_length] at st;walk_at "l2";exact q H' d f n k st
theorem mY (T:Tx K mg a):FnOk P w K mg base CX0 5 a.jf a.zC ["rows","wish"] wB:=by
 refine T.jz.1.okA qf λa3 A outer s H vs Q E δ h=>?_;obtain⟨r,rows,x,rfl,hw,hl,Y,θ,ο,ψ,χ⟩:=h
 refine⟨_,((af (aA (i:=2) qf.nd rfl (by walk_at "o") (j5 T.MU (qH T) (δ.mono (by decide)) (by rfl) T.MB T.fT.2 .nil bO (aa (pv 0) ae)))
  (af (aA (i:=3) qf.nd rfl (by walk_at "o") (eh (pv 2) T.gL T.mC (lC T) (δ.mono (by decide)) T.dF.2 .nil bO (aa (pv 1) ae)))
  (af (cG (aI fK (aD (av (K:=K) rfl) (pv 3) ag (λ_ _=>rfl)) ag (aQ _)) (ai (aB (dk (aa bq (aa (aj (wJ T) δ T.zh T.mP (aa (aD (av (K:=K) rfl) (pv 3) ag (λ_ _=>rfl)) ae)) ae))))) aV)
  (ai (aB (dk (aa bq (aa (eh (pv 2) T.gL T.uE (sh T) (δ.mono (by decide)) T.eX.2 .nil bO (aa (au rD (oF (K:=K) rfl PySem.F.plainAttrs_int PySem.F.slot_int_bit_length PySem.F.type_int_bit_length oO (aD (av (K:=K) rfl) (pv 3) ag (λ_ _=>rfl))) ag) ae)) ae))))))))),ar (σ':=[some _,some _,none,none]) rfl ?_⟩
 walk_at "l2";intro p dx H2 f2 τ e2;refine⟨p,dx,r,rows,rfl,τ.get hw,hl,e2,λH3 d f n k st=>⟨rfl,?_⟩⟩;obtain⟨a0,ho⟩:=st.ho;have hs:Same H H3:=λb o e=>k b o (ao e f2) (τ.get e);walk_at "l2";refine aC ho rfl ?_;walk_at "l2";refine⟨p,d,f,n,rows,x,rfl,st,λt H4 G f4 L e4 υ hn ξ=>?_⟩;walk_at "l2";refine iteB (fun ε=>?_) (fun ε=>?_)
 ·have hz:x^^^M.sm rows G=0:=by have:=V.int.inj (of_decide_eq_true ε);omega
  have ν:M.sm rows G=x:=by
   have:=congrArg (x^^^·) hz;simp only[<-xor_assoc,xor_self,zero_xor,xor_zero] at this;exact this
  walk_at "l2";refine⟨G,rfl,lt_of_lt_of_le υ (pow_le_pow_right (by decide) hl),λD H5 f5 ζ e5=>?_⟩;walk_at "l2";intro t' ρ ω γ π;exact ψ t' D ρ G (tJ (hs.trans L) f5) (hs.trans (L.trans (ζ.trans γ))) π (γ.get e5) ⟨υ,ν,ξ⟩
 ·have hz:x^^^M.sm rows G≠0:=λz=>by rw[z] at ε;exact absurd ε (by decide)
  have O:x^^^M.sm rows G < 2 ^ 1000:=M.xor_lt_pow θ (M.span_lt Y (M.sm_span rows G));have α:=M.log2_under hz O;have Z:¬M.Span rows x:=fun ι=>hn hz _ (M.span_xor ι (M.sm_span rows G)) hz rfl;have β:(M.fr rows).length < 64:=ο.resolve_left Z;have ez:(((x^^^M.sm rows G).log2 + 1:Nat):Int) - 1=(((x^^^M.sm rows G).log2:Nat):Int):=by omega
  walk_at "l2";refine aC (L.get ho) rfl ?_;walk_at "l2";rw[nh hz,ez];refine⟨p,d,f,n,rows,(x^^^M.sm rows G).log2,rfl,st.same L,α,Y,β,hn hz,λm H5 ζ B=>?_⟩;walk_at "l2";intro t' ρ ω γ π;refine χ t' ρ m (hs.trans (L.trans (ζ.trans γ))) π ⟨Z,⟨M.sm rows G,M.sm_span _ _,hz,hn hz,B⟩,B.ev,B.odd hz rfl α,λW φ η=>B.lt W φ ?_⟩;exact M.log2_under hz (M.xor_lt_pow η (M.span_lt φ (M.sm_span rows G)))
theorem Jw (T:Tx K mg a):FnOk P w K mg base CX0 6 a.oW a.Ht ["masks"] Ja:=by
 refine T.yx.1.okA mS λc4 A outer s H vs Q E hr h=>?_;obtain⟨r,ms,n,rfl,hp,c0,hn,hb,q⟩:=h;have χ:∀x∈ms,x < 2 ^ 1000:=λx G=>Gm hn (hb x G)
 have φ:∀k,ms.getD k 0 < 2 ^ 1000:=λk=>by
  rw[getD_eq_getElem?_getD];cases e:ms[k]? with
  | none=>exact two_pow_pos _
  | some x=>exact χ x (mem_of_getElem? e)
 have ψ:∀k,k<=n->atI (ms.map nat) ((k:Nat):Int)=some (nat (ms.getD k 0)):=λk hk=>MM (by omega);have c3:=ψ 0 (zero_le n)
 refine⟨_,((af (aA (i:=1) mS.nd rfl (by walk_at "o") ag)
  (af (aA (i:=2) mS.nd rfl (by walk_at "o") (aj (mY T) hr T.pO T.jz (aa (cw ae) (aa (aD (aL (K:=K) rfl) (pv 0) ag (λ_ _=>rfl)) ae))))
  (af (pf PassesOwn.never (aI fK (aD (av (K:=K) rfl) (pv 2) ag (λ_ _=>rfl)) bq (aQ _)) (af (aA (i:=1) mS.nd rfl (by walk_at "o") (au bY (pv 1) ag))
  (ai (aA (i:=2) mS.nd rfl (by walk_at "o") (aj (mY T) hr T.pO T.jz (aa (kT (kG (K:=K) rfl) (pv 0) qz (mm (pv 1))) (aa (aD (aL (K:=K) rfl) (pv 0) (pv 1) (λ_ _=>rfl)) ae)))))))
  (af (dI (osc:=ah s_chain) (ON:=["masks","place","found","sums"]) (N:=["number"]) (n:=1) (fx:=[]) (i:=3) mS.nd rfl rfl rfl rfl rfl rfl (by decide +kernel) (cV (by rfl) T.gC (aa (au rD (pv 1) ag) ae)) (aS (by decide)) (λ_ _ _ _ _=>⟨(aw (i:=0) (show List.Nodup (["number"]:List Str) from by decide +kernel) rfl (by walk_at "o")),bB,(cw (aa (au bY (pv 0) ag) ae))⟩))
  (af (cG (aI oH (pv 1) ag (aQ _)) (ai (be (d2 (K:=K) rfl PySem.F.plainAttrs_list PySem.F.slot_list_append PySem.F.type_list_append cW (pv 3) (aa (aD (av (K:=K) rfl) (pv 2) ag (λ_ _=>rfl)) ae)))) aV)
  (ai (aB (dk (aa (kT (kG (K:=K) rfl) (pv 0) qz (mm (pv 1))) (aa (pv 3) ae))))))))))),ar (σ':=[some _,none,none,none]) rfl ?_⟩
 walk_at "l2";intro E0 H1 f1 s1 e1;have β:=s1.get hp;walk_at "l2";refine vx (rows:=[]) (x:=ms.getD 0 0) e1 (by decide) (λ_ h=>absurd h (by simp)) (φ 0) (by decide) λt0 H2 s2 F0=>?_;walk_at "l2"
 have a7:∀{p:Nat},p<=n->(∀k,k < p->¬M.Span (ms.take k) (ms.getD k 0))->¬M.Span (ms.take p) (ms.getD p 0)->p + 1<=n:=λ{p} β h h'=>
  M.chain_short hb (by omega) λk hk=>if hkp:k < p then h k hkp else by rw[show k=p by omega];exact h'
 refine⟨fun μ σ' H'=>∃(p:Nat) (t:Addr),σ'=[some (.ref r),some (nat p),some (.ref t),none]/\Same H H'/\p<=n/\μ=n - p/\FdS H H' t (ms.take p) (ms.getD p 0)/\∀k,k < p->¬M.Span (ms.take k) (ms.getD k 0),⟨n,0,t0,rfl,s1.trans s2,zero_le n,rfl,F0.back s1,λk h=>absurd h (not_lt_zero k)⟩,?_⟩;rintro μ σ' H' ⟨p,t,rfl,ν,a6,rfl,F,γ⟩;have α:=ν.get hp;rcases F with ⟨D1,qq,e,e',sd,fD⟩ | ⟨m,e,bd⟩
 ·walk_at "l2";intro S ξ;refine gh (λi ys H7=>∃rs:List Addr,Cs (λi ys=>ys=rs.map V.ref) H' S i ys H7/\rs.length=i/\∀k r,rs[k]? =some r->H7 r=some (.lst [nat (k + 1)])/\r≠S) ⟨[],Cs.zero ξ rfl,rfl,λk r h=>by simp at h⟩ (λi ys H7 hi ⟨rs,c,lr,hg⟩=>?_) (λys H7 ⟨rs,c,lr,hg⟩=>?_)
  ·walk_at "l2";intro r2 H8 f8 π e8;have η:=π.get c.at';have nS:r2≠S:=λz=>by subst z;rw[c.at'] at f8;cases f8
   have ei:(0:Int) + (i:Int) + 1=((i + 1:Nat):Int):=by push_cast;omega
   rw[ei] at e8;obtain⟨a1,a2,a3⟩:=Cs.put (Pv:=λi ys=>ys=(rs++[r2]).map V.ref) (v:=V.ref r2) ξ (c.same.trans π) η c.len (by omega) (by rw[c.pv,map_append];rfl);refine⟨a1,a2,rs++[r2],a3,by rw[length_append,lr];rfl,λk x G=>?_⟩;by_cases hk:k < rs.length
   ·rw[getElem?_append_left hk] at G;obtain⟨h1,h2⟩:=hg k x G;exact⟨by rw[aG h2];exact π.get h1,h2⟩
   ·have ζ:k=rs.length:=by
     have:=(List.getElem?_eq_some_iff.mp G).1;rw[length_append] at this;have:k < rs.length + 1:=this;omega
    subst ζ;rw[getElem?_append_right (le_refl _),sub_self] at G;cases G;exact⟨by rw[aG nS,lr];exact e8,nS⟩
  ·have η:=c.at';rw[c.pv] at η;have el:((p:Int) - 1).toNat=p - 1:=by omega
   rw[el] at lr;have ε:=c.same.get α;have e7:=c.same.get e;have a0:=c.same.get e';have δ:=ν.trans c.same;have fS:H S=none:=ν.free ξ;have τ:D1≠S:=ao e' ξ;have ρ:r≠S:=ao α ξ;walk_at "l2";refine iteB (λhc=>?_) (λhc=>?_)
   ·have υ:0 < p:=by have:=of_decide_eq_true hc;omega
    walk_at "l2";refine fg η (by rw[length_map,sizeLine_eq];omega) λH9 u=>?_;have s9:Same H H9:=λb o e=>u.oth b o (ao e fS) (δ.get e);have c2:=u.oth _ _ ρ ε;have ω:H9 S=some (.lst ((rs++[D1]).map V.ref)):=by rw[u.at',map_append];rfl
    have a8:∀k x,(rs++[D1])[k]? =some x->H9 x=some (.lst ((cps p qq k).map nat)):=λk x G=>by
     by_cases hk:k < rs.length
     ·rw[getElem?_append_left hk] at G;obtain⟨h1,h2⟩:=hg k x G;rw[u.oth _ _ h2 h1];unfold cps;rw[if_pos (by omega)];rfl
     ·have ζ:k=rs.length:=by
       have:=(List.getElem?_eq_some_iff.mp G).1;rw[length_append] at this;have:k < rs.length + 1:=this;omega
      subst ζ;rw[getElem?_append_right (le_refl _),sub_self] at G;cases G;rw[u.oth _ _ τ a0];unfold cps;rw[if_neg (by omega)]
    have a4:(rs++[D1]).length=p:=by rw[length_append,lr];show p - 1 + 1=p;omega
    clear u hg η lr e7 a0 ε α c δ ν e e' fD τ ρ hc ξ;walk_at "l2";intro Dm b3 O Y Z;rw[tM _ _ (by rw[length_map];omega),<-map_take] at Z;walk_at "l2";intro tt ι b0 L θ;exact q tt Dm S ι p qq (s9.free O) fS (λz=>by subst z;rw[ω] at O;cases O) ((s9.trans Y).trans L) θ ⟨⟨by omega,γ,by rw[<-sd.sm];exact M.sm_span _ _⟩,sd,L.get Z,rs++[D1],(ChS.mk ω a4 a8).same (Y.trans L)⟩
   ·have υ:p=0:=by
     have:¬(0:Int) < (p:Int):=of_decide_eq_false hc;omega
    subst υ;have a5:rs=[]:=List.eq_nil_of_length_eq_zero lr;subst a5;walk_at "l2";intro Dm b3 O Y Z;rw[tM _ 0 (zero_le _),<-map_take] at Z;walk_at "l2";intro tt ι b0 L θ;exact q tt Dm S ι 0 qq (δ.free O) fS (λz=>by subst z;rw[η] at O;cases O) ((δ.trans Y).trans L) θ ⟨⟨by omega,γ,by rw[<-sd.sm];exact M.sm_span _ _⟩,sd,L.get Z,[],(ChS.mk η rfl (λk x G=>by simp at G)).same (Y.trans L)⟩
 ·have β:=a7 a6 γ bd.ns;walk_at "l2";refine⟨fun ο H2=>∃t,ο=[some (.ref r),some (nat (p + 1)),some (.ref t),none]/\Same H H2/\FdS H H2 t (ms.take (p + 1)) (ms.getD (p + 1) 0),fun ο H2 ⟨t2,h1,h2,h3⟩=>⟨n - (p + 1),by omega,p + 1,t2,h1,h2,β,rfl,h3,λk hk=>?_⟩,?_⟩
  ·by_cases h:k < p
   ·exact γ k h
   ·rw[show k=p by omega];exact bd.ns
  ·walk_at "l2";have e1:(p:Int) + 1=((p + 1:Nat):Int):=by push_cast;rfl
   rw[e1];intro Dm H7 f7 δ e7;rw[tM _ _ (by rw[length_map];omega),<-map_take] at e7;have ε:=δ.get α;have c1:=ψ (p + 1) β;walk_at "l2";refine vx (rows:=ms.take (p + 1)) (x:=ms.getD (p + 1) 0) e7 (by rw[length_take];omega) (λx G=>χ x (mem_of_mem_take G)) (φ _) (lt_of_le_of_lt (M.rank_le λx G=>hb x (mem_of_mem_take G)) (by omega)) λt2 H8 π F8=>?_;walk_at "l2";exact⟨(ν.trans δ).trans π,F8.back (ν.trans δ)⟩
section
local macro_rules | `(tactic| walk_at "l2step") =>`(tactic| first | ((with_reducible refine' eU ?e ?_);(case e=>walk_at "l2kind")) | ((with_reducible refine' h7 ?e ?_);(case e=>walk_at "l2kind")) | (with_reducible refine cU ?_) | (with_reducible refine fB ?_))
theorem Az (T:Tx K mg a):FnOk P w K mg base CX0 1 a.gS a.wO ["whole","width","count"] Fd:=by
 refine T.nq.1.okA An fun α A outer s H vs Q E β h=>?_;obtain⟨O,wd,γ,rfl,hw,hT,q⟩:=h;have Y:=two_pow_pos wd;have Z:(1:Int) * 2 ^ ((wd:Int).toNat) - 1=((2 ^ wd - 1:Nat):Int):=by rw[shl1];omega
 refine⟨_,((ai (aB (cy (osc:=ah mT) (ON:=["whole","width","count"]) (N:=["place","whole","width"]) (n:=1) (fx:=[0,1]) rfl rfl rfl (by decide +kernel) (cV (by rfl) T.gC (aa (pv 2) ae)) (aS (by decide)) (λ_ _ _ _ _=>⟨(aw (i:=0) (show List.Nodup (["place","whole","width"]:List Str) from by decide +kernel) rfl (by walk_at "o")),bB,(au ly (au yO (pv 1) (au mw (pv 0) (pv 2))) (au rD (au jH ag (pv 2)) ag))⟩))))),ar (σ':=[some _,some _,some _]) rfl ?_⟩;walk_at "l2";intro D L;refine gh (λi ys H'=>Cs (λi ys=>ys=((List.range i).map λt=>(O>>>(t * wd))&&&(2 ^ wd - 1)).map nat) H D i ys H') (Cs.zero L rfl) (λi ys H' hi c=>?_) (λys H' c=>?_)
 ·have G:((0:Int) + (i:Int)) * (wd:Int)=((i * wd:Nat):Int):=by rw[Int.zero_add];push_cast;rfl
  walk_at "l2";rw[G];walk_at "l2";rw[LC,Z,dE];refine Cs.put L c.same c.at' c.len (by omega) ?_;rw[c.pv,range_succ,map_append,map_append];rfl
 ·have G:=c.at';rw[c.pv,Int.toNat_natCast] at G;exact q D H' L c.same G
theorem BN (T:Tx K mg a):FnOk P w K mg base CX0 5 a.oU a.Hq ["machine","turns"] (II a.ax):=by
 refine T.vD.1.okA mQ λa0 A outer s H vs Q E ξ h=>?_;obtain⟨p,m,nx,os,T',rfl,ma,g,hT,q⟩:=h;obtain⟨dx,tn,to,ho,hn,ω⟩:=ma.ho;have m6:=g.m6;have ln:=g.ln
 refine⟨_,((af (dI (osc:=ah uf) (ON:=["machine","turns","states","told","turn"]) (N:=["which","machine"]) (n:=1) (fx:=[0]) (i:=2) mQ.nd rfl rfl rfl rfl rfl rfl (by decide +kernel) (cV (by rfl) T.gC (aa (aM (K:=K) rfl (pv 0) rfl) ae)) (aS (by decide)) (λ_ _ _ _ _=>⟨(aw (i:=0) (show List.Nodup (["which","machine"]:List Str) from by decide +kernel) rfl (by walk_at "o")),bB,(aD (av (K:=K) rfl) (fP (pv 1) T.bc T.j8 (i7 T) (ξ.mono (by decide)) T.dj.2 .nil thr0 (aa ag (aa (au jH ag (pv 0)) ae))) ag (λ_ _=>rfl))⟩))
  (af (aA (i:=3) mQ.nd rfl (by walk_at "o") (cw ae))
  (af (dz PassesOwn.never rfl (cV (by rfl) T.gC (aa (pv 1) ae)) (aw (i:=4) mQ.nd rfl (by walk_at "o")) (af (aA (i:=3) mQ.nd rfl (by walk_at "o") (au i5 (pv 2) (pv 3)))
  (ai (dI (osc:=ah uf) (ON:=["machine","turns","states","told","turn"]) (N:=["state","machine"]) (n:=1) (fx:=[0]) (i:=2) mQ.nd rfl rfl rfl rfl rfl rfl (by decide +kernel) (aU (K:=K) rfl (pv 2)) (aS (by decide)) (λ_ _ _ _ _=>⟨(aw (i:=0) (show List.Nodup (["state","machine"]:List Str) from by decide +kernel) rfl (by walk_at "o")),bB,(aD (av (K:=K) rfl) (fP (pv 1) T.bc T.j8 (i7 T) (ξ.mono (by decide)) T.dj.2 .nil thr0 (aa (pv 0) (aa ag ae))) ag (λ_ _=>rfl))⟩)))))
  (ai (aB (pv 3))))))),ar (σ':=[some _,some _,none,none,none]) rfl ?_⟩
 walk_at "l2";refine aJ ho T.bc T.fQ rfl ?_;walk_at "l2";intro D π;refine gh (λi ys H'=>Cs (λi ys=>ys=((List.range i).map λw=>M.tr2 (prs nx) 0 (2 ^ w)).map nat) H D i ys H') (Cs.zero π rfl) (λi ys H' hi c=>?_) (λys H1 c=>?_)
 ·have ζ:i < m:=by omega
  have ei:(0:Int) + (i:Int)=(i:Int):=Int.zero_add _;walk_at "l2";refine d0 (c.same.get ho) rfl ?_;walk_at "l2";rw[ei];walk_at "l2";rw[shl1];refine⟨p,m,nx,os,nat 0,nat (2 ^ i),"int","int",rfl,ma.same c.same,g,rfl,rfl,λa1 b1 ea O _ _ χ H6 G e6=>?_,λY=>?_⟩
  ·have ea:=gQ ea;have O:=gQ O;subst ea O;walk_at "l2";refine Cs.put π (c.same.trans G) (G.get c.at') c.len (by omega) ?_;rw[c.pv,range_succ,map_append,map_append];rfl
  ·rcases Y with h | h
   ·rw[cX (two_pow_pos _)] at h;cases h
   ·rw[cX (pow_lt_pow_right (by decide) ζ)] at h;cases h
 ·have υ:=c.at';rw[c.pv,Int.toNat_natCast] at υ;have ν:=c.same;walk_at "l2";intro D0 H2 f2 ι e2;walk_at "l2";refine km (λi σ H'=>∃(v:Option V) (δ Dt:Addr),σ=[some (.ref p),some (nat T'),some (.ref δ),some (.ref Dt),v]/\Same H H'/\H' δ=some (.lst ((M.stj (prs nx) (M.sg0 (prs nx) m) i).map nat))/\H' Dt=some (.lst ((M.rch (prs nx) m i).map nat))/\H Dt=none) ⟨none,D,D0,rfl,ν.trans ι,ι.get υ,e2,tJ ν f2⟩ ?_ ?_
  ·rintro i σ H' hi ⟨v,δ,Dt,rfl,G,es,et,ft⟩;have ls:(M.stj (prs nx) (M.sg0 (prs nx) m) i).length=m:=by rw[M.stj_len,M.sg0_len]
   have lr:=M.rch_len (prs nx) m i;have ο:i * m<=100 * 6:=mul_le_mul (by omega) m6;walk_at "l2";refine oy es et (by rw[length_map,length_map,sizeLine_eq];omega) λD7 H7 f7 ε τ=>?_;rw[<-map_append] at τ;have η:=ε.get es;walk_at "l2";intro φ γ;refine aX (xs:=(M.stj (prs nx) (M.sg0 (prs nx) m) i).map nat) (λj ys H'=>Cs (λj ys=>ys=(((M.stj (prs nx) (M.sg0 (prs nx) m) i).take j).map λx=>M.tr2 (prs nx) x 0).map nat) H7 φ j ys H') (Cs.zero γ rfl) (λj ys H' _ c=>SqL.of (c.same.get η)) (λj x ys H' ψ c=>?_) (λys H' c=>?_)
   ·obtain⟨θ,L,rfl⟩:=aF ψ;have hj:=(List.getElem?_eq_some_iff.mp L).1;have β:=M.stj_lt (prs nx) m i θ (mem_of_getElem? L);rw[eG] at β;have α:=G.trans (ε.trans c.same);walk_at "l2";refine d0 (α.get ho) rfl ?_;walk_at "l2";refine⟨p,m,nx,os,nat θ,nat 0,"int","int",rfl,ma.same α,g,rfl,rfl,λa1 b1 ea O _ _ χ H6 Z e6=>?_,λY=>?_⟩
    ·have ea:=gQ ea;have O:=gQ O;subst ea O;walk_at "l2";refine Cs.put γ (c.same.trans Z) (Z.get c.at') c.len (by omega) ?_;rw[c.pv,take_succ L,map_append,map_append];rfl
    ·rcases Y with h | h
     ·rw[cX β] at h;cases h
     ·rw[cX (two_pow_pos _)] at h;cases h
   ·have ρ:=c.at';rw[c.pv,length_map,take_length] at ρ;exact⟨_,φ,D7,rfl,G.trans (ε.trans c.same),ρ,c.same.get τ,tJ G f7⟩
  ·rintro σ H' ⟨v,δ,Dt,rfl,G,es,et,ft⟩;rw[Int.toNat_natCast] at et;walk_at "l2";exact q Dt H' ft G et
theorem wG (T:Tx K mg a):FnOk P w K mg base CX0 2 a.jh a.zE ["machine","places","turns"] (Fi a.ax):=by
 refine T.mL.1.okA CL fun β A outer s H vs Q E L h=>?_;obtain⟨p,D,m,nx,os,G,γ,rfl,ma,g,α,O,hT,q⟩:=h;obtain⟨dx,δ,to,ho,hn,Z⟩:=ma.ho;have m6:=g.m6;refine⟨_,((ai (aB (aj (Az T) L T.DS T.nq (aa (aj (qF T) L T.ve T.kA (aa (pv 1) ae)) (aa (aM (K:=K) rfl (pv 0) rfl) (aa (pv 2) ae))))))),ar (σ':=[some _,some _,some _]) rfl ?_⟩;walk_at "l2";refine⟨D,M.pl 1000 G,rfl,α,λx Y=>M.pl_lt O x Y,?_⟩;rw[M8 O];walk_at "l2";refine aJ ho T.bc T.fQ rfl ?_;walk_at "l2";exact⟨G,m,γ,rfl,by omega,hT,q⟩
theorem Dh (T:Tx K mg a):FnOk P w K mg base (CX1 P w) 7 a.ju a.zM ["machine","start","wish","turns"] (CH K a.ax a.dD a.la):=by
 refine T.mO.1.okX wF (λvs H Q E h=>?_) (λa8 A outer s H vs Q E O h=>?_)
 ·obtain⟨p,m,nx,os,x,y,z,rfl,_⟩:=h;rfl
 ·obtain⟨p,m,nx,os,x,y,z,rfl,ma,g,hl,⟨kx,υ⟩,⟨ky,τ⟩,⟨θ,G⟩,qQ,qM,qR⟩:=h;obtain⟨dx,tn,to,ho,hn,a7⟩:=ma.ho;have m6:=g.m6
  refine⟨_,((af (be (fP (pv 0) T.bc T.bP (bE T) (O.mono (by decide)) T.aR.2 .nil fN (aa (pv 1) ae)))
   (af (be (fP (pv 0) T.bc T.bP (bE T) (O.mono (by decide)) T.aR.2 .nil fN (aa (pv 2) ae)))
   (af (cG (PW.pt (qy (gx (eu (aj (oJ T) O T.rn T.iS (aa (pv 3) ae)))) (qy (aI Da (pv 3) ag (aQ _)) (pe (aI oH (pv 3) (iy (v:= .int 40) (by rfl) T.zo ⟨_,rfl⟩) (aQ _)))))) (ai (kR PySem.F.excBase_ValueError T.oZ fN rfl (by rfl) T.JO (aa bq ae))) aV)
   (af (aA (i:=4) wF.nd rfl (by walk_at "o") (aj (mY T) O T.pO T.jz (aa (aj (BN T) O T.GU T.vD (aa (pv 0) (aa (pv 3) ae))) (aa (au i0 (pv 2) (fP (pv 0) T.bc T.uG (si T) (O.mono (by decide)) T.jy .nil fN (aa (au Kw (cw (aa ag ae)) (pv 3)) (aa (pv 1) ae)))) ae))))
   (af (cG (aI fK (aD (av (K:=K) rfl) (pv 4) ag (λ_ _=>rfl)) bq (aQ _)) (ai (aB (dk (aa bq (aa (aj (wG T) O T.ze T.mL (aa (pv 0) (aa (aD (av (K:=K) rfl) (pv 4) ag (λ_ _=>rfl)) (aa (pv 3) ae)))) ae))))) aV)
   (ai (aB (pv 4))))))))),ar (σ':=[some _,some _,some _,some _,none]) rfl ?_⟩
  walk_at "l2";refine d0 ho rfl ?_;walk_at "l2";refine⟨p,m,nx,os,x,kx,rfl,ma,υ,fun ν=>?_,fun ν=>qM (.inl ν)⟩;walk_at "l2";refine d0 ho rfl ?_;walk_at "l2";refine⟨p,m,nx,os,y,ky,rfl,ma,τ,fun ι=>?_,fun ι=>qM (.inr ι)⟩;have β:=qR ν ι;obtain⟨γ,rfl,Z⟩:=kX ν;obtain⟨b0,rfl,α⟩:=kX ι;walk_at "l2";cases z with
  | int i=>
    have G:θ="int":=G;subst G;walk_at "l2";by_cases φ:i < 0
    ·refine kK (decide_eq_true φ) ?_;walk_at "l2";exact⟨by rw[sizeLine_eq];decide,β (BX (.inl φ))⟩
    ·refine ie (decide_eq_false φ) ?_;walk_at "l2";by_cases h1:40 < i
     ·refine kK (decide_eq_true h1) ?_;walk_at "l2";exact⟨by rw[sizeLine_eq];decide,β (BX (.inr (by omega)))⟩
     ·refine ie (decide_eq_false h1) ?_;obtain⟨L,rfl⟩:=Int.eq_ofNat_of_zero_le (show 0<=i by omega);have hT:L<=40:=by omega
      walk_at "l2";refine⟨p,m,nx,os,L,rfl,ma,g,by omega,λD1 H1 f1 s1 e1=>?_⟩;walk_at "l2";refine d0 (s1.get ho) rfl ?_;walk_at "l2";intro D2 H2 f2 s2 e2;walk_at "l2";refine NL e2 (by omega) (by omega) (by rw[sizeLine_eq,Int.toNat_natCast];simp;omega) λD3 H3 f3 s3 e3=>?_;rw[Int.toNat_natCast,List.flatten_replicate_singleton,show List.replicate L (V.int 0)=(List.replicate L 0).map nat from by rw[List.map_replicate];rfl] at e3;have ε:=s1.trans (s2.trans s3);have π:∀r∈List.replicate L 0,r < 2 ^ m:=λr O=>by rw[List.eq_of_mem_replicate O];exact two_pow_pos _
      walk_at "l2";refine⟨p,D3,m,nx,os,nat γ,(List.replicate L 0).map nat,rfl,⟨ma.same ε,g,⟨"int",rfl⟩,SqL.of e3,HY.nats _ _ _,by rw[length_map,length_replicate];omega⟩,λa1 a5 gd H4 s4=>?_,λa3=>False.elim (Md Z π a3)⟩;obtain⟨rfl,rfl⟩:=GR gd;rw[M.wst_zs]
      have ο:M.zs (prs nx) γ L < 2 ^ nx.length:=by
       have:=M.wst_lt (ps:=prs nx) (rs:=List.replicate L 0) (x:=γ) (by rw[eG];exact Z);rwa [eG,M.wst_zs] at this
      have Y:=ε.trans s4;have ω:=s4.get (s3.get (s2.get e1));have lr:=M.rch_len (prs nx) m L;have a4:L * m<=40 * 6:=mul_le_mul hT m6;have ζ:∀r∈M.rch (prs nx) m L,r < 2 ^ nx.length:=λr O=>by have:=M.rch_lt (prs nx) m L r O;rwa [eG] at this
      have a6:=M.rank_le ζ;walk_at "l2";rw[cI];refine⟨D1,M.rch (prs nx) m L,b0^^^M.zs (prs nx) γ L,rfl,ω,by omega,λr O=>gc (ζ r O) (by omega),gc (M.xor_lt_pow α ο) (by omega),.inr (by omega),λt D5 H5 ξ f5 δ ψ χ sd=>?_,λt H5 mk δ ψ bd=>?_⟩
      ·walk_at "l2";have ρ:ξ < 2 ^ 1000:=gc sd.lt (by omega);refine⟨p,D5,m,nx,os,ξ,L,rfl,ma.same (Y.trans δ),g,χ,ρ,by omega,λD6 H6 f6 s6 e6=>?_⟩;walk_at "l2";intro t7 H7 f7 s7 e7;refine qQ γ b0 L rfl rfl rfl Z α hT t7 H7 (Y.trans (δ.trans (s6.trans s7))) (λD η=>?_) (.inl ⟨D6,ξ,e7,s7.get e6,sd⟩);rw[e7] at η;have:D6=D:=by injection η with h;injection h with h;injection h with _ h;injection h with h;injection h
       rw[<-this];exact tJ (Y.trans δ) f6
      ·walk_at "l2";refine qQ γ b0 L rfl rfl rfl Z α hT t H5 (Y.trans δ) (λD η=>?_) (.inr ⟨mk,ψ,bd⟩);rw[ψ] at η;injection η with h;injection h with h;injection h with h;injection h with h;exact absurd h (by decide)
  | bl b=>have G:θ="bool":=G;subst G;walk_at "l2";exact⟨by rw[sizeLine_eq];decide,β rfl⟩
  | non=>have G:θ="NoneType":=G;subst G;walk_at "l2";exact⟨by rw[sizeLine_eq];decide,β rfl⟩
  | str z=>have G:θ="str":=G;subst G;walk_at "l2";exact⟨by rw[sizeLine_eq];decide,β rfl⟩
  | ref p2=>
    rcases G with ⟨rfl,_⟩ | ⟨rfl,_⟩ | ⟨rfl,_⟩<;>walk_at "l2"<;>exact⟨by rw[sizeLine_eq];decide,β rfl⟩
  | _=>exact False.elim G
theorem vJ (T:Tx K mg a):FnOk P w K mg base CX0 5 a.dN a.pR ["machine","mask"] (CB a.ax):=by
 refine T.iH.1.okA jT fun ι A outer s H vs Q E γ h=>?_;obtain⟨p,m,nx,os,d,rfl,ma,g,hd,q⟩:=h;obtain⟨dx,ν,to,ho,hn,ζ⟩:=ma.ho;have ln:=g.ln
 refine⟨_,((af (aA (i:=2) jT.nd rfl (by walk_at "o") (cw (aa (pv 1) ae)))
  (af (dz PassesOwn.never rfl (cV (by rfl) T.gC (aa (bf (pv 0) T.bc T.lF (kg T) (γ.mono (by decide)) T.cT.2 .nil bO) ae)) (aw (i:=3) jT.nd rfl (by walk_at "o")) (ai (be (d2 (K:=K) rfl PySem.F.plainAttrs_list PySem.F.slot_list_append PySem.F.type_list_append cW (pv 2) (aa (aD (av (K:=K) rfl) (fP (pv 0) T.bc T.vU (uw T) (γ.mono (by decide)) T.fM.2 .nil thr0 (aa (aD (aL (K:=K) rfl) (pv 2) (vI nR ag) (λ_ _=>rfl)) ae)) ag (λ_ _=>rfl)) ae)))))
  (ai (aB (pv 2)))))),ar (σ':=[some _,some _,none,none]) rfl ?_⟩
 walk_at "l2";intro D H1 δ Y θ;walk_at "l2";refine aC (Y.get ho) rfl ?_;walk_at "l2";refine⟨p,m,nx,os,rfl,ma.same Y,?_⟩;walk_at "l2";refine km (λi σ H'=>∃v,σ=[some (.ref p),some (nat d),some (.ref D),v]/\Same H H'/\H' D=some (.lst ((M.bl (nA nx) d i).map nat))) ⟨none,rfl,Y,θ⟩ ?_ ?_
 ·rintro i σ H' hi ⟨v,rfl,G,O⟩;have ε:(M.bl (nA nx) d i).map nat=((List.range i).map (M.bkI (nA nx) d)).map nat++[nat (M.bkI (nA nx) d i)]:=by unfold M.bl;rw[range_succ,map_append,map_append];rfl
  have hz:=M.bkI_lt (OZ g) hd i;rw[ε] at O;have η:=Ce (((List.range i).map (M.bkI (nA nx) d)).map nat) (nat (M.bkI (nA nx) d i));have Z:=ma.same G;have α:=G.get ho;walk_at "l2";refine d0 α rfl ?_;walk_at "l2";refine⟨p,m,nx,os,nat (M.bkI (nA nx) d i),"int",rfl,Z,g,rfl,λa1 ea _ ξ ρ β ο=>?_,λL=>?_⟩
  ·have ea:=gQ ea;subst ea;walk_at "l2";refine fg (β.get O) (by rw[length_append,length_map,length_map,length_range,sizeLine_eq];show i + 1 < _;omega) fun π u=>?_;walk_at "l2";refine⟨λb o e=>u.oth b o (ao e δ) (β.get (G.get e)),?_⟩;rw[u.at',<-ε];unfold M.bl;rw[range_succ (n:=i + 1),map_append,map_append];rfl
  ·rw[cX hz] at L;cases L
 ·rintro σ H' ⟨v,rfl,G,O⟩;walk_at "l2";exact q D H' δ G O
theorem wI (T:Tx K mg a):FnOk P w K mg base (CX1 P w) 7 a.jt a.zL ["machine","state"] (Fw K a.ax a.dD):=by
 refine T.jA.1.okX iN (λvs H Q E h=>?_) (λb0 A outer s H vs Q E L h=>?_)
 ·obtain⟨p,m,nx,os,x,rfl,_⟩:=h;rfl
 ·obtain⟨p,m,nx,os,x,rfl,ma,g,hl,⟨kx,ω⟩,ξ,qM⟩:=h;obtain⟨dx,tn,to,ho,hn,a6⟩:=ma.ho;have m6:=g.m6
  refine⟨_,((af (be (fP (pv 0) T.bc T.bP (bE T) (L.mono (by decide)) T.aR.2 .nil fN (aa (pv 1) ae)))
   (af (aA (i:=2) iN.nd rfl (by walk_at "o") ag)
   (af (dz (oG ⟨rfl,rfl⟩) rfl (cV (by rfl) T.gC (aa (au bY (bf (pv 0) T.bc T.lF (kg T) (L.mono (by decide)) T.cT.2 .nil bO) ag) ae)) (aw (i:=3) iN.nd rfl (by walk_at "o")) (af (aA (i:=4) iN.nd rfl (by walk_at "o") (aj (mY T) L T.pO T.jz (aa (aj (BN T) L T.GU T.vD (aa (pv 0) (aa (pv 3) ae))) (aa (pv 1) ae))))
   (af (cG (aI fK (aD (av (K:=K) rfl) (pv 4) ag (λ_ _=>rfl)) bq (aQ _)) (ai (aB (dk (aa bq (aa (aj (wG T) L T.ze T.mL (aa (pv 0) (aa (aD (av (K:=K) rfl) (pv 4) ag (λ_ _=>rfl)) (aa (pv 3) ae)))) (aa (pv 2) ae)))))) aV)
   (ai (aA (i:=2) iN.nd rfl (by walk_at "o") (aD (av (K:=K) rfl) (pv 4) ag (λ_ _=>rfl)))))))
   (af (aA (i:=5) iN.nd rfl (by walk_at "o") (aj (Jw T) L T.MA T.yx (aa (aj (vJ T) L T.yc T.iH (aa (pv 0) (aa (pv 2) ae))) ae)))
   (ai (aB (dk (aa bq (aa (aD (av (K:=K) rfl) (pv 5) ag (λ_ _=>rfl)) (aa (aD (av (K:=K) rfl) (pv 5) ag (λ_ _=>rfl)) ae))))))))))),ar (σ':=[some _,some _,none,none,none,none]) rfl ?_⟩
  walk_at "l2";refine d0 ho rfl ?_;walk_at "l2";refine⟨p,m,nx,os,x,kx,rfl,ma,ω,fun χ=>?_,fun χ=>qM χ⟩;obtain⟨st,rfl,α⟩:=kX χ;have ξ:=ξ st rfl α;have η:=Gm hl α;walk_at "l2";refine aC ho rfl ?_;walk_at "l2";refine⟨p,m,nx,os,rfl,ma,?_⟩;walk_at "l2";refine km (λi σ H'=>∃ρ π mk,σ=[some (.ref p),some (nat st),some (nat mk),ρ,π,none]/\Same H H'/\(∀j,j < i->¬M.Span (M.rch (prs nx) m j) st)/\((i=0/\mk=0)∨∃ο,i=ο + 1/\Bard (M.rch (prs nx) m ο) st mk)) ⟨none,none,0,rfl,Same.refl _,λj h=>absurd h (not_lt_zero j),.inl ⟨rfl,rfl⟩⟩ ?_ ?_
  ·rintro i σ H' hi ⟨ρ,π,mk,rfl,Y,O,β⟩;have a0:i<=nx.length:=by omega
   have Z:=ma.same Y;have ζ:=M.rch_len (prs nx) m i;have a5:i * m<=60 * 6:=mul_le_mul (by omega) m6;walk_at "l2";rw[Int.zero_add];refine⟨p,m,nx,os,i,rfl,Z,g,by omega,λD1 H7 f7 γ e7=>?_⟩;walk_at "l2";refine vx (rows:=M.rch (prs nx) m i) (x:=st) e7 (by rw[ζ];omega) (λr L=>Gm hl (LY (os:=os) hl i r L)) η (lt_of_le_of_lt (M.rank_le (LY (os:=os) hl i)) (by omega)) λt8 H8 τ F8=>?_;have G:=(Y.trans γ).trans τ;rcases F8 with ⟨D2,ε,e,e',sd,a7⟩ | ⟨φ,e,bd⟩
   ·have ψ:ε < 2 ^ 1000:=lt_of_lt_of_le sd.lt (pow_le_pow_right (by decide) (by rw[ζ];omega));walk_at "l2";refine⟨p,D2,m,nx,os,ε,i,rfl,ma.same G,g,e',ψ,by omega,λD3 H9 f9 ν e9=>?_⟩;walk_at "l2";intro tt a4 a8 δ a3;exact ξ tt a4 ((G.trans ν).trans δ) (.inl ⟨D3,i,ε,mk,⟨a3,δ.get e9,a0,O,sd,β⟩,G.free f9⟩)
   ·walk_at "l2";refine⟨_,_,φ,rfl,G,λj hj=>?_,.inr ⟨i,rfl,bd⟩⟩;by_cases h:j < i
    ·exact O j h
    ·rw[show j=i by omega];exact bd.ns
  ·rintro σ H' ⟨ρ,π,mk,rfl,Y,O,β⟩;have Z:=ma.same Y
   have ι:Bard (M.rch (prs nx) m nx.length) st mk:=by
    rcases β with ⟨h,_⟩ | ⟨ο,h,hb⟩
    ·omega
    ·have:ο=nx.length:=by omega
     rw[<-this];exact hb
   have θ:=ι.lt nx.length (LY (os:=os) hl _) α;walk_at "l2";refine⟨p,m,nx,os,mk,rfl,Z,g,θ,λD1 H7 f7 γ e7=>?_⟩;walk_at "l2";refine⟨D1,_,nx.length,rfl,e7,M.bl_len _ _ _,hl,M.bl_lt (OZ g) θ,λt2 D S H8 pp ε fD fS υ τ e8 ct=>?_⟩;walk_at "l2";intro tt H9 f9 ν e9;exact ξ tt H9 (((Y.trans γ).trans τ).trans ν) (.inr ⟨D,S,mk,pp,ε,⟨e9,λj hj=>O j (by omega),ι,ct.same ν⟩,(Y.trans γ).free fD,(Y.trans γ).free fS,υ⟩)
theorem Jv (T:Tx K mg a):FnOk P w K mg base CX0 4 a.oV a.Hr ["net"] (IV (NAof a)):=by
 refine T.yw.1.okA xl λb3 A outer s H vs Q E η h=>?_;obtain⟨p,N,od,rfl,na,q⟩:=h;have hu:=oR η;obtain⟨dx,i,s,t,o,d,tq,rs,qs,ws,hp,kp,wi,eq⟩:=na.ho;have g:=na.g;have tp:=na.tp;have nl:=xO g tp;have hg:=ya g tp
 refine⟨_,((af (aA (i:=1) xl.nd rfl (by walk_at "o") pq)
  (af (dz PassesOwn.never rfl (aU (K:=K) rfl (bf (pv 0) T.bX T.jd (iA T) (η.mono (by decide)) T.b6.2 .nil bO)) (aw (i:=2) xl.nd rfl (by walk_at "o")) (ai (xy hu (pv 1) (pv 2) (PE.or (eh (eh (pv 0) T.bX T.dJ (c8 T) (η.mono (by decide)) T.bU.2 .nil bO (aa (pv 2) ae)) T.lh T.xS (vP T) (η.mono (by decide)) T.gK.2 .nil bO (aa (pv 1) ae)) (PE.or (eh (eh (pv 0) T.bX T.dJ (c8 T) (η.mono (by decide)) T.bU.2 .nil bO (aa (pv 2) ae)) T.jD T.vT (ur T) (η.mono (by decide)) T.fL.2 .nil bO (aa (pv 1) ae)) (eh (eh (pv 0) T.bX T.dJ (c8 T) (η.mono (by decide)) T.bU.2 .nil bO (aa (pv 2) ae)) T.fc T.sC (qG T) (η.mono (by decide)) T.d7.2 .nil bO (aa (pv 1) ae)))) rfl)))
  (ai (aB (pv 1)))))),ar (σ':=[some _,none,none]) rfl ?_⟩
 walk_at "l2";intro θ H1 f1 χ e1;have a0:=χ.get hp;walk_at "l2";refine aC a0 rfl ?_;walk_at "l2";refine⟨p,N,od,rfl,na.same χ,λD2 H2 f2 s2 e2=>?_⟩;have ψ:=χ.trans s2;walk_at "l2";refine gF (xs:=(need N od).map V.str) (λi σ H'=>∃v hs,σ=[some (.ref p),some (.ref θ),v]/\Same H H'/\H' D2=some (.lst ((need N od).map V.str))/\Hgd H' θ N ((need N od).take i) hs) ⟨none,[],rfl,ψ,e2,s2.get e1,rfl,λ_ h=>by cases h⟩ (λi σ H' _ ⟨_,_,_,_,e',_⟩=>SqL.of e') ?_ ?_
 ·rintro i y σ H' ω ⟨v,hs,rfl,s',eD,hd⟩;obtain⟨z,hz,rfl⟩:=aF ω;have b0:=(List.getElem?_eq_some_iff.mp hz).1;have δ:=(jJ g tp z).mp (mem_of_getElem? hz);have ν:=s'.get hp;have ι:=na.same s';obtain⟨a8,a7,a6,x1,x2,x3⟩:=kW g;have ρ:=uB g tp hz
  have lk:(hs.map λq=>((Sum.inr q.1:Key),V.ref q.2)).length<=1000:=by
   have:=congrArg List.length hd.nm;rw[length_map,length_take] at this;rw[length_map];omega
  have fin:∀(t:Addr) (Y γ:Hp),Same H' Y->Y t=some (.tup [nat (hgp N z).1,nat (hgp N z).2])->Upd Y γ θ (.dK (putK (hs.map λq=>((Sum.inr q.1:Key),V.ref q.2)) (Sum.inr z) (.ref t)))->∃L,Same H γ/\γ D2=some (.lst ((need N od).map V.str))/\Hgd γ θ N ((need N od).take (i + 1)) L:=λt Y γ O et Z=>by
   rw[Aw (zs:=(need N od).take i) (by rw[map_map,<-hd.nm,map_map];rfl) ρ] at Z;have ο:=O.get hd.d;refine⟨hs++[(z,t)],λbb o e=>Z.oth _ _ (ao e f1) (O.get (s'.get e)),Z.oth _ _ (b4 (O.get eD) ο λz=>by cases z) (O.get eD),by rw[map_append];exact Z.at',by rw[map_append,hd.nm,take_succ hz];rfl,λq hq=>?_⟩;rcases mem_append.mp hq with h | h
   ·have e4:=O.get (hd.ob q h);exact Z.oth _ _ (b4 e4 ο λz=>by cases z) e4
   ·rw[mem_singleton.mp h];exact Z.oth _ _ (b4 et ο λz=>by cases z) et
  walk_at "l2";have ζ:=δ;unfold Nt.names at ζ;rcases mem_append.mp ζ with h' | h'
  ·rcases mem_append.mp h' with h' | h'
   ·refine Or.inl ?_;walk_at "l2";refine aC ν rfl ?_;walk_at "l2";refine⟨p,N,od,z,rfl,ι,δ,λw H3 ε π=>?_⟩;cases π with
    | i k G hk e=>
      have a4:=(List.getElem?_eq_some_iff.mp hk).1;have:=g.li;walk_at "l2";refine aC e rfl ?_;walk_at "l2";refine⟨w,G,.str z,(k:Int),.ref θ,rfl,e,by omega,by omega,λt Y O et=>?_⟩;rw[shl1] at et;have β:Y t=some (.tup [nat (hgp N z).1,nat (hgp N z).2]):=by rw[hg.i k z hk];exact et
      walk_at "l2";refine ox (O.get (ε.get hd.d)) (aE lk) fun γ Z=>?_;obtain⟨L,a1,a2,υ⟩:=fin t Y γ (ε.trans O) β Z;walk_at "l2";exact⟨_,L,rfl,a1,a2,υ⟩
    | s α G φ hk e et=>exact absurd (mem_map.mpr ⟨_,hk,rfl⟩) (x1 z h')
    | t k y G hk e=>exact absurd (mem_map.mpr ⟨_,mem_of_getElem? hk,rfl⟩) (x2 z h')
   ·refine Or.inr (Or.inl ?_);walk_at "l2";refine aC ν rfl ?_;walk_at "l2";refine⟨p,N,od,z,rfl,ι,δ,λw H3 ε π=>?_⟩;cases π with
    | i k G hk e=>exact absurd h' (x1 z (mem_of_getElem? hk))
    | s α G φ hk e et=>
      have a5:=AJ g tp hz α hk;have ξ:=hd.same ε;walk_at "l2";refine aC e rfl ?_;walk_at "l2";refine⟨w,G,.str z,φ,θ,α,_,λy=>(((hgp N y).1:Nat):Int),λy=>(((hgp N y).2:Nat):Int),rfl,e,SqT.of et,ξ.d,λy ω=>(by obtain⟨t,t1,t2⟩:=ξ.val (a5 y ω);exact⟨t,t1,SqT.of t2⟩),λt Y O τ=>?_⟩;rw[G5,G5] at τ;have β:Y t=some (.tup [nat (hgp N z).1,nat (hgp N z).2]):=by rw[hg.s z α hk];exact τ
      walk_at "l2";refine ox (O.get ξ.d) (aE lk) fun γ Z=>?_;obtain⟨L,a1,a2,υ⟩:=fin t Y γ (ε.trans O) β Z;walk_at "l2";exact⟨_,L,rfl,a1,a2,υ⟩
    | t k y G hk e=>exact absurd (mem_map.mpr ⟨_,mem_of_getElem? hk,rfl⟩) (x3 z h')
  ·refine Or.inr (Or.inr ?_);walk_at "l2";refine aC ν rfl ?_;walk_at "l2";refine⟨p,N,od,z,rfl,ι,δ,λw H3 ε π=>?_⟩;cases π with
   | i k G hk e=>exact absurd h' (x2 z (mem_of_getElem? hk))
   | s α G φ hk e et=>exact absurd h' (x3 z (mem_map.mpr ⟨_,hk,rfl⟩))
   | t k y G hk e=>
     have a4:=(List.getElem?_eq_some_iff.mp hk).1;have:=g.lt;walk_at "l2";refine aC e rfl ?_;walk_at "l2";refine⟨w,G,.str z,.str y,(k:Int),.ref θ,rfl,e,by omega,by omega,λt Y O et=>?_⟩;rw[shl1] at et;have β:Y t=some (.tup [nat (hgp N z).1,nat (hgp N z).2]):=by rw[hg.t k z y hk];exact et
     walk_at "l2";refine ox (O.get (ε.get hd.d)) (aE lk) fun γ Z=>?_;obtain⟨L,a1,a2,υ⟩:=fin t Y γ (ε.trans O) β Z;walk_at "l2";exact⟨_,L,rfl,a1,a2,υ⟩
 ·rintro σ H' ⟨v,hs,rfl,s',eD,hd⟩;rw[length_map,take_length] at hd;walk_at "l2";exact q θ H' hs f1 s' hd
theorem oI (T:Tx K mg a):FnOk P w K mg base CX0 7 a.gT a.wQ ["net"] (IG (NAof a) a.ax):=by
 refine T.iR.1.okA kH λc1 A outer s H vs Q E ζ h=>?_;obtain⟨p,N,od,rfl,na,q⟩:=h;have hu:=oR ζ;obtain⟨dx,i,s,t,o,d,tq,rs,qs,ws,hp,kp,wi,eq⟩:=na.ho;have g:=na.g;have tp:=na.tp;have lt:=g.lt;have lo:=g.lo;have li:=g.li
 refine⟨_,((af (aA (i:=1) kH.nd rfl (by walk_at "o") (aj (Jv T) ζ T.Mz T.yw (aa (pv 0) ae)))
  (af (dI (osc:=ah kb) (ON:=["net","pairs","nexts","outs"]) (N:=["row","pairs"]) (n:=1) (fx:=[1]) (i:=2) kH.nd rfl rfl rfl rfl rfl rfl (by decide +kernel) (aU (K:=K) rfl (bf (pv 0) T.bX T.cR (cH T) (ζ.mono (by decide)) T.bx.2 .nil bO)) (aS (by decide)) (λ_ _ _ _ _=>⟨(aw (i:=0) (show List.Nodup (["row","pairs"]:List Str) from by decide +kernel) rfl (by walk_at "o")),bB,(mq hu (pv 1) (aD (av (K:=K) rfl) (pv 0) ag (λ_ _=>rfl)) (λ_ _=>rfl))⟩))
  (af (dI (osc:=ah kb) (ON:=["net","pairs","nexts","outs"]) (N:=["wire","pairs"]) (n:=1) (fx:=[1]) (i:=3) kH.nd rfl rfl rfl rfl rfl rfl (by decide +kernel) (aU (K:=K) rfl (bf (pv 0) T.bX T.eL (d3 T) (ζ.mono (by decide)) T.bW.2 .nil bO)) (aS (by decide)) (λ_ _ _ _ _=>⟨(aw (i:=0) (show List.Nodup (["wire","pairs"]:List Str) from by decide +kernel) rfl (by walk_at "o")),bB,(mq hu (pv 1) (pv 0) (λ_ _=>rfl))⟩))
  (ai (aB (j5 T.HX (oM T) (ζ.mono (by decide)) (by rfl) T.G1 T.eC.2 .nil bO (aa (aH (aP (K:=K) rfl) (by rfl) T.fG PySem.boot_len (aa (bf (pv 0) T.bX T.dc (cN T) (ζ.mono (by decide)) T.bH.2 .nil bO) ae)) (aa (pv 2) (aa (pv 3) ae)))))))))),ar (σ':=[some _,none,none,none]) rfl ?_⟩
 walk_at "l2";refine⟨p,N,od,rfl,na,λDd H1 hs f1 s1 hd=>?_⟩;walk_at "l2";refine aC (s1.get hp) rfl ?_;walk_at "l2";refine⟨p,N,od,rfl,na.same s1,λD2 H2 β f2 s2 e2 qk et=>?_⟩;have a0:=s1.trans s2;have ε:=hd.same s2;have lq:β.length=N.sts.length:=by rw[<-et,length_map]
 have η:∀{k:Nat} {r:Qs},β[k]? =some r->(N.sts.map (·.2))[k]? =some r.2.2:=λ{k r} h=>by rw[<-et,getElem?_map,getElem?_map,h];rfl
 walk_at "l2";intro D3 ξ;refine aX (xs:=β.map λr=>V.ref r.1) (λi ys H'=>∃nx:List Pr3,ys=refs nx/\Same H2 H'/\H' D3=some (.lst ys)/\Prt H2 nx/\prs nx=((N.sts.map (·.2)).take i).map (hgp N)) ⟨[],rfl,bh ξ,ay,λ_ h=>(by cases h),rfl⟩ (λi ys H' _ ⟨_,_,s',_⟩=>SqL.of (s'.get e2)) ?_ ?_
 ·rintro i y ys H' hy ⟨nx,rfl,s',ο,pt,ep⟩;obtain⟨r,γ,rfl⟩:=aF hy;have a7:=(List.getElem?_eq_some_iff.mp γ).1;have er:=s'.get (qk r (mem_of_getElem? γ));have θ:=η γ;have δ:r.2.2∈need N od:=(jJ g tp _).mpr (by obtain⟨L,G,ο⟩:=mem_map.mp (mem_of_getElem? θ);rw[<-ο];exact g.ts L G);obtain⟨tt,φ,υ⟩:=ε.val δ;have ln:nx.length=i:=by have:=congrArg List.length ep;rw[length_map,length_map,length_take,length_map] at this;omega
  walk_at "l2";refine qo (s'.get ε.d) φ ?_;walk_at "l2";refine⟨ο,by rw[tH];exact aE (by omega),nx++[(tt,hgp N r.2.2)],by unfold refs;rw[map_append];rfl,λb ob e=>?_,ay,λL G=>?_,?_⟩
  ·rw[aG (ao e ξ)];exact s'.get e
  ·rcases mem_append.mp G with h | h
   ·exact pt L h
   ·rw[mem_singleton.mp h];exact υ
  ·show List.map _ (nx++_)=_;rw[map_append,show nx.map (·.2)=_ from ep,take_succ θ,map_append];rfl
 ·rintro ys H3 ⟨nx,rfl,ω,e3,pn,τ⟩;rw[length_map,lq,List.take_of_length_le (by rw[length_map];exact le_refl _)] at τ;have a5:=pn.same ω;have a8:=ε.same ω;have α:=a0.trans ω;clear e2 qk et η pn f2;walk_at "l2";refine aC (α.get hp) rfl ?_;walk_at "l2";refine⟨p,N,od,rfl,na.same α,λD4 H4 f4 s4 e4=>?_⟩;have ι:=a8.same s4;walk_at "l2";intro D5 ν;refine aX (xs:=N.outs.map V.str) (λi ys H'=>∃nx:List Pr3,ys=refs nx/\Same H4 H'/\H' D5=some (.lst ys)/\Prt H4 nx/\prs nx=(N.outs.take i).map (hgp N)) ⟨[],rfl,bh ν,ay,λ_ h=>(by cases h),rfl⟩ (λi ys H' _ ⟨_,_,s',_⟩=>SqL.of (s'.get e4)) ?_ ?_
  ·rintro i y ys H' hy ⟨nx,rfl,s',ο,pt,ep⟩;obtain⟨z,hz,rfl⟩:=aF hy;have a7:=(List.getElem?_eq_some_iff.mp hz).1;have δ:z∈need N od:=(jJ g tp _).mpr (g.os z (mem_of_getElem? hz));obtain⟨tt,φ,υ⟩:=ι.val δ;have ln:nx.length=i:=by have:=congrArg List.length ep;rw[length_map,length_map,length_take] at this;omega
   walk_at "l2";refine qo (s'.get ι.d) φ ?_;walk_at "l2";refine⟨ο,by rw[tH];exact aE (by omega),nx++[(tt,hgp N z)],by unfold refs;rw[map_append];rfl,λb ob e=>?_,ay,λL G=>?_,?_⟩
   ·rw[aG (ao e ν)];exact s'.get e
   ·rcases mem_append.mp G with h | h
    ·exact pt L h
    ·rw[mem_singleton.mp h];exact υ
   ·show List.map _ (nx++_)=_;rw[map_append,show nx.map (·.2)=_ from ep,take_succ hz,map_append];rfl
  ·rintro ys H5 ⟨os,rfl,s5,e5,po,ρ⟩;rw[length_map,take_length] at ρ;have Z:=s4.trans s5;have Y:=α.trans Z;have a3:=po.same s5;have a4:=a5.same Z;have b0:=Z.get e3;have a6:nx.length=N.sts.length:=by have:=congrArg List.length τ;rw[length_map,length_map,length_map] at this;exact this
   have c0:os.length=N.outs.length:=by have:=congrArg List.length ρ;rw[length_map,length_map] at this;exact this
   have π:∀q∈nx++os,q.2.1 < 2 ^ nx.length/\q.2.2 < 2 ^ N.ins.length:=λL G=>by
    have:∃z,L.2=hgp N z:=by
     rcases mem_append.mp G with h | h
     ·have:L.2∈prs nx:=mem_map.mpr ⟨L,h,rfl⟩;rw[τ] at this;obtain⟨z,_,e⟩:=mem_map.mp this;exact⟨z,e.symm⟩
     ·have:L.2∈prs os:=mem_map.mpr ⟨L,h,rfl⟩;rw[ρ] at this;obtain⟨z,_,e⟩:=mem_map.mp this;exact⟨z,e.symm⟩
    obtain⟨z,e⟩:=this;rw[e,a6];exact⟨Pc N z,Pb N z⟩
   clear e4 f4;walk_at "l2";refine aC (Y.get hp) rfl ?_;walk_at "l2";refine⟨p,N,od,rfl,na.same Y,λD6 H6 f6 ψ e6=>?_⟩;walk_at "l2";rw[length_map];intro x b3 H7 f7 s7 e7;have O:=ψ.trans s7;refine⟨x,b3,D3,D5,N.ins.length,nx,os,rfl,e7,⟨li,O.get b0,O.get e5,a4.same O,a3.same O,by omega,by omega,π⟩,λH8 k8 ma=>⟨rfl,?_⟩⟩;have χ:Same H6 H8:=λb ob e=>k8 _ _ (ao e f7) (s7.get e);exact q x H8 nx os (Y.free (ψ.free f7)) (Y.trans (ψ.trans χ)) ma ⟨li,by omega,by omega,π⟩ τ ρ
end
section
theorem eI (T:Tx K mg a):FnOk P w K mg base CX0 1 a.fX a.vo ["_law_script","_law_k"] (Bz K):=by
 refine T.df.1.okA yF λY A outer s H vs Q E Z h=>?_;obtain⟨p,ns,k,rfl,α,O,q⟩:=h
 refine⟨_,((af (cG (aI Da (pv 1) (aH (aP (K:=K) rfl) (by rfl) T.fG PySem.boot_len (aa (pv 0) ae)) (aQ _)) (ai (aB (aD (aL (K:=K) rfl) (pv 0) (pv 1) (λ_ _=>rfl)))) aV)
  (ai (aB (au bY (au mw ag (pv 1)) ag))))),ar (σ':=[some _,some _]) rfl ?_⟩
 walk_at "l2";rw[length_map];unfold cell at q;refine ite2 (λG=>?_) (λG=>?_)
 ·have G:=of_decide_eq_true G
  have ha:atI (ns.map V.int) k=some (.int (ns.getD k.toNat 0)):=by
   obtain⟨j,rfl⟩:=Int.eq_ofNat_of_zero_le O;have L:j < ns.length:=by omega
   exact fI (by rw[getElem?_map,getElem?_eq_getElem L,getD_eq_getElem?_getD,Int.toNat_natCast,getElem?_eq_getElem L];rfl)
  rw[if_pos G] at q;walk_at "l2";exact q
 ·have G:¬k < ns.length:=λz=>G (decide_eq_true z);rw[if_neg G] at q;walk_at "l2";exact q
theorem Hu {H:Hp} {Q:VK} {E:XK} {c k:Int} (h0:0<=k) (h1:k < 100000) (q:Q (.int (mixV c k)) H):Ah [.int c,.int k] H Q E:=⟨c,k,rfl,h0,h1,q⟩
local macro_rules | `(tactic| walk_at "l2step") =>`(tactic| first | ((with_reducible refine' Hu ?a ?b ?_);(case a=>walk_at "l2side");(case b=>walk_at "l2side")) | ((with_reducible refine' rA ?e ?a ?_);(case e=>walk_at "l2hp");(case a=>walk_at "l2side")))
theorem cA (T:Tx K mg a):FnOk P w K mg base CX0 1 a.g5 a.wZ ["_law_cell_here","_law_k"] Ah:=by
 refine T.bj.1.okA oj λG A outer s H vs Q E L h=>?_;obtain⟨c,k,rfl,O,h1,q⟩:=h
 refine⟨_,((af (aA (i:=2) oj.nd rfl (by walk_at "o") (au cq (au bY (au bY (au mw (au cq (pv 0) ag) ag) (au mw ag (pv 1))) ag) ag))
  (af (aA (i:=2) oj.nd rfl (by walk_at "o") (au cq (au mw (pv 2) (pv 2)) ag))
  (ai (aB (au cq (au mw (pv 2) (au bY (au bY (pv 2) (au mw ag (pv 1))) ag)) ag)))))),ar (σ':=[some _,some _,none]) rfl ?_⟩
 walk_at "l2";exact q
theorem jI (T:Tx K mg a):FnOk P w K mg base CX0 2 a.eQ a.oX ["_law_cell_here","_law_k"] wC:=by
 refine T.dY.1.okA dG fun θ A outer s H vs Q E O h=>?_;obtain⟨c,k,rfl,ι,h1,q⟩:=h;have hk:decide (k < 40)=true:=decide_eq_true h1
 refine⟨_,((af (aA (i:=2) dG.nd rfl (by walk_at "o") bq)
  (af (aA (i:=3) dG.nd rfl (by walk_at "o") bq)
  (af (aA (i:=3) dG.nd rfl (by walk_at "o") (au mX (pv 3) bq))
  (af (cG (PW.pt (BH (aI Da (pv 1) ag (aQ _)) (xx (aI fK (au cq (aj (cA T) O T.bF T.bj (aa (pv 0) (aa ag ae))) ag) ag (aQ _))))) (ai (aB (aD (aL (K:=K) rfl) (d2 (K:=K) rfl PySem.F.plainAttrs_str PySem.F.slot_str_split PySem.F.type_str_split tI (pv 3) (aa bq ae)) (au cq (au bY (pv 1) (aj (cA T) O T.bF T.bj (aa (pv 0) (aa ag ae)))) ag) (λ_ _=>rfl)))) aV)
  (ai (aB (au mX (aD GJ (pv 2) (au cq (aj (cA T) O T.bF T.bj (aa (pv 0) (aa ag ae))) ag) (λ_ _=>rfl)) (bw rP (by rfl) T.Mh PyProof.Rows.boot_str (aa (au bY (au cq (aj (cA T) O T.bF T.bj (aa (pv 0) (aa ag ae))) ag) (au mw ag (pv 1))) ae)))))))))),ar (σ':=[some _,some _,none,none]) rfl ?_⟩
 walk_at "l2";refine⟨by decide +kernel,?_⟩;walk_at "l2";generalize hw:((_:Str)++_)=words;have hw:words=EW:=hw.symm;by_cases h2:mixV c 402 % 2=0
 ·refine kK (decide_eq_true (by rw[h2])) ?_;walk_at "l2";refine Ar (by decide +kernel) (by rw[hw];decide +kernel) λD H2 ν β Z=>?_;have hm:=Int.emod_lt_of_pos (k + mixV c 403) (show(0:Int) < 40 by decide);have L:=Int.emod_nonneg (k + mixV c 403) (show(40:Int)≠0 by decide);rw[hw] at Z
  have η:atI (W40.map V.str) ((k + mixV c 403) % 40)=some (.str (nmf c k)):=by
   obtain⟨j,ζ⟩:=Int.eq_ofNat_of_zero_le L;have γ:j < W40.length:=by rw[yv];omega
   unfold nmf;rw[if_pos h2,ζ];refine fI ?_;rw[getElem?_map,getD_eq_getElem?_getD,Int.toNat_natCast,getElem?_eq_getElem γ];rfl
  have Z:H2 D=some (.lst (W40.map V.str)):=Z;walk_at "l2";exact q H2 β
 ·refine ie (decide_eq_false λz=>h2 (V.int.inj z)) ?_;have hm:=Int.emod_lt_of_pos (mixV c 400) (show(0:Int) < 26 by decide);have L:=Int.emod_nonneg (mixV c 400) (show(26:Int)≠0 by decide);have δ:=Int.emod_lt_of_pos (mixV c 401) (show(0:Int) < 1000 by decide);have ε:=Int.emod_nonneg (mixV c 401) (show(1000:Int)≠0 by decide);walk_at "l2";refine LK (by decide +kernel) (wL _ L hm) ?_;walk_at "l2";have hn:(mixV c 401 % 1000 + 37 * k).natAbs < 10 ^ 4:=by omega
  have G:(mixV c 401 % 1000 + 37 * k).natAbs.log2 < 1920:=by
   rcases Nat.eq_zero_or_pos (mixV c 401 % 1000 + 37 * k).natAbs with z | z
   ·rw[z];decide
   ·exact(log2_lt (by omega)).mpr (lt_of_lt_of_le hn (le_trans (by decide:10 ^ 4<=2 ^ 14) (pow_le_pow_right (by decide) (by decide))))
  have α:=PyProof.Rows.int_text_len_1921 G;refine⟨G,?_⟩;walk_at "l2";refine⟨by rw[sizeLine_eq];have:(⟨#[97 + (mixV c 400 % 26).toNat]⟩:Str).length=1:=rfl;omega,?_⟩;have e:(mixV c 401 % 1000 + 37 * k)=(((mixV c 401 % 1000).toNat + 37 * k.toNat:Nat):Int):=by omega
  have Y:=q H (Same.refl _);unfold nmf at Y;rw[if_neg h2] at Y;rw[e];exact Y
end
end
local macro_rules | `(tactic| walk_at "l2step") =>`(tactic| first | ((with_reducible refine' rA ?e ?a ?_);(case e=>walk_at "l2hp");(case a=>walk_at "l2side")) | ((with_reducible refine' Pr ?a ?b ?_);(case a=>walk_at "l2side");(case b=>walk_at "l2side");(with_reducible intro _ _)))
section
variable {P:Program} {w:World} {K:PySem.W.Frag} {mg:Str->Option Value} {base:Heap} {a:Ad}
theorem Jz (vs:List V) (H:Hp) (Q:VK) (E:XK) (h:Kj vs H Q E):Ah vs H Q E:=by
 obtain⟨c,k,rfl,L,h1,q⟩:=h;refine⟨c,k,rfl,L,h1,?_⟩;have G:=Ml c k;have n1:=Mm c k;have:=q (mixV c k).toNat (by omega);unfold nat at this;rwa [Int.toNat_of_nonneg G] at this
theorem xI (T:Tx K mg a):FnOk P w K mg base CX0 2 a.eR a.rN ["_law_cell_here","_law_start","_law_many","_law_width","_law_digits"] Fq:=by
 have ρ:=(cA (P:=P) (w:=w) (base:=base) T).imp Jz;refine T.jQ.1.okA gq fun υ A outer s H vs Q E ν h=>?_;obtain⟨c,st,n,wd,dg,rfl,θ,hn,hw,q⟩:=h;have ο:n * wd<=1024:=le_trans (mul_le_mul hn hw) (by decide);have L:(1:Int) * 2 ^ ((wd:Int).toNat)=((2 ^ wd:Nat):Int):=shl1 wd;have ξ:=two_pow_pos wd;have ε:2 ^ wd<=2 ^ 16:=pow_le_pow_right (by decide) hw;have ζ:(n:Int) * (wd:Int) + 1=((n * wd + 1:Nat):Int):=by push_cast;rfl
 have G:(1:Int) * 2 ^ (((n * wd + 1:Nat):Int).toNat)=((2 ^ (n * wd + 1):Nat):Int):=shl1 _;have β:=two_pow_pos (n * wd + 1)
 refine⟨_,((af (aA (i:=5) gq.nd rfl (by walk_at "o") (cw ae))
  (af (aA (i:=6) gq.nd rfl (by walk_at "o") (au uq (au cq (pv 0) (au jH ag (au bY (au mw (pv 2) (pv 3)) ag))) ag))
  (af (dz PassesOwn.never rfl (cV (by rfl) T.gC (aa (pv 2) ae)) (aw (i:=7) gq.nd rfl (by walk_at "o")) (ai (cG (eu (pv 4)) (af (be (d2 (K:=K) rfl PySem.F.plainAttrs_list PySem.F.slot_list_append PySem.F.type_list_append cW (pv 5) (aa (au cq (pv 6) (au jH ag (pv 3))) ae)))
  (ai (aA (i:=6) gq.nd rfl (by walk_at "o") (au uq (pv 6) (au jH ag (pv 3)))))) (ai (be (d2 (K:=K) rfl PySem.F.plainAttrs_list PySem.F.slot_list_append PySem.F.type_list_append cW (pv 5) (aa (au cq (aj ρ ν T.bF T.bj (aa (pv 0) (aa (au bY (pv 1) (pv 7)) ae))) (au jH ag (pv 3))) ae)))))))
  (ai (aB (pv 5))))))),ar (σ':=[some _,some _,some _,some _,some _,none,none,none]) rfl ?_⟩
 walk_at "l2";intro D H1 δ η τ;walk_at "l2";rw[ζ];walk_at "l2";rw[G];walk_at "l2";refine km (λi σ H'=>∃(l:Int) (v:Option V) (ms:List Nat),σ=[some (.int c),some (nat st),some (nat n),some (nat wd),some (.bl dg),some (.ref D),some (.int l),v]/\Same H H'/\H' D=some (.lst (ms.map nat))/\ms.length=i/\∀x∈ms,x < 2 ^ wd) ⟨_,none,[],rfl,η,τ,rfl,λ_ h=>absurd h (by simp)⟩ ?_ ?_
 ·rintro i σ H' hi ⟨l,v,ms,rfl,Y,Z,el,hb⟩;have π:i < n:=by omega
  clear G β ζ;cases dg with
  | true=>
    walk_at "l2";rw[L];obtain⟨k,hk,γ⟩:=fo (c:=l) (m:=((2 ^ wd:Nat):Int)) (by omega);walk_at "l2";rw[hk];refine fg Z (by rw[length_map,sizeLine_eq];omega) fun φ O=>?_;walk_at "l2";rw[L];walk_at "l2";refine⟨_,_,ms++[k],rfl,λb o e=>O.oth _ _ (ao e δ) (Y.get e),?_,by rw[length_append,el];rfl,λx α=>?_⟩
    ·rw[O.at',map_append];rfl
    ·rcases mem_append.mp α with h | h
     ·exact hb x h
     ·rw[mem_singleton.mp h];omega
  | false=>
    walk_at "l2";rename_i r ι;rw[L];obtain⟨k,hk,γ⟩:=fo (c:=(r:Int)) (m:=((2 ^ wd:Nat):Int)) (by omega);walk_at "l2";rw[hk];refine fg Z (by rw[length_map,sizeLine_eq];omega) fun φ O=>?_;walk_at "l2";refine⟨_,_,ms++[k],rfl,λb o e=>O.oth _ _ (ao e δ) (Y.get e),?_,by rw[length_append,el];rfl,λx α=>?_⟩
    ·rw[O.at',map_append];rfl
    ·rcases mem_append.mp α with h | h
     ·exact hb x h
     ·rw[mem_singleton.mp h];omega
 ·rintro σ H' ⟨l,v,ms,rfl,Y,Z,el,hb⟩;walk_at "l2";exact q D H' ms δ Y Z (by omega) hb
theorem rE (T:Tx K mg a):FnOk P w K mg base CX0 3 a.fW a.vn ["_law_cell_here","_law_many","_law_width"] Fo:=by
 refine T.jB.1.okA yE λL A outer s H vs Q E G h=>?_;obtain⟨c,n,wd,rfl,hn,hw,q⟩:=h;refine⟨_,((ai (aB (aj (xI T) G T.zj T.jQ (aa (pv 0) (aa ag (aa (pv 1) (aa (pv 2) (aa (fF fK (au cq (pv 0) ag) ag (aQ _)) ae))))))))),ar (σ':=[some _,some _,some _]) rfl ?_⟩;walk_at "l2";exact⟨c,500,n,wd,_,rfl,by decide,hn,hw,q⟩
theorem kU (T:Tx K mg a):FnOk P w K mg base CX0 1 a.gY a.wW ["_law_number"] IP:=by
 refine T.g7.1.okA kI fun β A outer s H vs Q E γ h=>?_;obtain⟨n,rfl,hn,q⟩:=h
 refine⟨_,((af (aA (i:=1) kI.nd rfl (by walk_at "o") ag)
  (af (pf PassesOwn.never (aI oH (pv 0) ag (aQ _)) (af (aA (i:=1) kI.nd rfl (by walk_at "o") (au bY (pv 1) (au cq (pv 0) ag)))
  (ai (aA (i:=0) kI.nd rfl (by walk_at "o") (au uq (pv 0) ag)))))
  (ai (aB (au cq (pv 1) ag)))))),ar (σ':=[some _,none]) rfl ?_⟩
 walk_at "l2";refine⟨fun μ σ' H'=>∃c:Nat,σ'=[some (nat μ),some (nat c)]/\H'=H/\μ < 2 ^ 1000/\(decide (c % 2=1)^^M.od μ)=M.od n,⟨n,0,rfl,rfl,hn,by simp⟩,?_⟩;rintro μ σ' H' ⟨c,rfl,rfl,L,ho⟩;walk_at "l2";by_cases δ:0 < μ
 ·refine kK (decide_eq_true (by omega)) ?_;refine⟨λG H2=>∃c:Nat,G=[some (nat (μ / 2)),some (nat c)]/\H2=H'/\(decide (c % 2=1)^^M.od (μ / 2))=M.od n,λG H2 ⟨c,O,Z,Y⟩=>⟨μ / 2,by omega,c,O,Z,by omega,Y⟩,?_⟩;walk_at "l2";rw[show Int.natAbs 2=2 from rfl];rw[<-ho,Mc L,Nat.testBit_zero];rcases mod_two_eq_zero_or_one μ with h | h<;>rcases mod_two_eq_zero_or_one c with h' | h'
  ·rw[show(c + μ % 2) % 2=0 by omega,h,h'];cases M.od (μ / 2)<;>rfl
  ·rw[show(c + μ % 2) % 2=1 by omega,h,h'];cases M.od (μ / 2)<;>rfl
  ·rw[show(c + μ % 2) % 2=1 by omega,h,h'];cases M.od (μ / 2)<;>rfl
  ·rw[show(c + μ % 2) % 2=0 by omega,h,h'];cases M.od (μ / 2)<;>rfl
 ·have α:μ=0:=by omega
  subst α;walk_at "l2";rw[M.od_zero,Bool.xor_false] at ho
  have O:(c:Int) % 2=((M.bn (M.od n):Nat):Int):=by
   rw[<-ho];unfold M.bn;rcases mod_two_eq_zero_or_one c with h | h
   ·rw[h];simp;omega
   ·rw[h];simp;omega
  rw[O];exact q
end
section
variable {P:Program} {w:World} {K:PySem.W.Frag} {mg:Str->Option Value} {base:Heap} {a:Ad}
local macro_rules | `(tactic| walk_at "l2step") =>`(tactic| first | ((with_reducible refine' eU ?e ?_);(case e=>walk_at "l2kind")) | ((with_reducible refine' h7 ?e ?_);(case e=>walk_at "l2kind")) | (with_reducible refine cU ?_) | (with_reducible refine fB ?_))
theorem c7 (T:Tx K mg a):FnOk P w K mg base CX0 6 a.dS a.pX ["_law_net_one","_law_rows_here"] (CC (NAof a)):=by
 refine T.ck.1.okA g9 λa4 A outer s H vs Q E ι h=>?_;obtain⟨n,r,N,od,rs,rfl,na,π,a0,hb,q⟩:=h
 refine⟨_,((af (aA (i:=2) g9.nd rfl (by walk_at "o") (j5 T.QF (uu T) (ι.mono (by decide)) (by rfl) T.Qx T.hV.2 .nil bO (aa (pv 0) ae)))
  (af (aA (i:=3) g9.nd rfl (by walk_at "o") (cw (aa (bf (pv 2) T.lX T.uF (rF T) (ι.mono (by decide)) T.g8.2 .nil bO) ae)))
  (af (dz PassesOwn.never rfl (aU (K:=K) rfl (pv 1)) (aw (i:=4) g9.nd rfl (by walk_at "o")) (af (be (eh (pv 2) T.lX T.DC (AF T) (ι.mono (by decide)) T.kB.2 .nil bO (aa (pv 4) ae)))
  (ai (be (d2 (K:=K) rfl PySem.F.plainAttrs_list PySem.F.slot_list_append PySem.F.type_list_append cW (pv 3) (aa (bf (pv 2) T.lX T.uF (rF T) (ι.mono (by decide)) T.g8.2 .nil bO) ae))))))
  (ai (aB (pv 3))))))),ar (σ':=[some _,some _,none,none,none]) rfl ?_⟩
 walk_at "l2";intro x dx H1 χ ξ e1;refine⟨x,dx,n,N,od,rfl,e1,na.same ξ,λH2 l k2 fl α=>⟨rfl,?_⟩⟩;have Z:Same H H2:=λb ob e=>k2 _ _ (ao e χ) (ξ.get e);have ρ:H l=none:=ξ.free fl;obtain⟨υ,d',G⟩:=α.ho;walk_at "l2";refine aC G rfl ?_;walk_at "l2";refine⟨x,l,n,N,od,_,_,rfl,α,?_⟩;walk_at "l2";intro D H3 ζ θ e3;have γ:D≠l:=λz=>by rw[z,α.hl] at ζ;cases ζ
 have β:D≠x:=λz=>by rw[z,G] at ζ;cases ζ
 have ε:H D=none:=Z.free ζ;have ο:RunA (NAof a) H3 a.fH x l n N od 0 []:=⟨⟨_,_,θ.get G⟩,θ.get α.hl,α.na.same θ⟩;walk_at "l2";refine gF (xs:=rs.map nat) (λi σ H'=>∃v,σ=[some (.ref n),some (.ref r),some (.ref x),some (.ref D),v]/\Same H H'/\RunA (NAof a) H' a.fH x l n N od (rst N 0 (rs.take i)) (ran N 0 (rs.take i))/\H' D=some (.lst (((List.range (i + 1)).map λk=>rst N 0 (rs.take k)).map nat))) ⟨none,rfl,Z.trans θ,ο,e3⟩ (λi σ H' _ ⟨_,_,s',_⟩=>SqL.of (s'.get π)) ?_ ?_
 ·rintro i y σ H' hy ⟨v,rfl,s',O,ν⟩;obtain⟨z,hz,rfl⟩:=aF hy;have a3:=(List.getElem?_eq_some_iff.mp hz).1;obtain⟨υ,d',G⟩:=O.ho;walk_at "l2";refine aC G rfl ?_;walk_at "l2";refine⟨x,l,n,N,od,_,z,_,rfl,O,hb z (mem_of_getElem? hz),by rw[FQ,length_take];omega,λH4 φ L=>?_⟩;have η:=φ D _ β γ ν;have ψ:Same H H4:=λb ob e=>φ _ _ (ao e χ) (ao e ρ) (s'.get e);obtain⟨τ,d4,δ⟩:=L.ho;walk_at "l2";refine aC δ rfl ?_;walk_at "l2";refine⟨x,l,n,N,od,_,_,rfl,L,?_⟩;walk_at "l2";refine fg η (by rw[length_map,length_map,length_range];exact aE (by omega)) λH5 Y=>?_;rw[take_succ hz,xt,BG];refine⟨_,rfl,Y.same ε ψ,⟨⟨τ,d4,Y.oth _ _ (Ne.symm β) δ⟩,Y.oth _ _ (Ne.symm γ) L.hl,L.na.updL η λb ob ω e=>Y.oth b ob ω e⟩,?_⟩;rw[Y.at'];refine congrArg (λl=>some (HO.lst l)) ?_;rw[range_succ (n:=i + 1),map_append,map_append];show _++_=_++[nat (rst N 0 (rs.take (i + 1)))];rw[take_succ hz,xt]
 ·rintro σ H' ⟨v,rfl,s',O,ν⟩;rw[length_map] at ν;walk_at "l2";exact q D H' ε s' ν
theorem pD (T:Tx K mg a):FnOk P w K mg base CX0 8 a.b5 a.ko ["_law_net_one","_law_state","_law_states_here"] (CF (NAof a)):=by
 refine T.fw.1.okA gu λe1 A outer s H vs Q E α h=>?_;obtain⟨n,D,N,od,rs,st,rfl,na,eD,c5,hb,hs,q⟩:=h;have a5:=BY α;have d4:=qx α;have g:=na.g;have tp:=na.tp;have hh:=ya g tp
 refine⟨_,((af (aA (i:=3) gu.nd rfl (by walk_at "o") (xC (wI T) (α.mono (by decide)) (by rfl) T.zg T.jA.1.2 T.jA.2 .nil thr0 (aa (aj (oI T) α T.rm T.iR (aa (pv 0) ae)) (aa (pv 1) ae))))
  (af (cG (aI fK (aD (av (K:=K) rfl) (pv 3) ag (λ_ _=>rfl)) bq (aQ _)) (ai (aB (nT (fF fK (aD (aL (K:=K) rfl) (aj (c7 T) α T.dM T.ck (aa (pv 0) (aa (aD (av (K:=K) rfl) (pv 3) ag (λ_ _=>rfl)) ae))) (vI nR ag) (λ_ _=>rfl)) (pv 1) (aQ _)) (pj (fF fK (aD (aL (K:=K) rfl) (aj (c7 T) α T.dM T.ck (aa (pv 0) (aa (au i5 (cw (aa ag ae)) (aD (av (K:=K) rfl) (pv 3) ag (λ_ _=>rfl))) ae))) (vI nR ag) (λ_ _=>rfl)) (pv 1) (aQ _)))))) aV)
  (af (cG (PW.pt (qy (aI fK (aj (kU T) α T.m9 T.g7 (aa (au ly (aD (aL (K:=K) rfl) (aD (av (K:=K) rfl) (pv 3) ag (λ_ _=>rfl)) ag (λ_ _=>rfl)) (pv 1)) ae)) ag (aQ _)) (pe (aI (Ga (K:=K) rfl) (pv 1) (pv 2) (by rfl))))) (ai (aB pA)) aV)
  (af (dz PassesOwn.never rfl (aU (K:=K) rfl (aD (av (K:=K) rfl) (pv 3) ag (λ_ _=>rfl))) (aw (i:=4) gu.nd rfl (by walk_at "o")) (ai (cG (aI (Ma (K:=K) rfl a5) (cy (osc:=ah fh) (ON:=["_law_net_one","_law_state","_law_states_here","_law_found","_law_mask"]) (N:=["_law_one","_law_mask"]) (n:=1) (fx:=[4]) rfl rfl rfl (by decide +kernel) (aU (K:=K) rfl (pv 2)) (aS (by decide)) (λ_ _ _ _ _=>⟨(aw (i:=0) (show List.Nodup (["_law_one","_law_mask"]:List Str) from by decide +kernel) rfl (by walk_at "o")),(iZ (aI fK (aj (kU T) α T.m9 T.g7 (aa (au ly (pv 1) (pv 0)) ae)) ag (aQ _))),(pv 0)⟩)) (cw ae) (aQ _)) (ai (aB pA)) aV)))
  (ai (aB pA))))))),ar (σ':=[some _,some _,some _,none,none]) rfl ?_⟩
 walk_at "l2";refine⟨n,N,od,rfl,na,λxm H1 nx os f1 s1 ma τ en eo=>?_⟩;have a3:nx.length=N.sts.length:=by have:=congrArg List.length en;rw[eG,length_map,length_map] at this;exact this
 have O:∀rs st,rst N st rs=M.wst (prs nx) st rs:=λrs st=>by rw[en];exact BD g tp hh rs st
 have d1:=g.lt;rw[<-a3] at hs;have ψ:∀{y:Nat} {X:Prop},y < 2 ^ nx.length->jc (nat y) nx.length=false->X:=λ{y X} h1 h=>by rw[cX h1] at h;cases h
 walk_at "l2";refine⟨xm,N.ins.length,nx,os,nat st,rfl,ma,τ,by omega,⟨"int",rfl⟩,λc4 ε _ f H2 s2 cm=>?_,λc3=>ψ hs c3⟩;have ε:=gQ ε;subst ε;have G:=s1.trans s2;have ν:=na.same G;have π:=G.get eD;rcases cm with ⟨Dc,β,Z,mk,h,_⟩ | ⟨Dc,Sc,mk,ι,Z,h,_⟩
 ·have ef:=h.f;have υ:=h.d
  have hw:M.wst (prs nx) 0 (M.upk N.ins.length Z β)=st:=by
   have e:=M.rch_walk (prs nx) N.ins.length (M.upk N.ins.length Z β) (M.upk_lt _ _ _);have L:=h.sd.lt;rw[M.rch_len] at L;rw[M.upk_len,M.pkw_upk _ _ _ L,h.sd.sm] at e;exact e
  have a4:M.wst (prs nx) 0 (0::M.upk N.ins.length Z β)=st:=by
   show M.wst (prs nx) (M.tr2 (prs nx) 0 0) _=st;rw[M.tr2_zero];exact hw
  have hT:=h.hT;have a0:=M.upk_len N.ins.length Z β;walk_at "l2";refine⟨n,Dc,N,od,_,rfl,ν,υ,by omega,M.upk_lt _ _ _,λD3 H3 f3 Y e3=>?_⟩;have l3:=tU N (M.upk N.ins.length Z β);rw[O,hw] at l3;have b3:=Y.get ef;have c1:=Y.get υ;walk_at "l2";refine kK (decide_eq_true rfl) ?_;walk_at "l2";intro L4 H4 f4 χ e4;have e0:=χ.get b3;have c0:=χ.get c1;walk_at "l2";refine oy e4 c0 (by rw[length_map,a0];exact le_of_lt (aE (by show 1 + β<=1000;omega))) λL5 H5 f5 η ζ=>?_;have ζ:H5 L5=some (.lst ((0::M.upk N.ins.length Z β).map nat)):=ζ;have θ:=(Y.trans χ).trans η;walk_at "l2";refine⟨n,L5,N,od,_,rfl,ν.same θ,ζ,by rw[length_cons];omega,λx γ=>?_,λD6 H6 f6 ρ e6=>?_⟩
  ·rcases mem_cons.mp γ with e | e
   ·rw[e];exact two_pow_pos _
   ·exact M.upk_lt _ _ _ x e
  have l6:=tU N (0::M.upk N.ins.length Z β);rw[O,a4] at l6;walk_at "l2";rw[decide_eq_true rfl];exact q _ (G.trans (θ.trans ρ))
 ·have ef:=h.f;have hp:=h.mk0;have υ:=h.ct.d;have ln:=τ.ln;have a6:=λj=>M.bk_quiet h.ct.fs (h.signs τ) j
  have ev:∀j k,M.od (M.bkI (nA nx) mk j&&&rst N 0 (rs.take k))=false:=λj k=>by
   rw[O];refine M.quiet_walk (ps:=prs nx) (by rw[eG];omega) _ _ λt=>?_;rw[L0,LZ,Hz];exact a6 _
  have ω:=h.bd.odd
  have b0:(M.bl (nA nx) mk nx.length).take ι=mk::((M.bl (nA nx) mk nx.length).take ι).tail:=by
   unfold M.bl;rw[List.range_succ_eq_map,map_cons];cases ι with
   | zero=>exact absurd hp (lt_irrefl _)
   | succ p=>rfl
  have a7:∀x∈(M.bl (nA nx) mk nx.length).take ι,∃j,x=M.bkI (nA nx) mk j:=λx γ=>by
   have:=mem_of_mem_take γ;unfold M.bl at this;obtain⟨j,_,rfl⟩:=mem_map.mp this;exact⟨j,rfl⟩
  generalize (M.bl (nA nx) mk nx.length).take ι=ms at *
  have g0:atI (ms.map nat) 0=some (nat mk):=fI (xs:=ms.map nat) (j:=0) (v:=nat mk) (by rw[b0];rfl);have δ:st < 2 ^ 1000:=lt_of_lt_of_le hs (pow_le_pow_right (by decide) (by omega))
  have ξ:st∉sts N rs:=λa8=>by
   obtain⟨k,e⟩:=E7 a8;exact h.walk τ (e.trans (O _ _))
  walk_at "l2";rw[dE];refine⟨mk&&&st,rfl,lt_of_le_of_lt and_le_right δ,?_⟩;rw[ω];walk_at "l2";refine⟨D,_,rfl,.inl (SqL.of π),rfl,by rw[all_eq_true];intro x γ;obtain⟨y,_,rfl⟩:=mem_map.mp γ;rfl,?_⟩;refine⟨_,rfl,?_⟩
  have ο:(if false=true then !inV (nat st) ((sts N rs).map nat) else inV (nat st) ((sts N rs).map nat))=false:=by
   rw[<-Bool.not_eq_true];exactλh=>ξ (GN h)
  rw[if_neg (by rw[ο];decide)];clear ο;walk_at "l2";refine gF (xs:=ms.map nat) (λi σ H'=>∃φ,σ=[some (.ref n),some (nat st),some (.ref D),some (.ref f),φ]/\Same H2 H') ⟨none,rfl,Same.refl _⟩ (λi σ H' _ ⟨_,_,s'⟩=>SqL.of (s'.get υ)) ?_ ?_
  ·rintro i v σ H3 hv ⟨φ,rfl,Y⟩;obtain⟨x,γ,rfl⟩:=aF hv;obtain⟨j,rfl⟩:=a7 x (mem_of_getElem? γ);have c2:=Y.get π;walk_at "l2";intro E4 f4;refine aX (xs:=(sts N rs).map nat) (λk ys H'=>ys=[]/\Same H3 H'/\H' E4=some (.lst [])) ⟨rfl,bh f4,ay⟩ (λk ys H' _ ⟨_,s',_⟩=>SqL.of (s'.get c2)) (λk v ys H' hv c=>?_) (λys H' c=>?_)
   ·obtain⟨y,hy,rfl⟩:=aF hv;obtain⟨kk,rfl⟩:=E7 (mem_of_getElem? hy);obtain⟨rfl,η,ζ⟩:=c;walk_at "l2";rw[dE];have L:rst N 0 (rs.take kk) < 2 ^ 1000:=lt_of_lt_of_le (BE N _ 0 (two_pow_pos _)) (pow_le_pow_right (by decide) (by omega));refine⟨_,rfl,lt_of_le_of_lt and_le_right L,?_⟩;rw[ev];walk_at "l2";exact⟨η,ζ⟩
   ·obtain⟨rfl,η,ζ⟩:=c;walk_at "l2";intro L6 H6 f6 ρ e6;refine LQ (l:=[]) (SqL.of (ρ.get ζ)) (SqL.of e6) ?_;walk_at "l2";exact Y.trans (η.trans ρ)
  ·rintro σ H3 ⟨φ,rfl,Y⟩;walk_at "l2";exact q _ (G.trans Y)
theorem mx (T:Tx K mg a):FnOk P w K mg base CX0 8 a.bD a.iB ["_law_net_one","_law_rows_here","_law_wish","_law_turns","_law_cell_here"] (Fs (NAof a)):=by
 refine T.dn.1.okA cn λd4 A outer s H vs Q E G h=>?_;obtain⟨n,r,N,od,rs,y,t,c,rfl,na,er,b0,hb,hy,ht,q⟩:=h;have c1:=BY G;have c0:=qx G;have g:=na.g;have tp:=na.tp;have hh:=ya g tp
 refine⟨_,((af (aA (i:=5) cn.nd rfl (by walk_at "o") (aD (aL (K:=K) rfl) (aj (c7 T) G T.dM T.ck (aa (pv 0) (aa (pv 1) ae))) (vI nR ag) (λ_ _=>rfl)))
  (af (aA (i:=6) cn.nd rfl (by walk_at "o") (xC (Dh T) (G.mono (by decide)) (by rfl) T.GY T.mO.1.2 T.mO.2 .nil thr0 (aa (aj (oI T) G T.rm T.iR (aa (pv 0) ae)) (aa (pv 5) (aa (pv 2) (aa (pv 3) ae))))))
  (af (cG (aI fK (aD (av (K:=K) rfl) (pv 6) ag (λ_ _=>rfl)) bq (aQ _)) (ai (aB (nT (fF fK (aH (aP (K:=K) rfl) (by rfl) T.fG PySem.boot_len (aa (aD (av (K:=K) rfl) (pv 6) ag (λ_ _=>rfl)) ae)) (pv 3) (aQ _)) (pj (fF fK (aD (aL (K:=K) rfl) (aj (c7 T) G T.dM T.ck (aa (pv 0) (aa (au i5 (pv 1) (aD (av (K:=K) rfl) (pv 6) ag (λ_ _=>rfl))) ae))) (vI nR ag) (λ_ _=>rfl)) (pv 2) (aQ _)))))) aV)
  (af (aA (i:=7) cn.nd rfl (by walk_at "o") (aD (aL (K:=K) rfl) (aj (c7 T) G T.dM T.ck (aa (pv 0) (aa (au i5 (pv 1) (au Kw (cw (aa ag ae)) (pv 3))) ae))) (vI nR ag) (λ_ _=>rfl)))
  (af (aA (i:=8) cn.nd rfl (by walk_at "o") (aD (aL (K:=K) rfl) (aj (c7 T) G T.dM T.ck (aa (pv 0) (aa (au i5 (pv 1) (aj (rE T) G T.vf T.jB (aa (pv 4) (aa (pv 3) (aa (aH (aP (K:=K) rfl) (by rfl) T.fG PySem.boot_len (aa (bf (pv 0) T.bX T.dc (cN T) (G.mono (by decide)) T.bH.2 .nil bO) ae)) ae))))) ae))) (vI nR ag) (λ_ _=>rfl)))
  (ai (aB (nT (fF fK (aj (kU T) G T.m9 T.g7 (aa (au ly (aD (av (K:=K) rfl) (pv 6) ag (λ_ _=>rfl)) (au i0 (pv 7) (pv 2))) ae)) ag (aQ _)) (pj (fF fK (aj (kU T) G T.m9 T.g7 (aa (au ly (aD (av (K:=K) rfl) (pv 6) ag (λ_ _=>rfl)) (au i0 (pv 7) (pv 8))) ae)) ag (aQ _)))))))))))),ar (σ':=[some _,some _,some _,some _,some _,none,none,none,none]) rfl ?_⟩
 walk_at "l2";refine⟨n,r,N,od,rs,rfl,na,er,by omega,hb,λD1 H1 f1 s1 e1=>?_⟩;have l1:=tU N rs;have a5:=na.same s1;walk_at "l2";refine⟨n,N,od,rfl,a5,λxm H2 nx os f2 s2 ma gm en eo=>?_⟩;have φ:nx.length=N.sts.length:=by have:=congrArg List.length en;rw[eG,length_map,length_map] at this;exact this
 have a3:∀rs st,rst N st rs=M.wst (prs nx) st rs:=λrs st=>by rw[en];exact BD g tp hh rs st
 have b3:=g.lt;have ha:rst N 0 rs < 2 ^ nx.length:=by rw[φ];exact BE N rs 0 (two_pow_pos _)
 rw[<-φ] at hy;have τ:∀{y:Nat} {X:Prop},y < 2 ^ nx.length->jc (nat y) nx.length=false->X:=λ{y X} h1 h=>by rw[cX h1] at h;cases h
 walk_at "l2";refine⟨xm,N.ins.length,nx,os,nat (rst N 0 rs),nat y,nat t,rfl,ma,gm,by omega,⟨"int",rfl⟩,⟨"int",rfl⟩,⟨"int",rfl⟩,λx1 y1 t1 η ζ θ _ _ _ f H3 s3 _ br=>?_,fun γ=>γ.elim (τ ha) (τ hy),λ_ _ γ=>?_⟩
 rotate_left
 ·rw[show idxB (nat t) 41=true by show(decide ((0:Int)<=(t:Int))&&decide ((t:Int) < ((41:Nat):Int)))=true;rw[decide_eq_true (by omega),decide_eq_true (by omega)];rfl] at γ;cases γ
 have η:=gQ η;have ζ:=gQ ζ;have θ:=gQ θ;subst η;subst ζ;subst θ;have Y:=(s1.trans s2).trans s3;have Z:=na.same Y;have β:=Y.get er
 have ι:∀qs:List Nat,rst N 0 (rs++qs)=M.zs (prs nx) (rst N 0 rs) qs.length^^^M.wst (prs nx) 0 qs:=λqs=>by
  rw[a3,M.wst_app,<-a3 rs,M.wst_split]
 rcases br with ⟨Dr,qq,ef,ed,sd⟩ | ⟨mk,ef,bd⟩
 ·have hw:rst N 0 (rs++M.upk N.ins.length qq t)=y:=by
   have e:=M.rch_walk (prs nx) N.ins.length (M.upk N.ins.length qq t) (M.upk_lt _ _ _);have a0:=sd.lt;rw[M.rch_len] at a0;rw[M.upk_len,M.pkw_upk _ _ _ a0,sd.sm] at e;rw[ι,M.upk_len,e,xor_comm y,<-xor_assoc,xor_self,zero_xor]
  have δ:=M.upk_len N.ins.length qq t;walk_at "l2";rw[length_map,δ];refine kK (decide_eq_true rfl) ?_;walk_at "l2";refine oy β ed (by rw[length_map,length_map,δ];exact le_of_lt (aE (by omega))) λL4 H4 f4 ν e4=>?_;rw[<-map_append] at e4;walk_at "l2";refine⟨n,L4,N,od,_,rfl,Z.same ν,e4,by rw[length_append,δ];omega,λx χ=>?_,λD5 H5 f5 s5 e5=>?_⟩
  ·rcases mem_append.mp χ with h | h
   ·exact hb x h
   ·exact M.upk_lt _ _ _ x h
  have l5:=tU N (rs++M.upk N.ins.length qq t);rw[hw] at l5;walk_at "l2";rw[decide_eq_true rfl];exact q _ (Y.trans (ν.trans s5))
 ·walk_at "l2";intro L4 H4 f4 ν e4;have a8:=ν.get β;have c5:=ν.get ef;walk_at "l2";refine NL e4 (by omega) (by omega) (by rw[sizeLine_eq,Int.toNat_natCast];simp;omega) λL5 H5 f5 s5 e5=>?_;have e5:H5 L5=some (.lst ((List.replicate t 0).map nat)):=by rw[e5];simp
  have a4:=ν.trans s5;refine oy (s5.get a8) e5 (by rw[length_map,length_map,length_replicate];exact le_of_lt (aE (by omega))) λL6 H6 f6 s6 e6=>?_;rw[<-map_append] at e6;have ρ:=a4.trans s6;walk_at "l2";refine⟨n,L6,N,od,_,rfl,Z.same ρ,e6,by rw[length_append,length_replicate];omega,λx χ=>?_,λD7 H7 f7 s7 e7=>?_⟩
  ·rcases mem_append.mp χ with h | h
   ·exact hb x h
   ·rw[List.eq_of_mem_replicate h];exact two_pow_pos _
  have a6:M.wst (prs nx) 0 (List.replicate t 0)=0:=by rw[M.wst_zs,M.zs_zero]
  have l7:=tU N (rs++List.replicate t 0);rw[ι,length_replicate,a6,xor_zero] at l7;have O:=ρ.trans s7;have c2:=O.get β;have υ:=Z.same O;have c4:=O.get ef;obtain⟨d1,_,_,_,_,_,_,_,_,_,a7,_⟩:=υ.ho;have li:=g.li;walk_at "l2";refine aC a7 rfl ?_;walk_at "l2";refine⟨n,N,od,rfl,υ,λD8 H8 f8 s8 e8=>?_⟩;walk_at "l2";rw[length_map];refine⟨c,t,N.ins.length,rfl,by omega,by omega,λD9 H9 ms f9 s9 e9 α ω=>?_⟩;have π:=O.trans (s8.trans s9);refine oy (π.get β) e9 (by rw[length_map,length_map,α];exact le_of_lt (aE (by omega))) λLa Ha fa sa ea=>?_;rw[<-map_append] at ea;have ο:=π.trans sa;walk_at "l2";refine⟨n,La,N,od,_,rfl,Z.same ο,ea,by rw[length_append,α];omega,λx χ=>?_,λDb Hb fb sb eb=>?_⟩
  ·rcases mem_append.mp χ with h | h
   ·exact hb x h
   ·exact ω x h
  have lb:=tU N (rs++ms);rw[ι,α] at lb;have ξ:=ο.trans sb;have c3:=ξ.get ef;have ε:M.zs (prs nx) (rst N 0 rs) t < 2 ^ nx.length:=by have:=M.zs_lt (ps:=prs nx) (d:=rst N 0 rs) (by rw[eG];exact ha) t;rwa [eG] at this
  have ψ:M.wst (prs nx) 0 ms < 2 ^ nx.length:=by have:=M.wst_lt (ps:=prs nx) (rs:=ms) (x:=0) (two_pow_pos _);rwa [eG] at this
  have L:∀{x:Nat},x < 2 ^ nx.length->x < 2 ^ 1000:=λ{x} h=>lt_of_lt_of_le h (pow_le_pow_right (by decide) (by omega));have o1:M.od (mk&&&(M.zs (prs nx) (rst N 0 rs) t^^^y))=true:=by rw[xor_comm];exact bd.odd
  have o2:M.od (mk&&&(M.zs (prs nx) (rst N 0 rs) t^^^(M.zs (prs nx) (rst N 0 rs) t^^^M.wst (prs nx) 0 ms)))=false:=by
   rw[<-xor_assoc,xor_self,zero_xor,M.rch_walk (prs nx) N.ins.length ms ω,α];exact bd.ev _ (M.sm_span _ _)
  walk_at "l2";rw[cI,dE];refine⟨_,rfl,lt_of_le_of_lt and_le_right (L (M.xor_lt_pow ε hy)),?_⟩;rw[o1];walk_at "l2";rw[cI,dE];refine⟨_,rfl,lt_of_le_of_lt and_le_right (L (M.xor_lt_pow ε (M.xor_lt_pow ε ψ))),?_⟩;rw[o2];walk_at "l2";exact q _ (Y.trans ξ)
end
local macro_rules | `(tactic| walk_at "l2step") =>`(tactic| first | ((with_reducible refine' rA ?e ?a ?_);(case e=>walk_at "l2hp");(case a=>walk_at "l2side")) | ((with_reducible refine' Pr ?a ?b ?_);(case a=>walk_at "l2side");(case b=>walk_at "l2side");(with_reducible intro _ _)))
section
variable {P:Program} {w:World} {K:PySem.W.Frag} {mg:Str->Option Value} {base:Heap} {a:Ad}
local macro_rules | `(tactic| walk_at "l2step") =>`(tactic| first | ((with_reducible refine' eU ?e ?_);(case e=>walk_at "l2kind")) | ((with_reducible refine' h7 ?e ?_);(case e=>walk_at "l2kind")) | (with_reducible refine cU ?_) | (with_reducible refine fB ?_))
theorem kc (T:Tx K mg a):FnOk P w K mg base CX0 9 a.cB a.lI ["_law_net_one","_law_script","_law_start"] (CD K (NAof a)):=by
 refine T.d6.1.okA bZ λg3 A outer s H vs Q E G h=>?_;obtain⟨n,p,N,od,ns,st,rfl,na,τ,e9,q⟩:=h;have e8:=BY G;have e6:=qx G;have g:=na.g;have tp:=na.tp;have hh:=ya g tp;have li:=g.li;have lt:=g.lt;obtain⟨g0,_,_,_,_,_,_,_,_,_,ν,_⟩:=na.ho
 refine⟨_,((af (aA (i:=3) bZ.nd rfl (by walk_at "o") (aH (aP (K:=K) rfl) (by rfl) T.fG PySem.boot_len (aa (bf (pv 0) T.bX T.dc (cN T) (G.mono (by decide)) T.bH.2 .nil bO) ae)))
  (af (aA (i:=4) bZ.nd rfl (by walk_at "o") (aj (rE T) G T.vf T.jB (aa (aj (eI T) G T.fU T.df (aa (pv 1) (aa (pv 2) ae))) (aa (au cq (aj (eI T) G T.fU T.df (aa (pv 1) (aa (au bY (pv 2) ag) ae))) ag) (aa (pv 3) ae)))))
  (af (aA (i:=5) bZ.nd rfl (by walk_at "o") (aj (c7 T) G T.dM T.ck (aa (pv 0) (aa (pv 4) ae))))
  (af (aA (i:=6) bZ.nd rfl (by walk_at "o") (au cq (aj (eI T) G T.fU T.df (aa (pv 1) (aa (au bY (pv 2) ag) ae))) (au jH ag (aH (aP (K:=K) rfl) (by rfl) T.fG PySem.boot_len (aa (bf (pv 0) T.bX T.cR (cH T) (G.mono (by decide)) T.bx.2 .nil bO) ae)))))
  (af (cG (aI F7 (aD (av (K:=K) rfl) (xC (wI T) (G.mono (by decide)) (by rfl) T.zg T.jA.1.2 T.jA.2 .nil thr0 (aa (aj (oI T) G T.rm T.iR (aa (pv 0) ae)) (aa (aD (aL (K:=K) rfl) (pv 5) (vI nR ag) (λ_ _=>rfl)) ae))) ag (λ_ _=>rfl)) bq (aQ _)) (ai (aB pA)) aV)
  (af (dz PassesOwn.never rfl (aU (K:=K) rfl (cw (aa (aD (aL (K:=K) rfl) (pv 5) (vI nR ag) (λ_ _=>rfl)) (aa (pv 6) (aa (au i0 (pv 6) (aD (aL (K:=K) rfl) (pv 5) (vI nR ag) (λ_ _=>rfl))) ae))))) (aw (i:=7) bZ.nd rfl (by walk_at "o")) (ai (cG (gx (eu (aj (pD T) G T.ro T.fw (aa (pv 0) (aa (pv 7) (aa (pv 5) ae)))))) (ai (aB pA)) aV)))
  (af (aA (i:=8) bZ.nd rfl (by walk_at "o") (au cq (aj (eI T) G T.fU T.df (aa (pv 1) (aa (au bY (pv 2) ag) ae))) ag))
  (ai (aB (aj (mx T) G T.nJ T.dn (aa (pv 0) (aa (pv 4) (aa (pv 6) (aa (pv 8) (aa (aj (eI T) G T.fU T.df (aa (pv 1) (aa (au bY (pv 2) ag) ae))) ae)))))))))))))))),ar (σ':=[some _,some _,some _,none,none,none,none,none,none]) rfl ?_⟩
 walk_at "l2";refine aC ν rfl ?_;walk_at "l2";refine⟨n,N,od,rfl,na,λD1 H1 f1 s1 e1=>?_⟩;have f9:=Same.seq s1 τ;walk_at "l2";rw[length_map];obtain⟨k1,h1,l1⟩:=fo (c:=cell ns ((st:Int) + 1)) (m:=21) (by decide);rw[h1];refine⟨cell ns (st:Int),k1,N.ins.length,rfl,by omega,by omega,λD2 H2 rs f2 s2 e2 e5 hb=>?_⟩;have γ:=s1.trans s2;have a3:=na.same γ;have f8:=Same.seq γ τ;walk_at "l2";refine⟨n,D2,N,od,rs,rfl,a3,e2,by omega,hb,λD3 H3 f3 s3 e3=>?_⟩;have Z:=γ.trans s3;have a0:=na.same Z;have f6:=Same.seq Z τ;have a7:=Z.get ν;walk_at "l2";refine aC a7 rfl ?_;walk_at "l2";refine⟨n,N,od,rfl,a0,λD4 H4 qs f4 χ e4 qk c0=>?_⟩;have β:=Z.trans χ;have θ:=na.same β;have b3:=Same.seq β τ;have π:=χ.get e3;have d1:=χ.get (s3.get e2);have a4:qs.length=N.sts.length:=by rw[<-c0,length_map]
 have last:=tU N rs;have a6:(0:Int) < ((2 ^ N.sts.length:Nat):Int):=by exact_mod_cast two_pow_pos N.sts.length
 obtain⟨k2,h2,ι⟩:=fo (c:=cell ns ((st:Int) + 2)) (m:=((2 ^ N.sts.length:Nat):Int)) a6;have ι:k2 < 2 ^ N.sts.length:=by exact_mod_cast ι
 obtain⟨k3,h3,l3⟩:=fo (c:=cell ns ((st:Int) + 3)) (m:=12) (by decide);have L:=BE N rs 0 (two_pow_pos _);walk_at "l2";rw[length_map,a4];walk_at "l2";rw[shl1];walk_at "l2";rw[h2];refine⟨n,N,od,rfl,θ,λxm H5 nx os f5 s5 ma gm en eo=>?_⟩;have a5:nx.length=N.sts.length:=by have:=congrArg List.length en;rw[eG,length_map,length_map] at this;exact this
 have ξ:∀rs st,rst N st rs=M.wst (prs nx) st rs:=λrs st=>by rw[en];exact BD g tp hh rs st
 have ha:rst N 0 rs < 2 ^ nx.length:=by rw[a5];exact L
 have ζ:∀{y:Nat} {X:Prop},y < 2 ^ nx.length->jc (nat y) nx.length=false->X:=λ{y X} h1 h=>by rw[cX h1] at h;cases h
 have c3:=s5.get π;walk_at "l2";refine⟨xm,N.ins.length,nx,os,nat (rst N 0 rs),rfl,ma,gm,by omega,⟨"int",rfl⟩,λe0 δ _ f H6 s6 cm=>?_,λd4=>ζ ha d4⟩;have δ:=gQ δ;subst δ;have O:=s5.trans s6;have ω:=θ.same O;have b0:=Same.seq O b3;have c2:=O.get π;have c5:=O.get d1;rcases cm with ⟨Dc,T',qq,mk,h,_⟩ | ⟨Dc,Sc,mk,pp,qq,h,_⟩
 rotate_left
 ·exact(h.walk gm (ξ rs 0)).elim
 have ef:=h.f;clear ζ ξ ha c3;walk_at "l2";rw[cI]
 have Y:∀y∈[rst N 0 rs,k2,k2^^^rst N 0 rs],y < 2 ^ N.sts.length:=λy ρ=>by
  simp only[mem_cons,List.not_mem_nil,or_false] at ρ;rcases ρ with rfl | rfl | rfl
  ·exact L
  ·exact ι
  ·exact M.xor_lt_pow ι L
 intro D7 H7 f7 ε ο;have ο:H7 D7=some (.lst (([rst N 0 rs,k2,k2^^^rst N 0 rs]:List Nat).map nat)):=ο;generalize [rst N 0 rs,k2,k2^^^rst N 0 rs]=ones at ο Y;have η:=ω.same ε;have a8:=Same.seq ε b0;have c1:=ε.get c2;have c4:=ε.get c5;have ψ:=β.trans (O.trans ε);refine⟨D7,rfl,⟨_,SqL.of ο⟩,?_⟩;refine gF (xs:=ones.map nat) (λi σ H'=>∃υ,σ=[some (.ref n),some (.ref p),some (nat st),some (nat N.ins.length),some (.ref D2),some (.ref D3),some (nat k2),υ,none]/\Same H7 H') ⟨none,rfl,Same.refl _⟩ (λi σ H' _ ⟨_,_,s'⟩=>SqL.of (s'.get ο)) ?_ ?_
 ·rintro i v σ H8 hv ⟨υ,rfl,α⟩;obtain⟨y,ρ,rfl⟩:=aF hv;walk_at "l2";refine⟨n,D3,N,od,rs,y,rfl,η.same α,α.get c1,by omega,hb,Y y (mem_of_getElem? ρ),λH9 φ=>?_⟩;walk_at "l2";exact α.trans φ
 ·rintro σ H8 ⟨υ,rfl,α⟩;have f0:=Same.seq α a8;walk_at "l2";rw[h3];refine⟨n,D2,N,od,rs,k2,k3,cell ns ((st:Int) + 4),rfl,η.same α,α.get c4,by omega,hb,ι,by omega,λH9 φ=>?_⟩;exact q _ (ψ.trans (α.trans φ))
end
section
variable {P:Program} {w:World} {K:PySem.W.Frag} {mg:Str->Option Value} {base:Heap} {a:Ad}
local macro_rules | `(tactic| walk_at "l2step") =>`(tactic| first | ((with_reducible refine' eU ?e ?_);(case e=>walk_at "l2kind")) | ((with_reducible refine' h7 ?e ?_);(case e=>walk_at "l2kind")) | (with_reducible refine cU ?_) | (with_reducible refine fB ?_))
theorem Ay (T:Tx K mg a):FnOk P w K mg base CX0 1 a.gR a.wN ["row"] Cv:=by
 refine T.nj.1.okA Am λY A outer s H vs Q E Z h=>?_;obtain⟨z,rfl,hl,q⟩:=h;refine⟨_,((ai (aB (d2 (K:=K) rfl PySem.F.plainAttrs_str PySem.F.slot_str_split PySem.F.type_str_split tI (pv 0) (aa bq ae))))),ar (σ':=[some _]) rfl ?_⟩;walk_at "l2";refine Ar (by decide +kernel) (by rw[sizeLine_eq];omega) λD H2 O L G=>?_;rw[xi] at G;exact q D H2 O L G
theorem De (T:Tx K mg a):FnOk P w K mg base CX0 1 a.jg a.zD ["text"] Fh:=by
 refine T.qa.1.okA CK λY A outer s H vs Q E Z h=>?_;obtain⟨z,rfl,hl,q⟩:=h;refine⟨_,((ai (aB (BK (aI fK (pv 0) bq (aQ _)) (cw ae) (d2 (K:=K) rfl PySem.F.plainAttrs_str PySem.F.slot_str_split PySem.F.type_str_split tI (pv 0) (aa bq ae)))))),ar (σ':=[some _]) rfl ?_⟩;walk_at "l2";by_cases hz:z=""
 ·refine kK (decide_eq_true (by rw[hz])) ?_;rw[if_pos hz] at q;walk_at "l2";intro D H2 O L G;exact q D H2 O L G
 ·refine ie (decide_eq_false λe=>hz (V.str.inj e)) ?_;rw[if_neg hz] at q;walk_at "l2";refine Ar (by decide +kernel) (by rw[sizeLine_eq];omega) λD H2 O L G=>?_;rw[Aj] at G;exact q D H2 O L G
theorem AC (T:Tx K mg a):FnOk P w K mg base CX0 2 a.gX a.wV ["words"] Lo:=by
 refine T.ny.1.okA Ap λa4 A outer s H vs Q E τ h=>?_;obtain⟨l,r,rfl,hl,fm,q⟩:=h;have ι:∀(z:Str) (xs:List Str),atI ((z::xs).map V.str) 0=some (.str z):=λz xs=>fI (j:=0) rfl;have a1:∀(y z:Str) (xs:List Str),atI ((y::z::xs).map V.str) 1=some (.str z):=λy z xs=>fI (j:=1) rfl;have a2:∀(x y z:Str) (xs:List Str),atI ((x::y::z::xs).map V.str) 2=some (.str z):=λx y z xs=>fI (j:=2) rfl;have i1:inV (V.str "in") [V.str "in",V.str "out"]=true:=by decide +kernel
 have i2:inV (V.str "out") [V.str "in",V.str "out"]=true:=by decide +kernel
 have i3:inV (V.str "sum") [V.str "in",V.str "out"]=false:=by decide +kernel
 have i4:inV (V.str "store") [V.str "in",V.str "out"]=false:=by decide +kernel
 have j3:inV (V.str "sum") [V.str "sum",V.str "store"]=true:=by decide +kernel
 have j4:inV (V.str "store") [V.str "sum",V.str "store"]=true:=by decide +kernel
 have a3:("sum":Str)≠"store":=by decide +kernel
 refine⟨_,((af (cG (aI (Ga (K:=K) rfl) (aD (aL (K:=K) rfl) (pv 0) ag (λ_ _=>rfl)) (dk (aa bq (aa bq ae))) (by rfl)) (ai (aB (nT (fF fK (aH (aP (K:=K) rfl) (by rfl) T.fG PySem.boot_len (aa (pv 0) ae)) ag (aQ _)) (pj (aj (iP T) τ T.kl T.gI (aa (aD (aL (K:=K) rfl) (pv 0) ag (λ_ _=>rfl)) ae)))))) aV)
  (af (cG (PW.pt (qy (aI (yQ (K:=K) rfl) (aD (aL (K:=K) rfl) (pv 0) ag (λ_ _=>rfl)) (dk (aa bq (aa bq ae))) (by rfl)) (qy (aI Da (aH (aP (K:=K) rfl) (by rfl) T.fG PySem.boot_len (aa (pv 0) ae)) ag (aQ _)) (pe (aI F7 (aD (aL (K:=K) rfl) (pv 0) ag (λ_ _=>rfl)) bq (aQ _)))))) (ai (aB pA)) aV)
  (af (cG (PW.pt (BH (aI fK (aD (aL (K:=K) rfl) (pv 0) ag (λ_ _=>rfl)) bq (aQ _)) (xx (aI F7 (aH (aP (K:=K) rfl) (by rfl) T.fG PySem.boot_len (aa (pv 0) ae)) ag (aQ _))))) (ai (aB pA)) aV)
  (ai (aB (nT (aj (iP T) τ T.kl T.gI (aa (aD (aL (K:=K) rfl) (pv 0) ag (λ_ _=>rfl)) ae)) (pj (aH (vw (K:=K) rfl rfl) (by rfl) T.Mi PyProof.Rows.boot_all (aa (cy (osc:=ah mU) (ON:=n11) (N:=["word"]) (n:=1) (fx:=[]) rfl rfl rfl (by decide +kernel) (aU (K:=K) rfl (kT (kG (K:=K) rfl) (pv 0) (mm ag) qz)) (aS (by decide)) (λ_ _ _ _ _=>⟨(aw (i:=0) (show List.Nodup (["word"]:List Str) from by decide +kernel) rfl (by walk_at "o")),bB,(aj (iP T) τ T.kl T.gI (aa (pv 0) ae))⟩)) ae)))))))))),ar (σ':=[some _]) rfl ?_⟩
 cases fm with
 | i z h=>
   have hz:=ι "in" [z];have α:=a1 "in" z [];walk_at "l2";intro γ H1 g1 G β;refine⟨γ,_,rfl,.inr (SqT.of β),rfl,rfl,?_⟩;rw[if_neg Bool.false_ne_true,i1];have hl1:=G.get hl;walk_at "l2";exact c_nm h fun θ Y=>q θ (G.trans Y)
 | o z h=>
   have hz:=ι "out" [z];have α:=a1 "out" z [];walk_at "l2";intro γ H1 g1 G β;refine⟨γ,_,rfl,.inr (SqT.of β),rfl,rfl,?_⟩;rw[if_neg Bool.false_ne_true,i2];have hl1:=G.get hl;walk_at "l2";exact c_nm h fun θ Y=>q θ (G.trans Y)
 | s z ws h hw υ=>
   have hz:=ι "sum" (z::"="::ws);have α:=a1 "sum" z ("="::ws);have ο:=a2 "sum" z "=" ws;walk_at "l2";intro γ H1 g1 G β;refine⟨γ,_,rfl,.inr (SqT.of β),rfl,rfl,?_⟩;rw[if_neg Bool.false_ne_true,i3];have hl1:=G.get hl;walk_at "l2";intro D2 H2 g2 ε ψ;refine⟨D2,_,rfl,.inr (SqT.of ψ),rfl,rfl,?_⟩;rw[if_pos rfl,j3];have hl2:=ε.get hl1;walk_at "l2";refine c_nm h fun θ Y=>?_;have χ:=Y.get hl2;walk_at "l2";intro D4 ω f4 ξ η;rw[show cutV ((("sum":Str)::z::("=":Str)::ws).map V.str) (some 3) none=(ws).map V.str from(tN _ 3 (by simp)).trans rfl] at η;have Z:=G.trans (ε.trans (Y.trans ξ));walk_at "l2";intro D5 O;refine aX (xs:=(ws).map V.str) (λi ys H'=>Cs (λi ys=>ys=(List.replicate i true).map V.bl) ω D5 i ys H') (Cs.zero O rfl) (λi ys H' _ c=>SqL.of (c.same.get η)) (λi x ys H' π c=>?_) (λys H5 c=>?_)
   ·obtain⟨ν,L,rfl⟩:=aF π;have hi:=(List.getElem?_eq_some_iff.mp L).1;have φ:=υ;walk_at "l2";refine c_nm (hw ν (mem_of_getElem? L)) λH6 δ=>?_;refine Cs.put O (c.same.trans δ) (δ.get c.at') c.len (by omega) ?_;rw[c.pv,replicate_succ',map_append];rfl
   ·have ζ:=c.at';rw[c.pv] at ζ;walk_at "l2";refine BB (SqL.of ζ) ?_;rw[show(List.replicate ((ws).map V.str).length true).all id=true from all_eq_true.mpr λb hb=>(List.mem_replicate.mp hb).2];exact q _ (Z.trans c.same)
 | t z y h hy=>
   have ρ:∀w∈[y],Nm w:=λw hw=>by rw[mem_singleton.mp hw];exact hy
   have hz:=ι "store" [z,"=",y];have α:=a1 "store" z ["=",y];have ο:=a2 "store" z "=" [y];walk_at "l2";intro γ H1 g1 G β;refine⟨γ,_,rfl,.inr (SqT.of β),rfl,rfl,?_⟩;rw[if_neg Bool.false_ne_true,i4];have hl1:=G.get hl;walk_at "l2";intro D2 H2 g2 ε ψ;refine⟨D2,_,rfl,.inr (SqT.of ψ),rfl,rfl,?_⟩;rw[if_pos rfl,j4];have hl2:=ε.get hl1;walk_at "l2";refine c_nm h fun θ Y=>?_;have χ:=Y.get hl2;walk_at "l2";intro D4 ω f4 ξ η;rw[show cutV (([("store":Str),z,("=":Str),y]).map V.str) (some 3) none=([y]).map V.str from(tN _ 3 (by simp)).trans rfl] at η;have Z:=G.trans (ε.trans (Y.trans ξ));walk_at "l2";intro D5 O;refine aX (xs:=([y]).map V.str) (λi ys H'=>Cs (λi ys=>ys=(List.replicate i true).map V.bl) ω D5 i ys H') (Cs.zero O rfl) (λi ys H' _ c=>SqL.of (c.same.get η)) (λi x ys H' π c=>?_) (λys H5 c=>?_)
   ·obtain⟨ν,L,rfl⟩:=aF π;have hi:=(List.getElem?_eq_some_iff.mp L).1;have φ:=(show([y]:List Str).length<=24 by simp);walk_at "l2";refine c_nm (ρ ν (mem_of_getElem? L)) λH6 δ=>?_;refine Cs.put O (c.same.trans δ) (δ.get c.at') c.len (by omega) ?_;rw[c.pv,replicate_succ',map_append];rfl
   ·have ζ:=c.at';rw[c.pv] at ζ;walk_at "l2";refine BB (SqL.of ζ) ?_;rw[show(List.replicate (([y]).map V.str).length true).all id=true from all_eq_true.mpr λb hb=>(List.mem_replicate.mp hb).2];exact q _ (Z.trans c.same)
theorem AB (T:Tx K mg a):FnOk P w K mg base CX0 7 a.gW a.wU ["text"] (Lj (NAof a)):=by
 refine T.nv.1.okA eE λi4 A outer s H vs Q E hr h=>?_;obtain⟨rows,rfl,δ,lr,g,q⟩:=h;have tl:=Iy δ
 have c5:(if txtR rows="" then [] else Txt.split (txtR rows) ⟨#[10]⟩)=rows.map rowT:=by
  by_cases e:rows=[]
  ·subst e;rw[if_pos (show txtR []="" from rfl)];rfl
  ·rw[if_neg (Ld δ e),Cj (λr G=>(δ r G).wd) e]
 have rl:∀r∈rows,(rowT r).length<=1000:=λr G=>by
  have b1:=(δ r G).len;have b2:=xu b1.2;omega
 have η:∀(r:List Str) (k:Nat),k < r.length->atI (r.map V.str) (k:Int)=some (.str (r.getD k "")):=λr k hk=>fI (by rw[getElem?_map,getElem?_eq_getElem hk,getD_eq_getElem?_getD,getElem?_eq_getElem hk];rfl);have fl:∀r∈rows,2<=r.length:=λr G=>by cases δ r G<;>simp
 have f4:∀r∈rows,kd "store" r=true->4<=r.length:=λr G hk=>by
  obtain⟨n1,n2,n3,n4,n5,n6,n7,n8,n9,f0,a7,a6⟩:=w_ne;cases δ r G with
  | i z h=>exact absurd (of_decide_eq_true hk) n2
  | o z h=>exact absurd (of_decide_eq_true hk) a6
  | s z ws h hw g4=>exact absurd (of_decide_eq_true hk) n5
  | t z y h O=>simp
 have f3:∀r∈rows,kd "sum" r=true->3<=r.length:=λr G hk=>by
  obtain⟨n1,n2,n3,n4,n5,n6,n7,n8,n9,f0,a7,a6⟩:=w_ne;cases δ r G with
  | i z h=>exact absurd (of_decide_eq_true hk) n1
  | o z h=>exact absurd (of_decide_eq_true hk) a7
  | s z ws h hw g4=>simp
  | t z y h O=>simp
 have fs:∀(k:Str) (i:Nat) (r:List Str),rows[i]? =some r->(rows.take (i + 1)).filter (kd k)=(rows.take i).filter (kd k)++(if kd k r=true then [r] else []):=λk i r h=>by
  rw[take_succ h,filter_append,filter_cons];rfl
 refine⟨_,((af (dI (osc:=ah gb) (ON:=n13) (N:=n10) (n:=1) (fx:=[]) (i:=1) eE.nd rfl rfl rfl rfl rfl rfl (by decide +kernel) (aU (K:=K) rfl (aj (De T) hr T.GT T.qa (aa (pv 0) ae))) (aS (by decide)) (λ_ _ _ _ _=>⟨(aw (i:=0) (show List.Nodup (n10:List Str) from by decide +kernel) rfl (by walk_at "o")),bB,(aj (Ay T) hr T.DR T.nj (aa (pv 0) ae))⟩))
  (af (dz PassesOwn.never rfl (Ax (K:=K) rfl (by rfl) T.eK (pv 1)) (yN rfl (dm (aw (i:=2) eE.nd rfl (by walk_at "o")) (dm (aw (i:=3) eE.nd rfl (by walk_at "o")) mn))) (ai (cG (gx (eu (aj (AC T) hr T.DV T.ny (aa (pv 3) ae)))) (ai gP) aV)))
  (af (dI (osc:=ah gb) (ON:=n13) (N:=n11) (n:=1) (fx:=[]) (i:=4) eE.nd rfl rfl rfl rfl rfl rfl (by decide +kernel) (aU (K:=K) rfl (pv 1)) (aS (by decide)) (λ_ _ _ _ _=>⟨(aw (i:=0) (show List.Nodup (n11:List Str) from by decide +kernel) rfl (by walk_at "o")),(iZ (aI fK (aD (aL (K:=K) rfl) (pv 0) ag (λ_ _=>rfl)) bq (aQ _))),(aD (aL (K:=K) rfl) (pv 0) ag (λ_ _=>rfl))⟩))
  (af (dI (osc:=ah gb) (ON:=n13) (N:=n11) (n:=1) (fx:=[]) (i:=5) eE.nd rfl rfl rfl rfl rfl rfl (by decide +kernel) (aU (K:=K) rfl (pv 1)) (aS (by decide)) (λ_ _ _ _ _=>⟨(aw (i:=0) (show List.Nodup (n11:List Str) from by decide +kernel) rfl (by walk_at "o")),(iZ (aI fK (aD (aL (K:=K) rfl) (pv 0) ag (λ_ _=>rfl)) bq (aQ _))),(dk (aa (aD (aL (K:=K) rfl) (pv 0) ag (λ_ _=>rfl)) (aa (kT (kG (K:=K) rfl) (pv 0) (mm ag) qz) ae)))⟩))
  (af (dI (osc:=ah gb) (ON:=n13) (N:=n11) (n:=1) (fx:=[]) (i:=6) eE.nd rfl rfl rfl rfl rfl rfl (by decide +kernel) (aU (K:=K) rfl (pv 1)) (aS (by decide)) (λ_ _ _ _ _=>⟨(aw (i:=0) (show List.Nodup (n11:List Str) from by decide +kernel) rfl (by walk_at "o")),(iZ (aI fK (aD (aL (K:=K) rfl) (pv 0) ag (λ_ _=>rfl)) bq (aQ _))),(dk (aa (aD (aL (K:=K) rfl) (pv 0) ag (λ_ _=>rfl)) (aa (aD (aL (K:=K) rfl) (pv 0) ag (λ_ _=>rfl)) ae)))⟩))
  (af (dI (osc:=ah gb) (ON:=n13) (N:=n11) (n:=1) (fx:=[]) (i:=7) eE.nd rfl rfl rfl rfl rfl rfl (by decide +kernel) (aU (K:=K) rfl (pv 1)) (aS (by decide)) (λ_ _ _ _ _=>⟨(aw (i:=0) (show List.Nodup (n11:List Str) from by decide +kernel) rfl (by walk_at "o")),(iZ (aI fK (aD (aL (K:=K) rfl) (pv 0) ag (λ_ _=>rfl)) bq (aQ _))),(aD (aL (K:=K) rfl) (pv 0) ag (λ_ _=>rfl))⟩))
  (ai (aB (j5 T.J6 (gy T) (hr.mono (by decide)) (by rfl) T.JM T.di.2 .nil bO (aa (pv 4) (aa (pv 5) (aa (pv 6) (aa (pv 7) ae)))))))))))))),ar (σ':=[some _,none,none,none,none,none,none,none]) rfl ?_⟩
 walk_at "l2";refine⟨txtR rows,rfl,by omega,λD1 H1 f1 s1 e1=>?_⟩;rw[c5] at e1;walk_at "l2";intro D2 c3;refine aX (xs:=(rows.map rowT).map V.str) (λi ys H'=>∃ds:List Addr,ys=ds.map V.ref/\Same H1 H'/\H' D2=some (.lst ys)/\ds.length=i/\(∀d∈ds,d≠D2)/\∀(j:Nat) (d:Addr) (r:List Str),ds[j]? =some d->rows[j]? =some r->H' d=some (.lst (r.map V.str))) ⟨[],rfl,bh c3,ay,rfl,λ_ h=>(by cases h),λj d r h=>(by simp at h)⟩ (λi ys H' _ ⟨_,_,s',_⟩=>SqL.of (s'.get e1)) ?_ ?_
 ·rintro i y ys H' O ⟨ds,rfl,s',θ,ld,nd,hd⟩;obtain⟨z,hz,rfl⟩:=aF O;rw[getElem?_map] at hz;obtain⟨r,G,rfl⟩:=map_eq_some_iff.mp hz;have ζ:=(List.getElem?_eq_some_iff.mp G).1;have hm:=mem_of_getElem? G;have h6:=rl r hm;walk_at "l2";refine⟨rowT r,rfl,by omega,λD3 H3 c4 Z e3=>?_⟩;rw[CW (δ r hm).wd (δ r hm).ne] at e3;have c2:D3≠D2:=λz=>by rw[z,θ] at c4;cases c4
  have k3:∀b ob,b≠D2->H3 b=some ob->upd H3 D2 (.lst (ds.map V.ref++[.ref D3])) b=some ob:=λb ob n e=>by rw[aG n];exact e
  refine⟨Z.get θ,by rw[length_map];exact aE (by omega),ds++[D3],by rw[map_append];rfl,λb ob e=>k3 _ _ (ao e c3) (Z.get (s'.get e)),ay,by rw[length_append,ld];rfl,λd L=>?_,λj d r' ψ υ=>?_⟩
  ·rcases mem_append.mp L with h | h
   ·exact nd d h
   ·rw[mem_singleton.mp h];exact c2
  ·by_cases h0:j < ds.length
   ·rw[getElem?_append_left h0] at ψ;exact k3 _ _ (nd d (mem_of_getElem? ψ)) (Z.get (hd j d r' ψ υ))
   ·have hl:=(List.getElem?_eq_some_iff.mp ψ).1;rw[length_append,length_singleton] at hl;rw[getElem?_append_right (by omega),show j - ds.length=0 by omega] at ψ;cases ψ;rw[show j=i by omega,G] at υ;cases υ;exact k3 _ _ c2 e3
 ·rintro ys H2 ⟨ds,rfl,s2,ω,ld,nd,hd⟩;rw[length_map,length_map] at ld;have β:∀{j:Nat} {d:Addr} {r:List Str},ds[j]? =some d->rows[j]? =some r->H2 d=some (.lst (r.map V.str)):=λ{j d r}=>hd j d r
  have dr:∀{j:Nat} {d:Addr},ds[j]? =some d->∃r,rows[j]? =some r/\r∈rows:=λ{j d} h=>by
   have hl:=(List.getElem?_eq_some_iff.mp h).1;exact⟨_,getElem?_eq_getElem (by omega),getElem_mem _⟩
  have e9:=s1.trans s2;clear hd nd e1 s2 s1 f1;walk_at "l2";refine tK (xs:=ds.map V.ref) (λi σ H'=>∃v2 v3 v4 v5 v6 v7,σ=[some (.str (txtR rows)),some (.ref D2),v2,v3,v4,v5,v6,v7]/\Same H2 H') ⟨none,none,none,none,none,none,rfl,Same.refl _⟩ (λi σ H' _ ⟨_,_,_,_,_,_,_,s'⟩=>SqL.of (s'.get ω)) ?_ ?_
  ·rintro i y σ H' pz H3 O ⟨v2,v3,v4,v5,v6,v7,rfl,s'⟩ fp Z e3;obtain⟨d,L,rfl⟩:=aF O;obtain⟨r,G,hm⟩:=dr L;walk_at "l2";refine⟨d,r,rfl,Z.get (s'.get (β L G)),δ r hm,λH4 s4=>?_⟩;walk_at "l2";exact⟨_,_,_,_,_,_,rfl,s'.trans (Z.trans s4)⟩
  ·rintro σ H3 ⟨v2,v3,v4,v5,v6,v7,rfl,Z⟩;have i3:=Z.get ω;walk_at "l2";intro Di c1;refine aX (xs:=ds.map V.ref) (λi ys H'=>Cs (λi ys=>ys=(((rows.take i).filter (kd "in")).map λr=>r.getD 1 "").map V.str) H3 Di i ys H') (Cs.zero c1 rfl) (λi ys H' _ c=>SqL.of (c.same.get (Z.get ω))) (λi y ys H' O c=>?_) (λys H4 c=>?_)
   ·obtain⟨d,L,rfl⟩:=aF O;obtain⟨r,G,hm⟩:=dr L;have ζ:=(List.getElem?_eq_some_iff.mp G).1;have er:=c.same.get (Z.get (β L G));have ρ:=fl r hm;have g0:=η r 0 (by omega);have g1:=η r 1 (by omega);walk_at "l2";by_cases hk:r.getD 0 ""="in"
    ·refine kK (decide_eq_true (by rw[hk])) ?_;walk_at "l2";refine Cs.put c1 c.same c.at' c.len (by omega) ?_;rw[c.pv,fs "in" i r G,if_pos (show kd "in" r=true from decide_eq_true hk),map_append,map_append];rfl
    ·refine ie (decide_eq_false λe=>hk (V.str.inj e)) ?_;refine Cs.skip c.same c.at' c.len ?_;rw[c.pv,fs "in" i r G,if_neg (show ¬kd "in" r=true from λz=>hk (of_decide_eq_true z)),append_nil]
   ·have d4:=c.at';rw[c.pv,length_map,ld,take_length] at d4;have e7:=c.same;clear c;have π:=Z.trans e7;walk_at "l2";intro Ds b3;refine aX (xs:=ds.map V.ref) (λi ys H'=>∃rs:List Rw,ys=rs.map (λr=>V.ref r.1)/\Same H4 H'/\H' Ds=some (.lst ys)/\rs.length<=i/\RwL H' rs/\(∀r∈rs,r.2.1≠Ds)/\rs.map (·.2.2)=((rows.take i).filter (kd "sum")).map λr=>(r.getD 1 "",r.drop 3)) ⟨[],rfl,bh b3,ay,le_refl _,λ_ h=>(by cases h),λ_ h=>(by cases h),rfl⟩ (λi ys H' _ ⟨_,_,s',_⟩=>SqL.of (s'.get (π.get ω))) ?_ ?_
    ·rintro i y ys H' O ⟨rs,ey,s',θ,f2,rk,rd,γ⟩;obtain⟨d,L,rfl⟩:=aF O;obtain⟨r,G,hm⟩:=dr L;have ζ:=(List.getElem?_eq_some_iff.mp G).1;have er:=s'.get (π.get (β L G));have ρ:=fl r hm;have g0:=η r 0 (by omega);have g1:=η r 1 (by omega);walk_at "l2";by_cases hk:r.getD 0 ""="sum"
     ·have α:kd "sum" r=true:=decide_eq_true hk;refine kK (decide_eq_true (by rw[hk])) ?_;walk_at "l2";intro Dw H5 f5 s5 e5;rw[show cutV (r.map V.str) (some 3) none=(r.drop 3).map V.str from(tN (r.map V.str) 3 (by rw[length_map];exact f3 r hm α)).trans (map_drop ..).symm] at e5;walk_at "l2";intro tp H6 f6 φ e6;have ε:=s5.trans φ;have Y:=ε.get θ;have a8:Dw≠Ds:=λz=>by rw[z,θ] at f5;cases f5
      have k6:∀b ob,b≠Ds->H6 b=some ob->upd H6 Ds (.lst (ys++[.ref tp])) b=some ob:=λb ob n e=>by rw[aG n];exact e
      refine⟨Y,by rw[ey,length_map];exact aE (by omega),rs++[(tp,Dw,r.getD 1 "",r.drop 3)],by rw[ey,map_append];rfl,λb ob e=>k6 _ _ (ao e b3) (ε.get (s'.get e)),ay,by rw[length_append,length_singleton];omega,λr' τ=>?_,λr' τ=>?_,?_⟩
      ·rcases mem_append.mp τ with h | h
       ·have t1:=ε.get (rk r' h).1;exact⟨k6 _ _ (b4 t1 Y λz=>by cases z) t1,k6 _ _ (rd r' h) (ε.get (rk r' h).2)⟩
       ·rw[mem_singleton.mp h];exact⟨k6 _ _ (b4 e6 Y λz=>by cases z) e6,k6 _ _ a8 (φ.get e5)⟩
      ·rcases mem_append.mp τ with h | h
       ·exact rd r' h
       ·rw[mem_singleton.mp h];exact a8
      ·rw[map_append,γ,fs "sum" i r G,if_pos α,map_append];rfl
     ·refine ie (decide_eq_false λe=>hk (V.str.inj e)) ?_;exact⟨rs,ey,s',θ,by omega,rk,rd,by rw[γ,fs "sum" i r G,if_neg (show ¬kd "sum" r=true from λz=>hk (of_decide_eq_true z)),append_nil]⟩
    ·rintro ys H5 ⟨rs,rfl,a4,h4,f2,rk,rd,γ⟩;rw[length_map,ld,take_length] at γ;have ο:=π.trans a4;walk_at "l2";intro Dt b0;refine aX (xs:=ds.map V.ref) (λi ys H'=>∃qs:List Qs,ys=qs.map (λr=>V.ref r.1)/\Same H5 H'/\H' Dt=some (.lst ys)/\qs.length<=i/\QsK H' qs/\qs.map (·.2)=((rows.take i).filter (kd "store")).map λr=>(r.getD 1 "",r.getD 3 "")) ⟨[],rfl,bh b0,ay,le_refl _,λ_ h=>(by cases h),rfl⟩ (λi ys H' _ ⟨_,_,s',_⟩=>SqL.of (s'.get (ο.get ω))) ?_ ?_
     ·rintro i y ys H' O ⟨qs,ey,s',θ,f7,qk,eq0⟩;obtain⟨d,L,rfl⟩:=aF O;obtain⟨r,G,hm⟩:=dr L;have ζ:=(List.getElem?_eq_some_iff.mp G).1;have er:=s'.get (ο.get (β L G));have ρ:=fl r hm;have g0:=η r 0 (by omega);have g1:=η r 1 (by omega);walk_at "l2";by_cases hk:r.getD 0 ""="store"
      ·have α:kd "store" r=true:=decide_eq_true hk;have g3:=η r 3 (by have:=f4 r hm α;omega);refine kK (decide_eq_true (by rw[hk])) ?_;walk_at "l2";intro tp H6 f6 φ e6;have Y:=φ.get θ;refine⟨Y,by rw[ey,length_map];exact aE (by omega),qs++[(tp,r.getD 1 "",r.getD 3 "")],by rw[ey,map_append];rfl,λb ob e=>?_,ay,by rw[length_append,length_singleton];omega,fun χ f9=>?_,?_⟩
       ·rw[aG (ao e b0)];exact φ.get (s'.get e)
       ·have:H6 χ.1=some (.tup [.str χ.2.1,.str χ.2.2]):=by
         rcases mem_append.mp f9 with h | h
         ·exact φ.get (qk χ h)
         ·rw[mem_singleton.mp h];exact e6
        rw[aG (b4 this Y λz=>by cases z)];exact this
       ·rw[map_append,eq0,fs "store" i r G,if_pos α,map_append];rfl
      ·refine ie (decide_eq_false λe=>hk (V.str.inj e)) ?_;exact⟨qs,ey,s',θ,by omega,qk,by rw[eq0,fs "store" i r G,if_neg (show ¬kd "store" r=true from λz=>hk (of_decide_eq_true z)),append_nil]⟩
     ·rintro ys H6 ⟨qs,rfl,a3,h3,f7,qk,eq0⟩;rw[length_map,ld,take_length] at eq0;have ξ:=ο.trans a3;walk_at "l2";intro Do c0;refine aX (xs:=ds.map V.ref) (λi ys H'=>Cs (λi ys=>ys=(((rows.take i).filter (kd "out")).map λr=>r.getD 1 "").map V.str) H6 Do i ys H') (Cs.zero c0 rfl) (λi ys H' _ c=>SqL.of (c.same.get (ξ.get ω))) (λi y ys H' O c=>?_) (λys H7 c=>?_)
      ·obtain⟨d,L,rfl⟩:=aF O;obtain⟨r,G,hm⟩:=dr L;have ζ:=(List.getElem?_eq_some_iff.mp G).1;have er:=c.same.get (ξ.get (β L G));have ρ:=fl r hm;have g0:=η r 0 (by omega);have g1:=η r 1 (by omega);walk_at "l2";by_cases hk:r.getD 0 ""="out"
       ·refine kK (decide_eq_true (by rw[hk])) ?_;walk_at "l2";refine Cs.put c0 c.same c.at' c.len (by omega) ?_;rw[c.pv,fs "out" i r G,if_pos (show kd "out" r=true from decide_eq_true hk),map_append,map_append];rfl
       ·refine ie (decide_eq_false λe=>hk (V.str.inj e)) ?_;refine Cs.skip c.same c.at' c.len ?_;rw[c.pv,fs "out" i r G,if_neg (show ¬kd "out" r=true from λz=>hk (of_decide_eq_true z)),append_nil]
      ·have d1:=c.at';rw[c.pv,length_map,ld,take_length] at d1;have a0:=c.same;clear c;walk_at "l2";intro x h5 H8 f8 s8 e8;have ι:=a0.trans s8;have ν:=a3.trans ι;have e4:=a4.trans ν;refine⟨x,h5,Di,Ds,Dt,Do,rs,qs,netR rows,rfl,e8,⟨e4.get d4,ν.get h4,rk.same ν,γ,ι.get h3,fun χ m=>ι.get (qk χ m),eq0,s8.get d1⟩,g,λH9 od k9 na=>⟨rfl,?_⟩⟩;have e0:Same H7 H9:=λb ob e=>k9 _ _ (ao e f8) (s8.get e);have a5:=e9.trans (ξ.trans a0);exact q x H9 od (a5.free f8) (a5.trans e0) na
end
section
variable {P:Program} {w:World} {K:PySem.W.Frag} {mg:Str->Option Value} {base:Heap} {a:Ad}
local macro_rules | `(tactic| walk_at "l2step") =>`(tactic| first | ((with_reducible refine' eU ?e ?_);(case e=>walk_at "l2kind")) | ((with_reducible refine' h7 ?e ?_);(case e=>walk_at "l2kind")) | (with_reducible refine cU ?_) | (with_reducible refine fB ?_))
theorem i6 (T:Tx K mg a):FnOk P w K mg base CX0 1 a.b9 a.nY ["self"] (Lg (NAof a)):=by
 refine T.dh.1.okA tZ λZ A outer s H vs Q E γ h=>?_;obtain⟨p,N,od,rfl,na,q⟩:=h;obtain⟨dx,i,s,t,o,d,β,rs,qs,ws,L,kp,α,eq⟩:=na.ho;have hs:=kp.s;refine⟨_,((ai (aB (bw (fq (K:=K) rfl) (by rfl) T.kh PyProof.Rows.boot_list (aa (aM (K:=K) rfl (pv 0) rfl) ae))))),ar (σ':=[some _]) rfl ?_⟩;walk_at "l2";refine aJ L T.bX T.ki rfl ?_;walk_at "l2";intro D H2 O G Y;exact q D H2 rs O G Y (RwK.same kp.sr G) kp.es
theorem uv (T:Tx K mg a):FnOk P w K mg base CX0 2 a.fk a.w6 ["self"] (IK (NAof a)):=by
 refine T.iT.1.okA Aq λa0 A outer s H vs Q E α h=>?_;obtain⟨p,N,od,rfl,na,q⟩:=h;obtain⟨dx,i,s,t,o,d,tq,rs,qs,ws,β,kp,wi,eq⟩:=na.ho;refine⟨_,((ai (aB (dk (aa (bf (pv 0) T.bX T.dc (cN T) (α.mono (by decide)) T.bH.2 .nil bO) (aa (bf (pv 0) T.bX T.j7 (i6 T) (α.mono (by decide)) T.dh.2 .nil bO) (aa (bf (pv 0) T.bX T.cR (cH T) (α.mono (by decide)) T.bx.2 .nil bO) (aa (bf (pv 0) T.bX T.eL (d3 T) (α.mono (by decide)) T.bW.2 .nil bO) ae)))))))),ar (σ':=[some _]) rfl ?_⟩;walk_at "l2";refine aC β rfl ?_;walk_at "l2";refine⟨p,N,od,rfl,na,λD1 H1 υ Z e1=>?_⟩;walk_at "l2";refine aC (Z.get β) rfl ?_;walk_at "l2";refine⟨p,N,od,rfl,na.same Z,λD2 H2 γ τ θ ω rk es=>?_⟩;have O:=Z.trans θ;walk_at "l2";refine aC (O.get β) rfl ?_;walk_at "l2";refine⟨p,N,od,rfl,na.same O,λD3 H3 δ ρ η ψ ν et=>?_⟩;have G:=O.trans η;walk_at "l2";refine aC (G.get β) rfl ?_;walk_at "l2";refine⟨p,N,od,rfl,na.same G,λD4 H4 π ζ χ=>?_⟩;walk_at "l2";intro ι H5 ο ε φ;have L:=ζ.trans ε;have Y:=η.trans L;exact q ι D1 D2 D3 D4 H5 γ δ υ (Z.free τ) (O.free ρ) (G.free π) (G.free (ζ.free ο)) (G.trans L) ⟨φ,Y.get (θ.get e1),Y.get ω,rk.same Y,es,L.get ψ,fun ξ m=>L.get (ν ξ m),et,ε.get χ⟩
theorem AA (T:Tx K mg a):FnOk P w K mg base CX0 2 a.gU a.wR ["net"] (Li (NAof a)):=by
 refine T.nu.1.okA tV λj4 A outer s H vs Q E hr h=>?_;obtain⟨p,N,od,rfl,na,q⟩:=h;obtain⟨dx,i,s,t,o,d,tq,rs,qs,ws,hp,kp,wi,eq⟩:=na.ho;have g:=na.g;have li:=g.li;have ls:=g.ls;have lt:=g.lt;have lo:=g.lo;have fm:=BF g;have j1:=yH g
 refine⟨_,((af (dI (osc:=ah fZ) (ON:=n14) (N:=["name"]) (n:=1) (fx:=[]) (i:=1) tV.nd rfl rfl rfl rfl rfl rfl (by decide +kernel) (aU (K:=K) rfl (bf (pv 0) T.bX T.dc (cN T) (hr.mono (by decide)) T.bH.2 .nil bO)) (aS (by decide)) (λ_ _ _ _ _=>⟨(aw (i:=0) (show List.Nodup (["name"]:List Str) from by decide +kernel) rfl (by walk_at "o")),bB,(cw (aa bq (aa (pv 0) ae)))⟩))
  (af (be (d2 (K:=K) rfl PySem.F.plainAttrs_list PySem.F.slot_list_extend PySem.F.type_list_extend kj (pv 1) (aa (cy (osc:=ah fZ) (ON:=n14) (N:=n10) (n:=1) (fx:=[]) rfl rfl rfl (by decide +kernel) (aU (K:=K) rfl (bf (pv 0) T.bX T.j7 (i6 T) (hr.mono (by decide)) T.dh.2 .nil bO)) (aS (by decide)) (λ_ _ _ _ _=>⟨(aw (i:=0) (show List.Nodup (n10:List Str) from by decide +kernel) rfl (by walk_at "o")),bB,(au i5 (cw (aa bq (aa (aD (av (K:=K) rfl) (pv 0) ag (λ_ _=>rfl)) (aa bq ae)))) (bw (fq (K:=K) rfl) (by rfl) T.kh PyProof.Rows.boot_list (aa (aD (av (K:=K) rfl) (pv 0) ag (λ_ _=>rfl)) ae)))⟩)) ae)))
  (af (be (d2 (K:=K) rfl PySem.F.plainAttrs_list PySem.F.slot_list_extend PySem.F.type_list_extend kj (pv 1) (aa (cy (osc:=ah fZ) (ON:=n14) (N:=n10) (n:=1) (fx:=[]) rfl rfl rfl (by decide +kernel) (aU (K:=K) rfl (bf (pv 0) T.bX T.cR (cH T) (hr.mono (by decide)) T.bx.2 .nil bO)) (aS (by decide)) (λ_ _ _ _ _=>⟨(aw (i:=0) (show List.Nodup (n10:List Str) from by decide +kernel) rfl (by walk_at "o")),bB,(cw (aa bq (aa (aD (av (K:=K) rfl) (pv 0) ag (λ_ _=>rfl)) (aa bq (aa (aD (av (K:=K) rfl) (pv 0) ag (λ_ _=>rfl)) ae)))))⟩)) ae)))
  (af (be (d2 (K:=K) rfl PySem.F.plainAttrs_list PySem.F.slot_list_extend PySem.F.type_list_extend kj (pv 1) (aa (cy (osc:=ah fZ) (ON:=n14) (N:=["wire"]) (n:=1) (fx:=[]) rfl rfl rfl (by decide +kernel) (aU (K:=K) rfl (bf (pv 0) T.bX T.eL (d3 T) (hr.mono (by decide)) T.bW.2 .nil bO)) (aS (by decide)) (λ_ _ _ _ _=>⟨(aw (i:=0) (show List.Nodup (["wire"]:List Str) from by decide +kernel) rfl (by walk_at "o")),bB,(cw (aa bq (aa (pv 0) ae)))⟩)) ae)))
  (ai (aB (d2 (K:=K) rfl PySem.F.plainAttrs_str PySem.F.slot_str_join PySem.F.type_str_join (BS (K:=K) rfl) bq (aa (cy (osc:=ah fZ) (ON:=n14) (N:=n11) (n:=1) (fx:=[]) rfl rfl rfl (by decide +kernel) (aU (K:=K) rfl (pv 1)) (aS (by decide)) (λ_ _ _ _ _=>⟨(aw (i:=0) (show List.Nodup (n11:List Str) from by decide +kernel) rfl (by walk_at "o")),bB,(d2 (K:=K) rfl PySem.F.plainAttrs_str PySem.F.slot_str_join PySem.F.type_str_join (BS (K:=K) rfl) bq (aa (pv 0) ae))⟩)) ae))))))))),ar (σ':=[some _,none]) rfl ?_⟩
 walk_at "l2";refine aC hp rfl ?_;walk_at "l2";refine⟨p,N,od,rfl,na,λD1 H1 f1 s1 e1=>?_⟩;walk_at "l2";intro D2 γ;refine aX (xs:=N.ins.map V.str) (λi ys H'=>Same H1 H'/\H' D2=some (.lst ys)/\Lrw H1 H' D2 ys ((N.ins.take i).map λz=>[("in":Str),z])) ⟨bh γ,ay,Lrw.nil⟩ (λi ys H' _ ⟨s',_⟩=>SqL.of (s'.get e1)) ?_ ?_
 ·rintro i y ys H' ι ⟨s',δ,lr⟩;obtain⟨z,hz,rfl⟩:=aF ι;have ξ:=(List.getElem?_eq_some_iff.mp hz).1;walk_at "l2";intro D3 H3 f3 s3 e3;have L:=lr.len;rw[length_map,length_take] at L;refine⟨s3.get δ,aE (by omega),λb ob e=>?_,ay,?_⟩
  ·rw[aG (ao e γ)];exact s3.get (s'.get e)
  ·rw[take_succ hz,map_append];exact lr.put (s'.free f3) δ f3 s3 e3
 ·rintro ys H2 ⟨s2,e2,θ⟩;rw[length_map,take_length] at θ;have c1:=s1.trans s2;have l2:=θ.len;rw[length_map] at l2;walk_at "l2";refine aC (c1.get hp) rfl ?_;walk_at "l2";refine⟨p,N,od,rfl,na.same c1,λD3 H3 c3 f3 s3 e3 rk es=>?_⟩;have h0:c3.length=N.sums.length:=by rw[<-es,length_map]
  walk_at "l2";intro D4 d4;refine aX (xs:=c3.map λr=>V.ref r.1) (λi ys H'=>Same H3 H'/\H' D4=some (.lst ys)/\Lrw H3 H' D4 ys ((N.sums.take i).map λr=>("sum":Str)::r.1::("=":Str)::r.2)) ⟨bh d4,ay,Lrw.nil⟩ (λi ys H' _ ⟨s',_⟩=>SqL.of (s'.get e3)) ?_ ?_
  ·rintro i y ys H' ι ⟨s',δ,lr⟩;obtain⟨r,G,rfl⟩:=aF ι;have ξ:=(List.getElem?_eq_some_iff.mp G).1;obtain⟨i4,h6⟩:=rk r (mem_of_getElem? G);have χ:=s'.get i4;have ν:N.sums[i]? =some r.2.2:=by rw[<-es,getElem?_map,G];rfl
   have j3:=g.lw _ (mem_of_getElem? ν);walk_at "l2";intro D5 H5 f5 s5 e5;have i3:=s5.get χ;have h5:=s5.get (s'.get h6);walk_at "l2";intro D6 H6 f6 s6 e6;refine oy (s6.get e5) e6 (by rw[length_map,sizeLine_eq];simp;omega) λD7 H7 f7 s7 e7=>?_;have O:=s5.trans (s6.trans s7);have L:=lr.len;rw[length_map,length_take] at L;have e0:H' D7=none:=s5.free (s6.free f7);refine⟨O.get δ,aE (by omega),λb ob e=>?_,ay,?_⟩
   ·rw[aG (ao e d4)];exact O.get (s'.get e)
   ·rw[take_succ ν,map_append];exact lr.put (s'.free e0) δ e0 O e7
  ·rintro a6 H4 ⟨s4,e4,η⟩;rw[length_map,h0,take_length] at η;have l4:=η.len;rw[length_map] at l4;have ψ:=s3.trans s4;have ρ:Lrw H2 H4 D4 a6 _:=η.base s3;walk_at "l2";refine mV (ψ.get e2) e4 (by rw[sizeLine_eq];omega) λH5 u5=>?_;have a5:=θ.join e2 s2 ψ ρ u5;have a0:Same H1 H5:=λb ob e=>u5.oth _ _ (ao e γ) (ψ.get (s2.get e));have c0:=s1.trans a0;have l5:=a5.len;clear θ η ρ e4 e3 rk es f3;have e5:=u5.at';walk_at "l2";refine aC (c0.get hp) rfl ?_;walk_at "l2";refine⟨p,N,od,rfl,na.same c0,λD6 H6 c4 f6 s6 e6 qk et=>?_⟩;have h3:c4.length=N.sts.length:=by rw[<-et,length_map]
   walk_at "l2";intro D7 d1;refine aX (xs:=c4.map λr=>V.ref r.1) (λi ys H'=>Same H6 H'/\H' D7=some (.lst ys)/\Lrw H6 H' D7 ys ((N.sts.take i).map λr=>[("store":Str),r.1,("=":Str),r.2])) ⟨bh d1,ay,Lrw.nil⟩ (λi ys H' _ ⟨s',_⟩=>SqL.of (s'.get e6)) ?_ ?_
   ·rintro i y ys H' ι ⟨s',δ,lr⟩;obtain⟨r,G,rfl⟩:=aF ι;have ξ:=(List.getElem?_eq_some_iff.mp G).1;have χ:=s'.get (qk r (mem_of_getElem? G));have ν:N.sts[i]? =some r.2:=by rw[<-et,getElem?_map,G];rfl
    walk_at "l2";intro D8 H8 f8 s8 e8;have L:=lr.len;rw[length_map,length_take] at L;refine⟨s8.get δ,aE (by omega),λb ob e=>?_,ay,?_⟩
    ·rw[aG (ao e d1)];exact s8.get (s'.get e)
    ·rw[take_succ ν,map_append];exact lr.put (s'.free f8) δ f8 s8 e8
   ·rintro g3 H7 ⟨s7,e7,ζ⟩;rw[length_map,h3,take_length] at ζ;have l7:=ζ.len;rw[length_map] at l7;have O:=s6.trans s7;simp only[length_append,length_map] at l5;walk_at "l2";refine mV (O.get e5) e7 (by rw[sizeLine_eq];simp only[length_append];omega) λH8 u8=>?_;have a4:=a5.join e5 a0 O (ζ.base s6) u8;have ω:Same H1 H8:=λb ob e=>u8.oth _ _ (ao e γ) (O.get (a0.get e));have b0:=s1.trans ω;have l8:=a4.len;clear a5 ζ e7 e6 qk et f6 e5;have e8:=u8.at';walk_at "l2";refine aC (b0.get hp) rfl ?_;walk_at "l2";refine⟨p,N,od,rfl,na.same b0,λD9 H9 f9 s9 e9=>?_⟩;walk_at "l2";intro g0 φ;refine aX (xs:=N.outs.map V.str) (λi ys H'=>Same H9 H'/\H' g0=some (.lst ys)/\Lrw H9 H' g0 ys ((N.outs.take i).map λz=>[("out":Str),z])) ⟨bh φ,ay,Lrw.nil⟩ (λi ys H' _ ⟨s',_⟩=>SqL.of (s'.get e9)) ?_ ?_
    ·rintro i y ys H' ι ⟨s',δ,lr⟩;obtain⟨z,hz,rfl⟩:=aF ι;have ξ:=(List.getElem?_eq_some_iff.mp hz).1;walk_at "l2";intro k7 π f0 a3 ο;have L:=lr.len;rw[length_map,length_take] at L;refine⟨a3.get δ,aE (by omega),λb ob e=>?_,ay,?_⟩
     ·rw[aG (ao e φ)];exact a3.get (s'.get e)
     ·rw[take_succ hz,map_append];exact lr.put (s'.free f0) δ f0 a3 ο
    ·rintro a7 k6 ⟨g4,f4,Z⟩;rw[length_map,take_length] at Z;have h4:=Z.len;rw[length_map] at h4;have α:=s9.trans g4;simp only[length_append,length_map] at l8;walk_at "l2";refine mV (α.get e8) f4 (by rw[sizeLine_eq];simp only[length_append];omega) fun π ε=>?_;have τ:Lrw H1 π D2 _ (qv N):=a4.join e8 ω α (Z.base s9) ε;have a8:Same H1 π:=λb ob e=>ε.oth _ _ (ao e γ) (α.get (ω.get e));have c2:=s1.trans a8;have ο:=ε.at';clear a4 Z f4 e9 f9 e8 ε;generalize ys++a6++g3++a7=Y at τ ο;obtain⟨ds,rfl,ld,_,_,hd⟩:=τ;walk_at "l2";intro j0 υ;refine aX (xs:=ds.map V.ref) (λi ys H'=>Cs (λi ys=>ys=(((qv N).take i).map rowT).map V.str) π j0 i ys H') (Cs.zero υ rfl) (λi ys H' _ c=>SqL.of (c.same.get ο)) (λi y ys H' ι c=>?_) (λys k4 c=>?_)
     ·obtain⟨d,c5,rfl⟩:=aF ι;have ξ:=(List.getElem?_eq_some_iff.mp c5).1;obtain⟨r,G⟩:∃r,(qv N)[i]? =some r:=⟨_,getElem?_eq_getElem (by omega)⟩;have hm:=mem_of_getElem? G;have er:=c.same.get (hd i d r c5 G);have b1:=(fm r hm).len
      have β:∀(l:List Str),(∀w∈l,w.length<=6)->(l.map (·.length)).sum<=l.length * 6:=λl=>by
       induction l with
       | nil=>intro _;simp
       | cons x l ih=>intro h;have:=ih λw hw=>h w (mem_cons_of_mem _ hw);have:=h x mem_cons_self;simp only[map_cons,List.sum_cons,length_cons];omega
      have hs:=β r b1.2;walk_at "l2";refine Km (SqL.of er) (by rw[xi];show _ + r.length * 1<=_;omega) ?_;rw[Bq,xi];refine Cs.put υ c.same c.at' c.len (by omega) ?_;rw[c.pv,take_succ G,map_append,map_append];rfl
     ·have f2:=c.at';rw[c.pv,length_map,ld,take_length] at f2
      have β:∀(l:List (List Str)),(∀r∈l,Fm r)->((l.map rowT).map (·.length)).sum<=l.length * 189:=λl=>by
       induction l with
       | nil=>intro _;simp
       | cons x l ih=>
         intro h;have:=ih λw hw=>h w (mem_cons_of_mem _ hw);have b1:=(h x mem_cons_self).len;have b2:=xu b1.2;have b3:x.length * 7<=27 * 7:=Nat.mul_le_mul_right 7 b1.1;simp only[map_cons,List.sum_cons,length_cons];omega
      have hs:=β (qv N) fm;walk_at "l2";refine Km (SqL.of f2) (by rw[Aj,length_map];show _ + (qv N).length * 1<=_;omega) ?_;rw[Bq,Aj];exact q _ (c2.trans c.same)
end
section
variable {P:Program} {w:World} {K:PySem.W.Frag} {mg:Str->Option Value} {base:Heap} {a:Ad}
local macro_rules | `(tactic| walk_at "l2step") =>`(tactic| first | ((with_reducible refine' eU ?e ?_);(case e=>walk_at "l2kind")) | ((with_reducible refine' h7 ?e ?_);(case e=>walk_at "l2kind")) | (with_reducible refine cU ?_) | (with_reducible refine fB ?_))
local macro_rules | `(tactic| walk_at "l2step") =>`(tactic| first | (with_reducible refine N0 ?_))
theorem qD (T:Tx K mg a):FnOk P w K mg base CX0 1 a.ji a.zF ["wires","wire","fresh"] Cz:=by
 refine T.ku.1.okA CM fun β A outer s H vs Q E γ h=>?_;obtain⟨l,zs,O,f,rfl,hl,ln,q⟩:=h
 have Y:∀{D:Addr} {i:Nat} {z:Str} {ys:List V} {H':Hp} (L:H D=none),zs[i]? =some z->Cs (λi ys=>ys=((zs.take i).map (sbw O f)).map V.str) H D i ys H'->H' D=some (.lst ys)/\ys.length < sizeLine/\Cs (λi ys=>ys=((zs.take i).map (sbw O f)).map V.str) H D (i + 1) (ys++[.str (sbw O f z)]) (upd H' D (.lst (ys++[.str (sbw O f z)]))):=λ{D i z ys H'} L hz c=>by
  have hi:=(List.getElem?_eq_some_iff.mp hz).1;refine Cs.put L c.same c.at' c.len (by omega) ?_;rw[c.pv,take_succ hz,map_append,map_append];rfl
 refine⟨_,((ai (aB (cy (osc:=ah o6) (ON:=["wires","wire","fresh"]) (N:=["other","wire","fresh"]) (n:=1) (fx:=[1,2]) rfl rfl rfl (by decide +kernel) (L3 (K:=K) rfl (pv 0)) (aS (by decide)) (λ_ _ _ _ _=>⟨(aw (i:=0) (show List.Nodup (["other","wire","fresh"]:List Str) from by decide +kernel) rfl (by walk_at "o")),bB,(BK (aI fK (pv 0) (pv 1) (aQ _)) (pv 2) (pv 0))⟩))))),ar (σ':=[some _,some _,some _]) rfl ?_⟩;walk_at "l2";rcases hl with hl | hl
 ·refine .inl ⟨⟨_,SqL.of hl⟩,λD L=>?_⟩;refine aX (xs:=zs.map V.str) (λi ys H'=>Cs (λi ys=>ys=((zs.take i).map (sbw O f)).map V.str) H D i ys H') (Cs.zero L rfl) (λi ys H' _ c=>SqL.of (c.same.get hl)) (λi v ys H' α c=>?_) (λys H' c=>?_)
  ·obtain⟨z,hz,rfl⟩:=aF α;have t':=Y L hz c;walk_at "l2";unfold sbw at t';by_cases G:z=O
   ·rw[if_pos G] at t';refine kK (decide_eq_true (by rw[G])) ?_;walk_at "l2";exact t'
   ·rw[if_neg G] at t';refine ie (decide_eq_false λe=>G (V.str.inj e)) ?_;walk_at "l2";exact t'
  ·have Z:=c.at';rw[c.pv,length_map,take_length] at Z;exact q D H' L c.same Z
 ·refine .inr ⟨⟨_,SqT.of hl⟩,λD L=>?_⟩;refine tO (xs:=zs.map V.str) (λi ys H'=>Cs (λi ys=>ys=((zs.take i).map (sbw O f)).map V.str) H D i ys H') (Cs.zero L rfl) (λi ys H' _ c=>SqT.of (c.same.get hl)) (λi v ys H' α c=>?_) (λys H' c=>?_)
  ·obtain⟨z,hz,rfl⟩:=aF α;have t':=Y L hz c;walk_at "l2";unfold sbw at t';by_cases G:z=O
   ·rw[if_pos G] at t';refine kK (decide_eq_true (by rw[G])) ?_;walk_at "l2";exact t'
   ·rw[if_neg G] at t';refine ie (decide_eq_false λe=>G (V.str.inj e)) ?_;walk_at "l2";exact t'
  ·have Z:=c.at';rw[c.pv,length_map,take_length] at Z;exact q D H' L c.same Z
theorem OJ (T:Tx K mg a):FnOk P w K mg base CX0 7 a.A8 a.Pp ["net","wire","fresh"] (I0 (NAof a)):=by
 refine T.J9.1.okA FD λm2 A outer s H vs Q E η h=>?_;obtain⟨p,N,od,ζ,z,rfl,na,hw,nz,hz,hm,q⟩:=h;have hu:=oR η;obtain⟨dx,i,s,t,o,d,tq,rs,qs,ws,hp,kp,wi,eq⟩:=na.ho;have g:=na.g;have li:=g.li;have ls:=g.ls;have lt:=g.lt;have lo:=g.lo;have lz:=nz.len;have hn:OW (.str z)=true:=nz
 refine⟨_,((af (be (eh (pv 0) T.bX T.dJ (c8 T) (η.mono (by decide)) T.bU.2 .nil bO (aa (pv 1) ae)))
  (af (cG (gx (eu (aj (iP T) η T.kl T.gI (aa (pv 2) ae)))) (ai gP) aV)
  (af (cG (aI (Ga (K:=K) rfl) (pv 2) (bf (pv 0) T.bX T.lE (ke T) (η.mono (by decide)) T.cS.2 .nil bO) (by rfl)) (ai gP) aV)
  (af (dI (osc:=ah s_cut) (ON:=["net","wire","fresh","sums","stores"]) (N:=n17) (n:=1) (fx:=[1,2]) (i:=3) FD.nd rfl rfl rfl rfl rfl rfl (by decide +kernel) (aU (K:=K) rfl (bf (pv 0) T.bX T.j7 (i6 T) (η.mono (by decide)) T.dh.2 .nil bO)) (aS (by decide)) (λ_ _ _ _ _=>⟨(aw (i:=0) (show List.Nodup (n17:List Str) from by decide +kernel) rfl (by walk_at "o")),bB,(dk (aa (aD (av (K:=K) rfl) (pv 0) ag (λ_ _=>rfl)) (aa (aj (qD T) η T.vd T.ku (aa (aD (av (K:=K) rfl) (pv 0) ag (λ_ _=>rfl)) (aa (pv 1) (aa (pv 2) ae)))) ae)))⟩))
  (af (be (d2 (K:=K) rfl PySem.F.plainAttrs_list PySem.F.slot_list_append PySem.F.type_list_append cW (pv 3) (aa (dk (aa (pv 2) (aa (cw ae) ae))) ae)))
  (af (dI (osc:=ah s_cut) (ON:=["net","wire","fresh","sums","stores"]) (N:=n17) (n:=1) (fx:=[1,2]) (i:=4) FD.nd rfl rfl rfl rfl rfl rfl (by decide +kernel) (aU (K:=K) rfl (bf (pv 0) T.bX T.cR (cH T) (η.mono (by decide)) T.bx.2 .nil bO)) (aS (by decide)) (λ_ _ _ _ _=>⟨(aw (i:=0) (show List.Nodup (n17:List Str) from by decide +kernel) rfl (by walk_at "o")),bB,(dk (aa (aD (av (K:=K) rfl) (pv 0) ag (λ_ _=>rfl)) (aa (aD (aL (K:=K) rfl) (aj (qD T) η T.vd T.ku (aa (cw (aa (aD (av (K:=K) rfl) (pv 0) ag (λ_ _=>rfl)) ae)) (aa (pv 1) (aa (pv 2) ae)))) ag (λ_ _=>rfl)) ae)))⟩))
  (ai (aB (j5 T.J6 (gy T) (η.mono (by decide)) (by rfl) T.JM T.di.2 .nil bO (aa (bf (pv 0) T.bX T.dc (cN T) (η.mono (by decide)) T.bH.2 .nil bO) (aa (pv 3) (aa (pv 4) (aa (aj (qD T) η T.vd T.ku (aa (bf (pv 0) T.bX T.eL (d3 T) (η.mono (by decide)) T.bW.2 .nil bO) (aa (pv 1) (aa (pv 2) ae)))) ae)))))))))))))),ar (σ':=[some _,some _,some _,none,none]) rfl ?_⟩
 walk_at "l2";refine aC hp rfl ?_;walk_at "l2";refine⟨p,N,od,ζ,rfl,na,hw,λwa H1 s1 wb=>?_⟩;clear wb;walk_at "l2";refine⟨.str z,"str",rfl,rfl,λy e=>by cases e;omega,λH2 s2=>?_⟩;have a7:=s1.trans s2;rw[hn];walk_at "l2";refine aC (a7.get hp) rfl ?_;walk_at "l2";refine⟨p,N,od,rfl,na.same a7,λDn H3 f3 s3 e3=>?_⟩;have a6:=a7.trans s3;walk_at "l2";refine⟨Dn,_,rfl,.inl (SqL.of e3),rfl,by rw[all_eq_true];intro x hx;obtain⟨y,_,rfl⟩:=mem_map.mp hx;rfl,?_⟩;refine⟨_,rfl,?_⟩
 have e5:(if false=true then !inV (V.str z) (N.names.map V.str) else inV (V.str z) (N.names.map V.str))=false:=by
  rw[<-Bool.not_eq_true];exactλh=>hz (A2.mp h)
 rw[if_neg (by rw[e5];decide)];clear e5;walk_at "l2";refine aC (a6.get hp) rfl ?_;walk_at "l2";refine⟨p,N,od,rfl,na.same a6,λD4 H4 χ f4 s4 e4 a8 c1=>?_⟩;have h3:=a6.trans s4;have l6:χ.length=N.sums.length:=by rw[<-c1,length_map]
 walk_at "l2";intro D5 b3;refine aX (xs:=χ.map λr=>V.ref r.1) (λi ys H'=>∃L:List Rw,ys=L.map (λr=>V.ref r.1)/\L.map (·.2.2)=(χ.take i).map (λr=>(r.2.2.1,r.2.2.2.map (sbw ζ z)))/\RwLs H' L/\(∀r∈L,r.2.1≠D5)/\Same H4 H'/\H' D5=some (.lst ys)) ⟨[],rfl,rfl,λ_ h=>absurd h (by simp),λ_ h=>absurd h (by simp),bh b3,ay⟩ (λi ys H' _ ⟨_,_,_,_,_,s',_⟩=>SqL.of (s'.get e4)) ?_ ?_
 ·rintro j y ys H' hy ⟨L,rfl,β,rl,rd,s',ψ⟩;obtain⟨r,γ,rfl⟩:=aF hy;have j0:=(List.getElem?_eq_some_iff.mp γ).1;have hm:=mem_of_getElem? γ;have er:=s'.get (a8 r hm).1;have ew:=s'.get (a8 r hm).2;have l8:=g.lw r.2.2 (by rw[<-c1];exact mem_map.mpr ⟨r,hm,rfl⟩);have e1:L.length=j:=by have:=congrArg List.length β;rw[length_map,length_map,length_take] at this;omega
  walk_at "l2";refine⟨r.2.1,r.2.2.2,ζ,z,rfl,.inr ew,by omega,λB1 H6 f6 s6 e6=>?_⟩;walk_at "l2";intro tr H7 f7 φ e7;have nB:B1≠D5:=λzz=>by rw[zz,ψ] at f6;cases f6
  have Y:=φ.get (s6.get ψ);refine⟨Y,by rw[length_map];exact aE (by omega),L++[(tr,B1,r.2.2.1,r.2.2.2.map (sbw ζ z))],by rw[map_append];rfl,by rw[map_append,β,take_succ γ,map_append];rfl,λr2 h2=>?_,λr2 h2=>?_,λb ob e=>?_,ay⟩
  ·rcases mem_append.mp h2 with h | h
   ·have t1:=φ.get (s6.get (rl r2 h).1);have t2:=φ.get (s6.get (rl r2 h).2);exact⟨by rw[aG (b4 t1 Y λz=>by cases z)];exact t1,by rw[aG (rd r2 h)];exact t2⟩
   ·rw[mem_singleton] at h;subst h;exact⟨by rw[aG (b4 e7 Y λz=>by cases z)];exact e7,by rw[aG nB];exact φ.get e6⟩
  ·rcases mem_append.mp h2 with h | h
   ·exact rd r2 h
   ·rw[mem_singleton] at h;subst h;exact nB
  ·rw[aG (ao e b3)];exact φ.get (s6.get (s'.get e))
 rintro ys H5 ⟨L,rfl,β,rl,rd,c3,ψ⟩;rw[length_map,take_length] at β;have l5:L.length=χ.length:=by have:=congrArg List.length β;rw[length_map,length_map] at this;exact this
 walk_at "l2";intro B6 H6 f6 s6 e6;walk_at "l2";intro t7 H7 f7 φ e7;have ι:=s6.trans φ;have Y:=ι.get ψ;have nB:B6≠D5:=λzz=>by rw[zz,ψ] at f6;cases f6
 walk_at "l2";refine fg Y (by rw[length_map];exact aE (by omega)) λH8 u8=>?_;have g4:Same H4 H8:=λb ob e=>u8.oth _ _ (ao e b3) (ι.get (c3.get e));have a5:=h3.trans g4;obtain⟨α,ε⟩:∃α:List Rw,α=L++[(t7,B6,z,[])]:=⟨_,rfl⟩;have e8:H8 D5=some (.lst (α.map λr=>V.ref r.1)):=by rw[u8.at',ε,map_append];rfl
 have c5:RwLs H8 α:=λr d1=>by
  rw[ε] at d1;rcases mem_append.mp d1 with h | h
  ·have t1:=ι.get (rl r h).1;exact⟨u8.oth _ _ (b4 t1 Y λz=>by cases z) t1,u8.oth _ _ (rd r h) (ι.get (rl r h).2)⟩
  ·rw[mem_singleton] at h;subst h;exact⟨u8.oth _ _ (b4 e7 Y λz=>by cases z) e7,u8.oth _ _ nB (φ.get e6)⟩
 have j4:α.map (·.2.2)=(cutN N ζ z).sums:=by
  unfold cutN;rw[ε,map_append,β,<-c1,map_map];rfl
 clear u8 e7 e6 f6 f7 Y ψ rl rd ι s6 φ c3 nB e4 a8 β ε;walk_at "l2";refine aC (a5.get hp) rfl ?_;walk_at "l2";refine⟨p,N,od,rfl,na.same a5,λD9 H9 b0 f9 s9 e9 h4 f2=>?_⟩;have h0:=a5.trans s9;have l7:b0.length=N.sts.length:=by rw[<-f2,length_map]
 walk_at "l2";intro A7 f0;refine aX (xs:=b0.map λr=>V.ref r.1) (λi ys H'=>∃O:List Qs,ys=O.map (λr=>V.ref r.1)/\O.map (·.2)=(b0.take i).map (λr=>(r.2.1,sbw ζ z r.2.2))/\QsK H' O/\Same H9 H'/\H' A7=some (.lst ys)) ⟨[],rfl,rfl,λ_ h=>absurd h (by simp),bh f0,ay⟩ (λi ys H' _ ⟨_,_,_,_,s',_⟩=>SqL.of (s'.get e9)) ?_ ?_
 ·rintro j y ys H' hy ⟨O,rfl,υ,j1,s',ψ⟩;obtain⟨r,γ,rfl⟩:=aF hy;have j0:=(List.getElem?_eq_some_iff.mp γ).1;have hm:=mem_of_getElem? γ;have er:=s'.get (h4 r hm);have e1:O.length=j:=by have:=congrArg List.length υ;rw[length_map,length_map,length_take] at this;omega
  walk_at "l2";intro B8 l2 m1 π k7;walk_at "l2";refine⟨B8,[r.2.2],ζ,z,rfl,.inl k7,by show 1<=1000;omega,λB9 f8 j3 ο ω=>?_⟩;have ω:f8 B9=some (.lst [.str (sbw ζ z r.2.2)]):=ω;walk_at "l2";intro tr l1 c0 ξ c2;have Z:=π.trans (ο.trans ξ);have a0:=Z.get ψ;have h6:tr≠A7:=λzz=>(by rw[zz,ο.get (π.get ψ)] at c0;cases c0);refine⟨a0,by rw[length_map];exact aE (by omega),O++[(tr,r.2.1,sbw ζ z r.2.2)],by rw[map_append];rfl,by rw[map_append,υ,take_succ γ,map_append];rfl,λr2 h2=>?_,λb ob e=>?_,ay⟩
  ·rcases mem_append.mp h2 with h2 | h2
   ·have d4:=Z.get (j1 r2 h2);rw[aG (b4 d4 a0 λz=>by cases z)];exact d4
   ·rw[mem_singleton] at h2;subst h2;rw[aG h6];exact c2
  ·rw[aG (ao e f0)];exact Z.get (s'.get e)
 rintro ys l2 ⟨O,rfl,υ,e2,π,f5⟩;rw[length_map,take_length] at υ;have τ:=h0.trans π;have θ:=s9.trans π;walk_at "l2";refine aC (τ.get hp) rfl ?_;walk_at "l2";refine⟨p,N,od,rfl,na.same τ,λg3 f8 j3 ο ω=>?_⟩;have ρ:=τ.trans ο;walk_at "l2";refine aC (ρ.get hp) rfl ?_;walk_at "l2";refine⟨p,N,od,rfl,na.same ρ,λl3 l1 c0 ξ c2=>?_⟩;have c4:=ρ.trans ξ;walk_at "l2";refine⟨l3,N.outs,ζ,z,rfl,.inl c2,by omega,λg0 m3 m0 a3 k6=>?_⟩;have δ:=c4.trans a3;have a4:=ο.trans (ξ.trans a3);walk_at "l2";intro x dx k9 f1 ν k4;have l4:=δ.trans ν;have G:=a4.trans ν;have e0:Hnd k9 g3 D5 A7 g0 α O (cutN N ζ z):=⟨ν.get (a3.get (ξ.get ω)),G.get (θ.get e8),λr m=>⟨G.get (θ.get (c5 r m).1),G.get (θ.get (c5 r m).2)⟩,j4,G.get f5,λq' m=>G.get (e2 q' m),by unfold cutN;rw[υ,<-f2,map_map];rfl,ν.get k6⟩;refine⟨x,dx,g3,D5,A7,g0,α,O,cutN N ζ z,rfl,k4,e0,JY g hm nz hz,λk8 h5 i4 i3=>⟨rfl,?_⟩⟩;exact q x k8 h5 (δ.free f1) (λb ob e=>i4 _ _ (ao (δ.get e) f1) (ν.get (δ.get e))) i3
end
section
variable {P:Program} {w:World} {K:PySem.W.Frag} {mg:Str->Option Value} {base:Heap} {a:Ad}
local macro_rules | `(tactic| walk_at "l2step") =>`(tactic| first | ((with_reducible refine' Hu ?a ?b ?_);(case a=>walk_at "l2side");(case b=>walk_at "l2side")) | ((with_reducible refine' rA ?e ?a ?_);(case e=>walk_at "l2hp");(case a=>walk_at "l2side")))
theorem xv {K:PySem.W.Frag} {H:Hp} {D:Addr} {ws:List Str} (h:H D=some (.lst (ws.map V.str))):Rep K H (.ref D) (.lst (ws.map Dt.str)):= .lst (SqL.of h) (by rw[length_map,length_map]) (um V.str Dt.str (λz=> .str z) ws)
theorem Ba:∀ws:List Str,iG (ws.map Dt.str)=0
 | []=>rfl
 | w::ws=>by rw[map_cons,iG,Ba ws];rfl
theorem B3 (ws:List Str):eqD (.lst (ws.map Dt.str)) (.lst [])=decide (ws=[]):=by
 cases ws with
 | nil=>rfl
 | cons w l=>rw[decide_eq_false (by simp)];rfl
theorem xG (T:Tx K mg a):FnOk P w K mg base CX0 2 a.eP a.rM ["_law_cell_here","_law_start","_law_names","_law_digits"] Fn:=by
 refine T.jP.1.okA ff λa0 A outer s H vs Q E ι h=>?_;obtain⟨c,st,l,zs,dg,rfl,χ,φ,hl,ll,q⟩:=h;have θ:=qx ι;have υ:(((zs.map V.str).length:Nat):Int)=(zs.length:Int):=by rw[length_map]
 refine⟨_,((af (cG (eu (pv 3)) (af (aA (i:=4) ff.nd rfl (by walk_at "o") (au cq (pv 0) (au OG (au bY (aH (aP (K:=K) rfl) (by rfl) T.fG PySem.boot_len (aa (pv 2) ae)) ag) ag)))
  (af (aA (i:=5) ff.nd rfl (by walk_at "o") (cw ae))
  (af (dz PassesOwn.never rfl (cV (by rfl) T.gC (aa ag ae)) (aw (i:=6) ff.nd rfl (by walk_at "o")) (F2 (cG (aI oH (au cq (pv 4) (au bY (aH (aP (K:=K) rfl) (by rfl) T.fG PySem.boot_len (aa (pv 2) ae)) ag)) ag (aQ _)) (ai (be (d2 (K:=K) rfl PySem.F.plainAttrs_list PySem.F.slot_list_append PySem.F.type_list_append cW (pv 5) (aa (aD (aL (K:=K) rfl) (pv 2) (au rD (au cq (pv 4) (au bY (aH (aP (K:=K) rfl) (by rfl) T.fG PySem.boot_len (aa (pv 2) ae)) ag)) ag) (λ_ _=>rfl)) ae)))) aV)
  (ai (aA (i:=4) ff.nd rfl (by walk_at "o") (au uq (pv 4) (au bY (aH (aP (K:=K) rfl) (by rfl) T.fG PySem.boot_len (aa (pv 2) ae)) ag))))))
  (ai (aB (pv 5)))))) aV)
  (af (aA (i:=7) ff.nd rfl (by walk_at "o") (au cq (aj (cA T) ι T.bF T.bj (aa (pv 0) (aa (pv 1) ae))) ag))
  (ai (aB (cy (osc:=ah jG) (ON:=["_law_cell_here","_law_start","_law_names","_law_digits","_law_left","_law_found","_law_k","_law_many"]) (N:=n21) (n:=1) (fx:=[2,0,1]) rfl rfl rfl (by decide +kernel) (cV (by rfl) T.gC (aa (pv 7) ae)) (aS (by decide)) (λ_ _ _ _ _=>⟨(aw (i:=0) (show List.Nodup (n21:List Str) from by decide +kernel) rfl (by walk_at "o")),(iZ (aI (xF (K:=K) rfl θ) (pv 1) (cw ae) (aQ _))),(aD (aL (K:=K) rfl) (pv 1) (au cq (aj (cA T) ι T.bF T.bj (aa (pv 2) (aa (au bY (au bY (pv 3) ag) (pv 0)) ae))) (aH (aP (K:=K) rfl) (by rfl) T.fG PySem.boot_len (aa (pv 1) ae))) (λ_ _=>rfl))⟩))))))),ar (σ':=[some _,some _,some _,some _,none,none,none,none]) rfl ?_⟩
 have γ:(0:Int) < ((((zs.map V.str).length:Nat):Int) + 1) ^ (4:Int).toNat:=Int.pow_pos (by omega);have δ:(0:Int) < (((zs.map V.str).length:Nat):Int) + 1:=by omega
 walk_at "l2";cases dg with
 | true=>
   walk_at "l2";generalize c % ((((zs.map V.str).length:Nat):Int) + 1) ^ (4:Int).toNat=left;clear γ;intro D H1 τ ρ e1;have hl1:=ρ.get hl;walk_at "l2";refine km (λi σ H'=>∃(v:Option V) (left:Int) (ws:List Str),σ=[some (V.int c),some (V.int st),some (V.ref l),some (V.bl true),some (V.int left),some (V.ref D),v,none]/\Same H H'/\H' D=some (.lst (ws.map V.str))/\ws.length<=i/\∀w∈ws,w∈zs) ⟨none,left,[],rfl,ρ,e1,le_refl _,λ_ h=>absurd h (by simp)⟩ ?_ ?_
   ·rintro i σ H' hi ⟨v,left,ws,rfl,s',Z,lw,hw⟩;have ε:=s'.get hl;have ω:i < 4:=hi;walk_at "l2";refine L2.s_cut (fun σ H2=>∃L:List Str,σ=[some (V.int c),some (V.int st),some (V.ref l),some (V.bl true),some (V.int left),some (V.ref D),some (V.int (0 + (i:Int))),none]/\Same H H2/\H2 D=some (.lst (L.map V.str))/\L.length<=i + 1/\∀w∈L,w∈zs) ?_ ?_
    ·have r0:=Int.emod_nonneg left (Int.ne_of_gt δ);have r1:=Int.emod_lt_of_pos left δ;walk_at "l2";by_cases β:0 < left % ((((zs.map V.str).length:Nat):Int) + 1)
     ·refine kK (decide_eq_true β) ?_;obtain⟨j,ν⟩:=Int.eq_ofNat_of_zero_le (show 0<=left % ((((zs.map V.str).length:Nat):Int) + 1) - 1 by omega);have G:j < zs.length:=by omega
      have ξ:atI (zs.map V.str) (left % ((((zs.map V.str).length:Nat):Int) + 1) - 1)=some (.str zs[j]):=by
       rw[ν];exact fI (by rw[getElem?_map,getElem?_eq_getElem G];rfl)
      walk_at "l2";refine fg Z (by rw[length_map,sizeLine_eq];omega) λH3 π=>?_;walk_at "l2";refine⟨ws++[zs[j]],rfl,λb o e=>π.oth _ _ (ao e τ) (s'.get e),by rw[π.at',map_append];rfl,by rw[length_append];show _ + 1<=_;omega,λw O=>?_⟩;rcases mem_append.mp O with h | h
      ·exact hw w h
      ·rw[mem_singleton.mp h];exact getElem_mem G
     ·refine ie (decide_eq_false β) ?_;walk_at "l2";exact⟨ws,rfl,s',Z,by omega,hw⟩
    ·rintro σ H2 ⟨L,rfl,α,Y,ζ,O⟩;have hl2:=α.get hl;walk_at "l2";exact⟨_,_,L,rfl,α,Y,ζ,O⟩
   ·rintro σ H' ⟨v,left,ws,rfl,s',Z,lw,hw⟩;walk_at "l2";exact q D H' ws τ s' Z lw hw
 | false=>
   have m0:=Int.emod_nonneg (mixV c st) (show(5:Int)≠0 by decide);have m1:=Int.emod_lt_of_pos (mixV c st) (show(0:Int) < 5 by decide);walk_at "l2";intro D ο;refine gh (λi ys H'=>∃ws:List Str,ys=ws.map V.str/\Same H H'/\H' D=some (.lst ys)/\ws.length<=i/\∀w∈ws,w∈zs) ⟨[],rfl,bh ο,ay,le_refl _,λ_ h=>absurd h (by simp)⟩ ?_ ?_
   ·rintro i ys H' hi ⟨ws,rfl,s',Z,lw,hw⟩;have ε:=s'.get hl;walk_at "l2";intro L2 H2 f2 α e2;have hl2:=α.get ε;have Y:=α.get Z;refine Jh (xv hl2) (xv (ws:=[]) e2) (by rw[depD,Ba];decide) ?_;rw[show(List.map Dt.str [])=[] from rfl,B3];by_cases hz:zs=[]
    ·rw[decide_eq_true hz];walk_at "l2";exact⟨s'.trans α,Y,by omega,hw⟩
    ·rw[decide_eq_false hz];have ψ:0 < zs.length:=length_pos_iff.mpr hz;have η:(0:Int) < (((zs.map V.str).length:Nat):Int):=by omega
     walk_at "l2";obtain⟨j,ν,G⟩:=fo (c:=mixV c (st + 1 + (0 + (i:Int)))) η;have G:j < zs.length:=by omega
     have ξ:atI (zs.map V.str) (mixV c (st + 1 + (0 + (i:Int))) % (((zs.map V.str).length:Nat):Int))=some (.str zs[j]):=by
      rw[ν];exact fI (by rw[getElem?_map,getElem?_eq_getElem G];rfl)
     walk_at "l2";refine⟨Y,by rw[length_map];exact aE (by omega),ws++[zs[j]],by rw[map_append];rfl,λb o e=>?_,ay,by rw[length_append];show _ + 1<=_;omega,λw O=>?_⟩
     ·rw[aG (ao e ο)];exact α.get (s'.get e)
     ·rcases mem_append.mp O with h | h
      ·exact hw w h
      ·rw[mem_singleton.mp h];exact getElem_mem G
   ·rintro ys H' ⟨ws,rfl,s',Z,lw,hw⟩;exact q D H' ws ο s' Z (by omega) hw
end
section
variable {P:Program} {w:World} {K:PySem.W.Frag} {mg:Str->Option Value} {base:Heap} {a:Ad}
theorem ym {H:Hp} {Q:VK} {E:XK} {c k:Int} (h0:0<=k) (h1:k < 40) (q:∀H2,Same H H2->Q (.str (nmf c k)) H2):wC [.int c,.int k] H Q E:=⟨c,k,rfl,h0,h1,q⟩
local macro_rules | `(tactic| walk_at "l2step") =>`(tactic| first | (with_reducible refine cU ?_) | ((with_reducible refine' Hu ?a ?b ?_);(case a=>omega);(case b=>omega)) | ((with_reducible refine' rA ?e ?a ?_);(case e=>walk_at "l2hp");(case a=>walk_at "l2side")))
theorem AE (T:Tx K mg a):FnOk P w K mg base CX0 3 a.gZ a.wX ["_law_script","_law_start","_law_most"] (IQ K):=by
 have fu:=@cA P w K mg base a T;refine T.nC.1.okA bu λu2 A outer s H vs Q E G h=>?_;obtain⟨p,ns,st,mo,rfl,hS,t1,t2,q⟩:=h;have p8:=qx G
 refine⟨_,((af (aA (i:=3) bu.nd rfl (by walk_at "o") (aj (eI T) G T.fU T.df (aa (pv 0) (aa (pv 1) ae))))
  (af (aA (i:=4) bu.nd rfl (by walk_at "o") (cw (aa (au cq (aj fu G T.bF T.bj (aa (pv 3) (aa ag ae))) ag) (aa (au cq (aj fu G T.bF T.bj (aa (pv 3) (aa ag ae))) (au bY (pv 2) ag)) (aa (au cq (aj fu G T.bF T.bj (aa (pv 3) (aa ag ae))) (au bY (pv 2) ag)) ae)))))
  (af (dI (osc:=ah iO) (ON:=n20) (N:=n18) (n:=1) (fx:=[3]) (i:=5) bu.nd rfl rfl rfl rfl rfl rfl (by decide +kernel) (cV (by rfl) T.gC (aa (aD (aL (K:=K) rfl) (pv 4) ag (λ_ _=>rfl)) ae)) (aS (by decide)) (λ_ _ _ _ _=>⟨(aw (i:=0) (show List.Nodup (n18:List Str) from by decide +kernel) rfl (by walk_at "o")),bB,(aj (jI T) G T.je T.dY (aa (pv 1) (aa (pv 0) ae)))⟩))
  (af (dI (osc:=ah iO) (ON:=n20) (N:=n18) (n:=1) (fx:=[3]) (i:=6) bu.nd rfl rfl rfl rfl rfl rfl (by decide +kernel) (cV (by rfl) T.gC (aa (aD (aL (K:=K) rfl) (pv 4) ag (λ_ _=>rfl)) ae)) (aS (by decide)) (λ_ _ _ _ _=>⟨(aw (i:=0) (show List.Nodup (n18:List Str) from by decide +kernel) rfl (by walk_at "o")),bB,(aj (jI T) G T.je T.dY (aa (pv 1) (aa (au bY ag (pv 0)) ae)))⟩))
  (af (aA (i:=7) bu.nd rfl (by walk_at "o") (au i5 (pv 5) (pv 6)))
  (af (aA (i:=8) bu.nd rfl (by walk_at "o") (cw ae))
  (af (dz PassesOwn.never rfl (cV (by rfl) T.gC (aa (aD (aL (K:=K) rfl) (pv 4) ag (λ_ _=>rfl)) ae)) (aw (i:=9) bu.nd rfl (by walk_at "o")) (af (aA (i:=10) bu.nd rfl (by walk_at "o") (aj (xG T) G T.zi T.jP (aa (aj (eI T) G T.fU T.df (aa (pv 0) (aa (au bY (au bY (pv 1) ag) (pv 9)) ae))) (aa ag (aa (pv 7) (aa (fF fK (au cq (pv 3) ag) ag (aQ _)) ae))))))
  (af (be (d2 (K:=K) rfl PySem.F.plainAttrs_list PySem.F.slot_list_append PySem.F.type_list_append cW (pv 8) (aa (dk (aa (aj (jI T) G T.je T.dY (aa (pv 3) (aa (au bY ag (pv 9)) ae))) (aa (pv 10) ae))) ae)))
  (ai (aA (i:=7) bu.nd rfl (by walk_at "o") (au i5 (pv 7) (cw (aa (aj (jI T) G T.je T.dY (aa (pv 3) (aa (au bY ag (pv 9)) ae))) ae))))))))
  (af (aA (i:=11) bu.nd rfl (by walk_at "o") (au cq (aj fu G T.bF T.bj (aa (pv 3) (aa ag ae))) (au bY (aH (aP (K:=K) rfl) (by rfl) T.fG PySem.boot_len (aa (pv 8) ae)) ag)))
  (af (aA (i:=8) bu.nd rfl (by walk_at "o") (au i5 (kT (kG (K:=K) rfl) (pv 8) (mm (pv 11)) qz) (C7 (by rfl) (by rfl) T.kh T.Dz rfl (kT (kG (K:=K) rfl) (pv 8) qz (mm (pv 11))))))
  (af (aA (i:=12) bu.nd rfl (by walk_at "o") (cw ae))
  (af (dz PassesOwn.never rfl (ph (K:=K) rfl (by rfl) T.eK (pv 6)) (yN rfl (dm (aw (i:=9) bu.nd rfl (by walk_at "o")) (dm (aw (i:=13) bu.nd rfl (by walk_at "o")) mn))) (ai (be (d2 (K:=K) rfl PySem.F.plainAttrs_list PySem.F.slot_list_append PySem.F.type_list_append cW (pv 12) (aa (dk (aa (pv 13) (aa (aD (aL (K:=K) rfl) (pv 7) (au cq (aj fu G T.bF T.bj (aa (pv 3) (aa (au bY ag (pv 9)) ae))) (aH (aP (K:=K) rfl) (by rfl) T.fG PySem.boot_len (aa (pv 7) ae))) (λ_ _=>rfl)) ae))) ae)))))
  (af (aA (i:=14) bu.nd rfl (by walk_at "o") (cw ae))
  (F2 (cG (aI (xF (K:=K) rfl p8) (pv 7) (cw ae) (aQ _)) (ai (dI (osc:=ah iO) (ON:=n20) (N:=["_law_k","_law_known","_law_cell_here"]) (n:=1) (fx:=[7,3]) (i:=14) bu.nd rfl rfl rfl rfl rfl rfl (by decide +kernel) (cV (by rfl) T.gC (aa (au cq (aj fu G T.bF T.bj (aa (pv 3) (aa ag ae))) ag) ae)) (aS (by decide)) (λ_ _ _ _ _=>⟨(aw (i:=0) (show List.Nodup (["_law_k","_law_known","_law_cell_here"]:List Str) from by decide +kernel) rfl (by walk_at "o")),bB,(aD (aL (K:=K) rfl) (pv 1) (au cq (aj fu G T.bF T.bj (aa (pv 2) (aa (au bY ag (pv 0)) ae))) (aH (aP (K:=K) rfl) (by rfl) T.fG PySem.boot_len (aa (pv 1) ae))) (λ_ _=>rfl))⟩))) aV)
  (ai (aB (dk (aa (pv 5) (aa (pv 8) (aa (pv 12) (aa (pv 14) ae))))))))))))))))))))),ar (σ':=[some _,some _,some _,none,none,none,none,none,none,none,none,none,none,none,none]) rfl ?_⟩
 walk_at "l2";generalize t7:cell ns ((st:Nat):Int)=c at *
 intro Z H1 f1 s1 e1;obtain⟨ξ,j0,o0⟩:=fo (c:=mixV c 1) (m:=4) (by decide);obtain⟨ν,i4,n9⟩:=fo (c:=mixV c 2) (m:=(mo:Int) + 1) (by omega);obtain⟨nz,i3,n8⟩:=fo (c:=mixV c 3) (m:=(mo:Int) + 1) (by omega);rw[j0,i4,i3] at e1;have υ:ξ<=3:=by omega
 have c3:ν<=12:=by omega
 have c2:nz<=12:=by omega
 have h6:nz<=mo:=by omega
 have j4:=Same.seq s1 hS;clear j0 i4 i3 o0 n9 n8;walk_at "l2";intro D2 f2;refine gh (λi ys H'=>Cs (λi ys=>ys=(nms c 0 i).map V.str) H1 D2 i ys H') (Cs.zero f2 rfl) (λi ys H' hi α=>?_) (λys H2 α=>?_)
 ·have t6:i < 3:=by omega
  walk_at "l2";refine ym (by omega) (by omega) λH3 s3=>?_;refine Cs.put f2 (α.same.trans s3) (s3.get α.at') α.len (by omega) ?_;rw[α.pv,pH,map_append,show(0:Int) + (i:Int)=((0 + i:Nat):Int) by push_cast;rfl];rfl
 ·have e2:=α.at';rw[α.pv,Int.toNat_natCast] at e2;have L:=α.same;clear α;have Y:=L.get e1;walk_at "l2";intro D3 f0;refine gh (λi ys H'=>Cs (λi ys=>ys=(nms c 6 i).map V.str) H2 D3 i ys H') (Cs.zero f0 rfl) (λi ys H' hi α=>?_) (λys H3 α=>?_)
  ·have q1:i < 12:=by omega
   walk_at "l2";refine ym (by omega) (by omega) λH4 s4=>?_;refine Cs.put f0 (α.same.trans s4) (s4.get α.at') α.len (by omega) ?_;rw[α.pv,pH,map_append,show(6:Int) + (0 + (i:Int))=((6 + i:Nat):Int) by push_cast;omega];rfl
  ·have e3:=α.at';rw[α.pv,Int.toNat_natCast] at e3;have a0:=α.same;clear α;walk_at "l2";refine oy (a0.get e2) e3 (by rw[length_map,length_map,eJ,eJ,sizeLine_eq];omega) λD4 H4 f4 s4 e4=>?_;rw[<-map_append] at e4;have a3:=L.trans (a0.trans s4);have m3:=a3.get e1;have l8:=s4.get (a0.get e2);have l5:=s4.get e3;have d4:=Same.seq a3 j4;have a6:=s1.trans a3;clear Y f2 f0 f1 f4 L a0 s4 a3 e1 e2 e3 j4 s1;walk_at "l2";intro D5 H5 f5 s5 e5;have r1:=s5.get m3;have n4:=a6.trans s5;have q3:H D5=none:=a6.free f5;walk_at "l2";refine km (λi σ H'=>∃(v9 π:Option V) (Dk:Addr) (rs:List Rw),σ=[some (V.ref p),some (nat st),some (nat mo),some (V.int c),some (V.ref Z),some (V.ref D2),some (V.ref D3),some (V.ref Dk),some (V.ref D5),v9,π,none,none,none,none]/\Same H4 H'/\H' Dk=some (.lst ((nms c 0 ξ++nms c 6 ν++nms c 22 i).map V.str))/\Dk≠D5/\H' D5=some (.lst (rs.map λr=>V.ref r.1))/\RwL H' rs/\(∀r∈rs,r.2.1≠D5)/\Mk c ξ ν (rs.map (·.2.2))/\rs.length=i) ⟨none,none,D4,[],rfl,s5,by rw[show nms c 22 0=[] from rfl,append_nil];exact s5.get e4,ao e4 f5,e5,λ_ h=>absurd h (by simp),λ_ h=>absurd h (by simp),Mk.nil ..,rfl⟩ ?_ ?_
   ·rintro i σ H' hi ⟨v9,π,Dk,rs,rfl,s',ek,nk,eD,rl,nr,mk,lr⟩;have q1:i < 12:=by omega
    have e0:=Same.seq s' d4;walk_at "l2";refine⟨_,10,Dk,_,_,rfl,by decide,by decide,ek,by rw[length_append,length_append,eJ,eJ,eJ];omega,λDw H6 ws f6 χ e6 l4 hw=>?_⟩;have b0:=χ.get eD;walk_at "l2";refine ym (by omega) (by omega) λH7 τ=>?_;walk_at "l2";intro tr H8 f8 ι ψ;have γ:=τ.trans ι;have a8:=γ.get b0;have k9:=γ.get (χ.get ek);have k6:=γ.get e6;walk_at "l2";refine fg a8 (by rw[length_map,sizeLine_eq];omega) λH9 θ=>?_;have nw:Dw≠D5:=(ao eD f6).symm;have δ:Same H4 H9:=λb o e=>θ.oth _ _ (ao e f5) (γ.get (χ.get (s'.get e)));have φ:=θ.oth _ _ nk k9;have k7:=θ.oth _ _ (b4 ψ a8 λz=>by cases z) ψ;have q6:=θ.oth _ _ nw k6;have a7:RwL H9 rs:=λr G=>⟨θ.oth _ _ (b4 ((rl.same χ).same γ r G).1 a8 λz=>by cases z) ((rl.same χ).same γ r G).1,θ.oth _ _ (nr r G) ((rl.same χ).same γ r G).2⟩;have l2:=θ.at';clear θ ψ k6 k9 a8 γ τ ι f8 b0 e6 e0;walk_at "l2";refine ym (by omega) (by omega) λr7 a5=>?_;walk_at "l2";intro n2 r5 q4 a4 g3;have ρ:=a5.trans a4;refine oy (ρ.get φ) g3 (by rw[length_map,length_append,length_append,eJ,eJ,eJ,sizeLine_eq];show _ + 1<=_;omega) λs0 g4 k4 L Y=>?_;have β:=ρ.trans L;have ei:(22:Int) + (0 + (i:Int))=((22 + i:Nat):Int):=by push_cast;omega
    rw[ei] at Y k7
    have q7:(nms c 0 ξ++nms c 6 ν++nms c 22 i).map V.str++[V.str (nmf c ((22 + i:Nat):Int))]=(nms c 0 ξ++nms c 6 ν++nms c 22 (i + 1)).map V.str:=by
     rw[pH,<-append_assoc,map_append (l₂:=[_])];rfl
    rw[q7] at Y;walk_at "l2";refine⟨_,_,s0,rs++[(tr,Dw,nmf c ((22 + i:Nat):Int),ws)],rfl,δ.trans β,Y,(ao (ρ.get l2) k4).symm,by rw[β.get l2,map_append];rfl,λr G=>?_,λr G=>?_,?_,by rw[length_append,lr];rfl⟩
    ·rcases mem_append.mp G with h | h
     ·exact a7.same β r h
     ·rw[mem_singleton] at h;subst h;exact⟨β.get k7,β.get q6⟩
    ·rcases mem_append.mp G with h | h
     ·exact nr r h
     ·rw[mem_singleton] at h;subst h;exact nw
    ·have lm:(rs.map (·.2.2)).length=i:=by rw[length_map,lr]
     have:=mk.put (ws:=ws) l4 (by rw[lm];exact hw);rw[lm] at this;rw[map_append];exact this
   ·rintro σ H' ⟨v9,π,Dk,rs,rfl,s',ek,nk,eD,rl,nr,mk,lr⟩;rw[Int.toNat_natCast] at lr;rw[Int.toNat_natCast] at ek;have b3:=s'.get l8;have l7:=s'.get l5;have e0:=Same.seq s' d4;have h0:=a6.trans s';obtain⟨j,hj,t3⟩:=fo (c:=mixV c 4) (m:=(((rs.map λr=>V.ref r.1).length:Nat):Int) + 1) (by omega);have h3:(rs.map λr=>V.ref r.1).length=rs.length:=length_map ..
    have j3:j<=rs.length:=by omega
    clear m3 l8 l5 e4 e5 d4 a6 n4 s5 f5 q3 r1;walk_at "l2";rw[hj];intro D6 H6 f6 χ e6;rw[tN _ j (by rw[h3];exact j3),<-map_drop] at e6;have b0:=χ.get eD;walk_at "l2";refine NK ?_;walk_at "l2";intro D7 H7 f7 τ e7;rw[tM _ j (by rw[h3];exact j3),<-map_take] at e7;refine⟨D7,_,rfl,SqL.of e7,λD8 f8=>?_⟩;rw[<-List.map_reverse];have ι:=bh (o:=HO.lst ((rs.take j).reverse.map λr=>V.ref r.1)) f8;have ψ:upd H7 D8 (HO.lst ((rs.take j).reverse.map λr=>V.ref r.1)) D8=some (HO.lst ((rs.take j).reverse.map λr=>V.ref r.1)):=ay;generalize upd H7 D8 (HO.lst ((rs.take j).reverse.map λr=>V.ref r.1))=H8 at ι ψ ⊢;refine oy (ι.get (τ.get e6)) ψ (by rw[length_map,length_map,List.length_reverse,length_drop,length_take,sizeLine_eq];omega) λD9 H9 f9 s9 e9=>?_;rw[<-map_append] at e9;have δ:=χ.trans (τ.trans (ι.trans s9));have r0:=δ.get b3;have l3:=δ.get l7;have φ:=δ.get ek;have a7:=rl.same δ;have n3:=h0.trans δ
    have perm:(rs.drop j++(rs.take j).reverse).Perm rs:=by
     refine List.Perm.trans (List.Perm.append_left _ (List.reverse_perm _)) ?_;refine List.Perm.trans List.perm_append_comm ?_;rw[List.take_append_drop]
    generalize h4:rs.drop j++(rs.take j).reverse=rs' at e9 perm;have n6:RwL H9 rs':=λr G=>a7 r (perm.mem_iff.mp G);clear a7 rl ι ψ e7 f7 f8 τ e6 f6 χ s9 f9 δ b3 l7 eD b0 nr nk s' h0 e0 ek h4;walk_at "l2";intro c0 r7 q5 a5 r3;have l6:=a5.get l3;walk_at "l2";refine .inl ⟨⟨_,SqL.of l6⟩,?_⟩;have lk:(nms c 0 ξ++nms c 6 ν++nms c 22 nz).length=ξ + ν + nz:=by rw[length_append,length_append,eJ,eJ,eJ]
    generalize q0:nms c 0 ξ++nms c 6 ν++nms c 22 nz=O at φ lk;refine tK (xs:=(nms c 6 ν).map V.str) (λi σ H'=>∃(v9 ω:Option V) (qs:List Qs),σ=[some (V.ref p),some (nat st),some (nat mo),some (V.int c),some (V.ref Z),some (V.ref D2),some (V.ref D3),some (V.ref Dk),some (V.ref D9),v9,π,some (V.int j),some (V.ref c0),ω,none]/\Same H9 H'/\H' c0=some (.lst (qs.map λq=>V.ref q.1))/\QsK H' qs/\qs.map (·.2.1)=nms c 6 i/\∀q∈qs,q.2.2∈O) ⟨_,none,[],rfl,a5,r3,λ_ h=>absurd h (by simp),rfl,λ_ h=>absurd h (by simp)⟩ (λi σ H' _ ⟨_,_,_,_,s',_⟩=>SqL.of (s'.get l3)) ?_ ?_
    ·rintro i y σ H' pz H7 hy ⟨v9,ω,qs,rfl,s',eq,qk,qn,qw⟩ fp τ e7;obtain⟨z,hz,rfl⟩:=aF hy;have j1:=(List.getElem?_eq_some_iff.mp hz).1;rw[eJ] at j1
     have ez:z=nmf c ((6 + i:Nat):Int):=by
      unfold nms at hz;rw[getElem?_map,getElem?_range j1] at hz;exact(Option.some.inj hz).symm
     have lq:qs.length=i:=by have:=congrArg List.length qn;rw[length_map,eJ] at this;exact this
     have u0:=τ.get (s'.get φ);have k8:(O.map V.str).length=ξ + ν + nz:=by rw[length_map,lk]
     have f3:=τ.get eq;walk_at "l2";obtain⟨m,hm,ζ⟩:=fo (c:=mixV c (50 + (i:Int))) (m:=(((O.map V.str).length:Nat):Int)) (by omega);have ζ:m < O.length:=by rw[length_map] at ζ;omega
     have q2:atI (O.map V.str) (mixV c (50 + (i:Int)) % (((O.map V.str).length:Nat):Int))=some (.str O[m]):=by
      rw[hm];exact fI (by rw[getElem?_map,getElem?_eq_getElem ζ];rfl)
     walk_at "l2";intro tq H8 f8 ι ψ;walk_at "l2";refine fg (ι.get f3) (by rw[length_map,sizeLine_eq];omega) λu4 θ=>?_;walk_at "l2";refine⟨_,_,qs++[(tq,z,O[m])],rfl,λb o e=>θ.oth _ _ (ao e q5) (ι.get (τ.get (s'.get e))),by rw[θ.at',map_append];rfl,?_,?_,λq' η=>?_⟩
     ·intro q' η;rcases mem_append.mp η with h | h
      ·exact((qk.same τ).same ι).updL (ι.get f3) θ.oth q' h
      ·rw[mem_singleton] at h;subst h;exact θ.oth _ _ (b4 ψ (ι.get f3) λz=>by cases z) ψ
     ·rw[map_append,qn,pH,ez];rfl
     ·rcases mem_append.mp η with h | h
      ·exact qw q' h
      ·rw[mem_singleton] at h;subst h;exact getElem_mem ζ
    ·rintro σ H' ⟨v9,ω,qs,rfl,s',eq,qk,qn,qw⟩;rw[length_map,eJ] at qn;have q8:=s'.get φ;have b3:=s'.get r0;have q9:=s'.get e9;have n5:=n6.same s';walk_at "l2";intro n2 r5 q4 a4 g3;walk_at "l2";refine L2.s_cut (fun σ H2=>∃(Do:Addr) (outs:List Str),σ=[some (V.ref p),some (nat st),some (nat mo),some (V.int c),some (V.ref Z),some (V.ref D2),some (V.ref D3),some (V.ref Dk),some (V.ref D9),v9,π,some (V.int j),some (V.ref c0),ω,some (V.ref Do)]/\Same H' H2/\H2 Do=some (.lst (outs.map V.str))/\outs.length<=3/\∀z∈outs,z∈O) ?_ ?_
     ·have l1:=a4.get q8;walk_at "l2";intro u3 g4 k4 L Y;have c5:=L.get l1;refine Jh (xv c5) (xv (ws:=[]) Y) (by rw[depD,Ba];decide) ?_;rw[show(List.map Dt.str [])=[] from rfl,B3];have c1:=a4.trans L;have g0:=L.get g3;by_cases hz:O=[]
      ·rw[decide_eq_true hz];walk_at "l2";exact⟨n2,[],rfl,c1,g0,zero_le _,λ_ h=>absurd h (by simp)⟩
      ·rw[decide_eq_false hz];have m0:=Int.emod_nonneg (mixV c 5) (show(4:Int)≠0 by decide);have m1:=Int.emod_lt_of_pos (mixV c 5) (show(0:Int) < 4 by decide);have ο:1<=O.length:=length_pos_iff.mpr hz;have k8:(O.map V.str).length=O.length:=length_map ..
       walk_at "l2";intro n0 c4;refine gh (λi ys H2=>∃ws:List Str,ys=ws.map V.str/\Same g4 H2/\H2 n0=some (.lst ys)/\ws.length=i/\∀w∈ws,w∈O) ⟨[],rfl,bh c4,ay,rfl,λ_ h=>absurd h (by simp)⟩ ?_ ?_
       ·rintro i ys H2 hi ⟨ws,rfl,s2,eD,lw,hw⟩;have u1:=s2.get c5;have t5:i < 4:=by omega
        walk_at "l2";obtain⟨m,hm,ζ⟩:=fo (c:=mixV c (80 + (0 + (i:Int)))) (m:=(((O.map V.str).length:Nat):Int)) (by omega);have ζ:m < O.length:=by omega
        have q2:atI (O.map V.str) (mixV c (80 + (0 + (i:Int))) % (((O.map V.str).length:Nat):Int))=some (.str O[m]):=by
         rw[hm];exact fI (by rw[getElem?_map,getElem?_eq_getElem ζ];rfl)
        walk_at "l2";refine⟨eD,by rw[length_map];exact aE (by omega),ws++[O[m]],by rw[map_append];rfl,λb o e=>?_,ay,by rw[length_append,lw];rfl,λw p0=>?_⟩
        ·rw[aG (ao e c4)];exact s2.get e
        ·rcases mem_append.mp p0 with h | h
         ·exact hw w h
         ·rw[mem_singleton.mp h];exact getElem_mem ζ
       ·rintro ys H2 ⟨ws,rfl,s2,eD,lw,hw⟩;walk_at "l2";exact⟨n0,ws,rfl,c1.trans s2,eD,by omega,hw⟩
     ·rintro σ g4 ⟨Do,outs,rfl,L,Y,lo,ho⟩;have m2:=L.get b3;walk_at "l2";intro tt r4 t8 d1 r2;have ε:=L.trans d1;have ο:(rs.map (·.2.2)).length=nz:=by rw[length_map,lr]
      subst q0
      have aT:∀q'∈qs.map (·.2),q'.2∈nms c 0 ξ++nms c 6 ν++nms c 22 (rs.map (·.2.2)).length:=λq' η=>by
       obtain⟨n7,h5,rfl⟩:=mem_map.mp η;rw[ο];exact qw n7 h5
      have aO:∀z∈outs,z∈nms c 0 ξ++nms c 6 ν++nms c 22 (rs.map (·.2.2)).length:=by rw[ο];exact ho
      have aN:(qs.map (·.2)).map (·.1)=nms c 6 ν:=by rw[map_map];exact qn
      refine q tt D2 D9 c0 Do r4 rs' qs ⟨nms c 0 ξ,rs'.map (·.2.2),qs.map (·.2),outs⟩ (n3.trans (s'.trans ε)) r2 ⟨d1.get m2,ε.get q9,λr G=>n5.same ε r G,rfl,ε.get eq,λq' η=>qk.same ε q' η,rfl,d1.get Y⟩ (Gj mk υ c3 (by rw[ο];exact c2) (perm.map _) aN (by omega) aT aO) (by show(nms c 0 ξ).length<=3;rw[eJ];exact υ) (by show(rs'.map (·.2.2)).length<=mo;rw[(perm.map _).length_eq,ο];exact h6) (Mj mk υ c3 (by rw[ο];exact c2) (perm.map _) aN (by omega) aT aO)
end
section
variable {P:Program} {w:World} {K:PySem.W.Frag} {mg:Str->Option Value} {base:Heap} {a:Ad}
local macro_rules | `(tactic| walk_at "l2step") =>`(tactic| first | ((with_reducible refine' eU ?e ?_);(case e=>walk_at "l2kind")) | ((with_reducible refine' h7 ?e ?_);(case e=>walk_at "l2kind")) | (with_reducible refine cU ?_) | (with_reducible refine fB ?_))
theorem xH (T:Tx K mg a):FnOk P w K mg base CX0 2 a.eQ a.oX ["_law_cell_here","_law_k"] Fp:=by
 refine T.dY.1.okA dG fun γ A outer s H vs Q E L h=>?_;obtain⟨c,rfl,q⟩:=h
 refine⟨_,((af (aA (i:=2) dG.nd rfl (by walk_at "o") bq)
  (af (aA (i:=3) dG.nd rfl (by walk_at "o") bq)
  (af (aA (i:=3) dG.nd rfl (by walk_at "o") (au mX (pv 3) bq))
  (af (cG (PW.pt (BH (aI Da (pv 1) ag (aQ _)) (xx (aI fK (au cq (aj (cA T) L T.bF T.bj (aa (pv 0) (aa ag ae))) ag) ag (aQ _))))) (ai (aB (aD (aL (K:=K) rfl) (d2 (K:=K) rfl PySem.F.plainAttrs_str PySem.F.slot_str_split PySem.F.type_str_split tI (pv 3) (aa bq ae)) (au cq (au bY (pv 1) (aj (cA T) L T.bF T.bj (aa (pv 0) (aa ag ae)))) ag) (λ_ _=>rfl)))) aV)
  (ai (aB (au mX (aD GJ (pv 2) (au cq (aj (cA T) L T.bF T.bj (aa (pv 0) (aa ag ae))) ag) (λ_ _=>rfl)) (bw rP (by rfl) T.Mh PyProof.Rows.boot_str (aa (au bY (au cq (aj (cA T) L T.bF T.bj (aa (pv 0) (aa ag ae))) ag) (au mw ag (pv 1))) ae)))))))))),ar (σ':=[some _,some _,none,none]) rfl ?_⟩
 walk_at "l2";refine⟨by decide +kernel,?_⟩;walk_at "l2";generalize hw:((_:Str)++_)=words;have hm:=Int.emod_lt_of_pos (mixV c 400) (show(0:Int) < 26 by decide);have O:=Int.emod_nonneg (mixV c 400) (show(26:Int)≠0 by decide);have α:=Int.emod_lt_of_pos (mixV c 401) (show(0:Int) < 1000 by decide);have β:=Int.emod_nonneg (mixV c 401) (show(1000:Int)≠0 by decide);refine⟨c,400,rfl,by decide,by decide,?_⟩;walk_at "l2";refine LK (by decide +kernel) (wL _ O hm) ?_;walk_at "l2";refine⟨c,401,rfl,by decide,by decide,?_⟩;walk_at "l2";have hn:(mixV c 401 % 1000 + 37 * 90).natAbs < 10 ^ 4:=by omega
 have G:(mixV c 401 % 1000 + 37 * 90).natAbs.log2 < 1920:=by
  exact(log2_lt (by omega)).mpr (lt_of_lt_of_le hn (le_trans (by decide:10 ^ 4<=2 ^ 14) (pow_le_pow_right (by decide) (by decide))))
 have Z:=PyProof.Rows.int_text_len_1921 G;refine⟨G,?_⟩;refine⟨_,_,rfl,rfl,by rw[sizeLine_eq];have:(⟨#[97 + (mixV c 400 % 26).toNat]⟩:Str).length=1:=rfl;omega,?_⟩;have e:(mixV c 401 % 1000 + 37 * 90)=(((mixV c 401 % 1000).toNat + 3330:Nat):Int):=by omega
 have Y:=q H (Same.refl _);unfold nm9 at Y;rw[e];exact Y
end
section
variable {P:Program} {w:World} {K:PySem.W.Frag} {mg:Str->Option Value} {base:Heap} {a:Ad}
local macro_rules | `(tactic| walk_at "l2step") =>`(tactic| first | ((with_reducible refine' eU ?e ?_);(case e=>walk_at "l2kind")) | ((with_reducible refine' h7 ?e ?_);(case e=>walk_at "l2kind")) | (with_reducible refine cU ?_) | (with_reducible refine fB ?_))
theorem JR (ws:List Str):eqD (.lst (ws.map strD)) (.lst [])=decide (ws=[]):=by
 cases ws with
 | nil=>rfl
 | cons w l=>rw[decide_eq_false (by simp)];rfl
local macro_rules | `(tactic| walk_at "l2step") =>`(tactic| first | (with_reducible refine FF ?_) | ((with_reducible refine' rA ?e ?a ?_);(case e=>walk_at "l2hp");(case a=>walk_at "l2side")))
theorem OI (T:Tx K mg a):FnOk P w K mg base CX0 16 a.DY a.Po ["_law_script"] (By K):=by
 refine T.J8.okA o4 λl8 A outer s H vs Q E α h=>?_;obtain⟨p0,ns,rfl,hS,j0,q⟩:=h;have l4:=BY α;have c0:=qx α
 refine⟨_,((af (aA (i:=1) o4.nd rfl (by walk_at "o") (aj (AE T) α T.DW T.nC (aa (pv 0) (aa ag (aa ag ae)))))
  (af (aA (i:=2) o4.nd rfl (by walk_at "o") (aj (AB T) α T.DU T.nv (aa (aj (AA T) α T.DT T.nu (aa (j5 T.J6 (gy T) (α.mono (by decide)) (by rfl) T.JM T.di.2 .nil bO (aa (aD (av (K:=K) rfl) (pv 1) ag (λ_ _=>rfl)) (aa (aD (av (K:=K) rfl) (pv 1) ag (λ_ _=>rfl)) (aa (aD (av (K:=K) rfl) (pv 1) ag (λ_ _=>rfl)) (aa (aD (av (K:=K) rfl) (pv 1) ag (λ_ _=>rfl)) ae))))) ae)) ae)))
  (af (cG (aI (xF (K:=K) rfl c0) (bf (pv 2) T.bX T.wK (uv T) (α.mono (by decide)) T.iT.2 .nil bO) (bf (j5 T.J6 (gy T) (α.mono (by decide)) (by rfl) T.JM T.di.2 .nil bO (aa (aD (av (K:=K) rfl) (pv 1) ag (λ_ _=>rfl)) (aa (aD (av (K:=K) rfl) (pv 1) ag (λ_ _=>rfl)) (aa (aD (av (K:=K) rfl) (pv 1) ag (λ_ _=>rfl)) (aa (aD (av (K:=K) rfl) (pv 1) ag (λ_ _=>rfl)) ae))))) T.bX T.wK (uv T) (α.mono (by decide)) T.iT.2 .nil bO) (aQ _)) (ai (aB pA)) aV)
  (af (dz PassesOwn.never rfl (aU (K:=K) rfl (cw (aa ag (aa ag (aa ag ae))))) (aw (i:=3) o4.nd rfl (by walk_at "o")) (ai (cG (gx (eu (aj (kc T) α T.lG T.d6 (aa (pv 2) (aa (pv 0) (aa (pv 3) ae)))))) (ai (aB pA)) aV)))
  (af (aA (i:=4) o4.nd rfl (by walk_at "o") (bf (pv 2) T.bX T.lE (ke T) (α.mono (by decide)) T.cS.2 .nil bO))
  (af (dz PassesOwn.never rfl (Ax (K:=K) rfl (by rfl) T.eK (au i5 (kT (kG (K:=K) rfl) (pv 0) (mm ag) (mm ag)) (cw (aa ag ae)))) (yN rfl (dm (aw (i:=5) o4.nd rfl (by walk_at "o")) (dm (aw (i:=6) o4.nd rfl (by walk_at "o")) mn))) (af (aA (i:=7) o4.nd rfl (by walk_at "o") (aj (xH T) α T.je T.dY (aa (pv 6) (aa ag ae))))
  (ai (cG (PW.pt (BH (aI (xF (K:=K) rfl c0) (pv 4) (cw ae) (aQ _)) (xx (aI (yQ (K:=K) rfl) (pv 7) (pv 4) (by rfl))))) (af (aA (i:=8) o4.nd rfl (by walk_at "o") (aj (OJ T) α T.Qw T.J9 (aa (pv 2) (aa (aD (aL (K:=K) rfl) (pv 4) (au cq (pv 6) (aH (aP (K:=K) rfl) (by rfl) T.fG PySem.boot_len (aa (pv 4) ae))) (λ_ _=>rfl)) (aa (pv 7) ae)))))
  (ai (cG (gx (eu (aj (kc T) α T.lG T.d6 (aa (pv 8) (aa (pv 0) (aa (au bY ag (au mw ag (pv 5))) ae)))))) (ai (aB pA)) aV))) aV))))
  (ai (aB pA))))))))),ar (σ':=[some _,none,none,none,none,none,none,none,none]) rfl ?_⟩
 walk_at "l2";refine⟨p0,ns,0,6,rfl,hS,by decide,by decide,λt i s u o H1 rs qs N s1 et hn g l3 l1 k6=>?_⟩;have g3:=Same.seq s1 hS;walk_at "l2";intro x dx H2 f2 s2 e2;refine⟨x,dx,i,s,u,o,rs,qs,N,rfl,e2,hn.same s2,g,λH3 f3 k3 b0=>⟨rfl,?_⟩⟩;have β:Same H1 H3:=λb ob e=>k3 _ _ (ao e f2) (s2.get e);clear k3 e2 s2 f2;have fm:=BF g;have l2:=yH g;have eN:=Dy N;walk_at "l2";refine⟨x,N,f3,rfl,b0,λH4 s4=>?_⟩;walk_at "l2";refine⟨qv N,rfl,fm,by omega,by rw[eN];exact g,λn1 H5 od f5 s5 na=>?_⟩;rw[eN] at na;have f1:=β.trans (s4.trans s5);obtain⟨_,_,_,_,_,_,_,_,_,_,hp,_⟩:=na.ho;clear b0 β s4 s5 f5;walk_at "l2";refine aC hp rfl ?_;walk_at "l2";refine⟨n1,N,od,rfl,na,λtA D1 D2 D3 D4 H6 j3 k4 _ _ _ _ _ s6 a6=>?_⟩;have L:=f1.trans s6;have h5:=L.get et;walk_at "l2";intro x2 h6 H7 f7 s7 e7;refine⟨x2,h6,i,s,u,o,rs,qs,N,rfl,e7,(hn.same L).same s7,g,λH8 a3 k8 γ=>⟨rfl,?_⟩⟩;have a7:Same H6 H8:=λb ob e=>k8 _ _ (ao e f7) (s7.get e);obtain⟨_,_,_,_,_,_,_,_,_,_,c1,_⟩:=γ.ho;clear k8 e7 s7 f7;walk_at "l2";refine aC c1 rfl ?_;walk_at "l2";refine⟨x2,N,a3,rfl,γ,λtB D5 D6 D7 D8 H9 j1 j4 _ _ _ _ _ s9 a5=>?_⟩;have θ:=a7.trans s9;refine Jh (a6.same θ).rep a5.rep (MH _) ?_;rw[B2];have e5:=s6.trans θ;have f4:=na.same e5;have g0:=Same.seq (L.trans θ) g3;clear a6 a5 θ a7 s9 γ c1 h5 L s6 hp;walk_at "l2";intro Ls e4 h4 a0 η;have η:e4 Ls=some (.lst (([8,13,18]:List Nat).map nat)):=η;have Y:∀y∈([8,13,18]:List Nat),y<=100:=by decide
 generalize ([8,13,18]:List Nat)=ones at η Y;have δ:=f4.same a0;have ζ:=Same.seq a0 g0;walk_at "l2";refine gF (xs:=ones.map nat) (λj σ H'=>∃v3,σ=[some (.ref p0),some (.ref t),some (.ref n1),v3,none,none,none,none,none]/\Same e4 H') ⟨none,rfl,Same.refl _⟩ (λj σ H' _ ⟨_,_,s'⟩=>SqL.of (s'.get η)) ?_ ?_
 ·rintro j v σ i4 hv ⟨v3,rfl,O⟩;obtain⟨y,hy,rfl⟩:=aF hv;walk_at "l2";refine⟨n1,p0,N,od,ns,y,rfl,δ.same O,Same.seq O ζ,Y y (mem_of_getElem? hy),λi3 ι=>?_⟩;walk_at "l2";exact O.trans ι
 ·rintro σ i4 ⟨v3,rfl,O⟩;have Z:=δ.same O;have ψ:=Same.seq O ζ;obtain⟨_,_,_,_,_,_,_,_,_,_,φ,_⟩:=Z.ho;clear δ ζ η Y O a0 h4;walk_at "l2";refine aC φ rfl ?_;walk_at "l2";refine⟨n1,N,od,rfl,Z,λDn i3 l7 ι e1=>?_⟩;have υ:=Z.same ι;have χ:=Same.seq ι ψ;walk_at "l2"
  obtain⟨zs,f8,k9⟩:∃zs:List Int,cutV (ns.map V.int) (some 23) (some 27)=zs.map V.int/\zs.length<=4:=by
   have hl:(cutV (ns.map V.int) (some 23) (some 27)).length<=4:=by
    unfold cutV;rw[length_take];have h1:=HT.sIx_nat (ns.map V.int).length (ns.map V.int).length 27;have h2:=HT.sIx_nat (ns.map V.int).length 0 23;have h1:HT.sIx (ns.map V.int).length (ns.map V.int).length (some 27)=min 27 (ns.map V.int).length:=h1;have h2:HT.sIx (ns.map V.int).length 0 (some 23)=min 23 (ns.map V.int).length:=h2;rw[h1,h2];omega
   have:∃zs:List Int,cutV (ns.map V.int) (some 23) (some 27)=zs.map V.int:=by
    unfold cutV;rw[<-map_drop,<-map_take];exact⟨_,rfl⟩
   obtain⟨zs,e⟩:=this;rw[e,length_map] at hl;exact⟨zs,e,hl⟩
  rw[f8];intro La n3 h3 β e0;walk_at "l2";intro Lb n0 h0 ω d4;walk_at "l2";refine oy (ω.get e0) d4 (by rw[length_map];exact le_of_lt (aE (by show zs.length + 1<=1000;omega))) λLc e3 g4 π ο=>?_;have ο:e3 Lc=some (.lst ((zs++[2]).map V.int)):=by rw[ο,map_append];rfl
  have G:=(β.trans ω).trans π;have a8:=υ.same G;have c3:=Same.seq G χ;have d1:=G.get e1;have k7:(zs++[2]).length<=5:=by rw[length_append];show zs.length + 1<=5;omega
  clear υ χ Z ψ φ G π ω β h3 h0 g4 e0 d4 e1;refine .inl ⟨Lc,rfl,⟨_,SqL.of ο⟩,?_⟩;refine tK (xs:=(zs++[2]).map V.int) (λj σ H'=>∃(v5 v6 v7 v8:Option V),σ=[some (.ref p0),some (.ref t),some (.ref n1),v3,some (.ref Dn),v5,v6,v7,v8]/\Same e3 H') ⟨none,none,none,none,rfl,Same.refl _⟩ (λj σ H' _ ⟨_,_,_,_,_,s'⟩=>SqL.of (s'.get ο)) ?_ ?_
  ·rintro j v σ H' p1 m3 hv ⟨v5,v6,v7,v8,rfl,L⟩ fp sp ep;obtain⟨c,hc,rfl⟩:=aF hv;have hj:=(List.getElem?_eq_some_iff.mp hc).1;have f0:=L.trans sp;walk_at "l2";refine⟨c,rfl,λm2 e9=>?_⟩;have τ:=f0.trans e9;have c5:=τ.get d1;walk_at "l2";intro Bx Hx fx sx ex;have ν:=τ.trans sx;have c4:=sx.get c5;refine Jh (xw c4) (Rep.lst (ds:=[]) (SqL.of ex) rfl λi x d h=>by simp at h) (by unfold depD;rw[pQ];decide) ?_;rw[JR];by_cases ε:N.names=[]
   ·refine⟨false,by rw[decide_eq_true ε];rfl,?_⟩;rw[if_neg (by decide),if_neg (by decide)];exact⟨_,_,_,_,rfl,ν⟩
   refine⟨true,by rw[decide_eq_false ε];rfl,?_⟩;rw[if_pos rfl];walk_at "l2";refine⟨Dn,_,rfl,.inl (SqL.of c4),rfl,by rw[all_eq_true];intro x hx;obtain⟨y,_,rfl⟩:=mem_map.mp hx;rfl,?_⟩;refine⟨_,rfl,?_⟩;by_cases hz:nm9 c∈N.names
   ·have a4:(if true=true then !inV (V.str (nm9 c)) (N.names.map V.str) else inV (V.str (nm9 c)) (N.names.map V.str))=false:=by rw[if_pos rfl,A2.mpr hz];rfl
    rw[if_neg (by rw[a4];decide)];exact⟨_,_,_,_,rfl,ν⟩
   have a4:(if true=true then !inV (V.str (nm9 c)) (N.names.map V.str) else inV (V.str (nm9 c)) (N.names.map V.str))=true:=by
    rw[if_pos rfl,Bool.not_eq_true',<-Bool.not_eq_true];exactλh=>hz (A2.mp h)
   rw[if_pos a4];have lp:0 < N.names.length:=length_pos_iff.mpr ε;have f6:(0:Int) < (((N.names.map V.str).length:Nat):Int):=by rw[length_map];omega
   obtain⟨jj,f9,ξ⟩:=fo (c:=c) (m:=(((N.names.map V.str).length:Nat):Int)) f6;rw[length_map] at ξ;have ξ:jj < N.names.length:=by omega
   obtain⟨w',b3⟩:∃w',N.names[jj]=w':=⟨_,rfl⟩;have hw:w'∈N.names:=by rw[<-b3];exact getElem_mem ξ
   have l5:atI (N.names.map V.str) (c % (((N.names.map V.str).length:Nat):Int))=some (.str w'):=by
    rw[f9];exact fI (by rw[getElem?_map,getElem?_eq_getElem ξ,b3];rfl)
   walk_at "l2";refine⟨n1,N,od,w',nm9 c,rfl,a8.same ν,hw,OU c,hz,by omega,λn2 m1 a3 l6 e8 γ=>?_⟩;have ρ:=ν.trans e8;have c2:=Same.seq ρ c3;walk_at "l2";refine⟨n2,p0,cutN N w' (nm9 c),a3,ns,27 + 5 * j,?_,γ,c2,by omega,λm0 e6=>?_⟩
   ·show _=[V.ref n2,V.ref p0,V.int ((27 + 5 * j:Nat):Int)];push_cast;rfl
   walk_at "l2";exact⟨_,_,_,_,rfl,ρ.trans e6⟩
  ·rintro σ H' ⟨v5,v6,v7,v8,rfl,L⟩;walk_at "l2";exact q _
end
open PySem.W in
theorem all_mk {l:OpenLaw} {w:World} {K:Frag} {h:Heap} {mg:Str->Option Value} {fa:Addr} (X:K.In h) (G:h.Ns mainGlobals mg) (hfa:mg "law"=some (.ref fa))
  {fi:Addr}
  {hX:Addr}
  {jr:Addr}
  {vh:Addr}
  {jv:Addr}
  {jl:Addr}
  {gR:Addr}
  {gS:Addr}
  {bJ:Addr}
  {bR:Addr}
  {dU:Addr}
  {bS:Addr}
  {jf:Addr}
  {oW:Addr}
  {oU:Addr}
  {jh:Addr}
  {dN:Addr}
  {jt:Addr}
  {ju:Addr}
  {cu:Addr}
  {bz:Addr}
  {cZ:Addr}
  {cE:Addr}
  {bo:Addr}
  {cC:Addr}
  {b7:Addr}
  {a9:Addr}
  {bQ:Addr}
  {bI:Addr}
  {dQ:Addr}
  {dR:Addr}
  {eO:Addr}
  {dO:Addr}
  {cP:Addr}
  {oS:Addr}
  {jk:Addr}
  {cc:Addr}
  {cb:Addr}
  {b9:Addr}
  {bL:Addr}
  {bT:Addr}
  {fk:Addr}
  {bK:Addr}
  {cD:Addr}
  {bg:Addr}
  {jq:Addr}
  {dP:Addr}
  {kZ:Addr}
  {eM:Addr}
  {bp:Addr}
  {bN:Addr}
  {aW:Addr}
  {cf:Addr}
  {bM:Addr}
  {mK:Addr}
  {rX:Value}
  {rW:Option Addr}
  {rV:Nat}
  {rT:Array (Option Value)}
  {lH:Tok}
  {sj tj:Option Addr}
  {rY:Array (Option Value)}
  {sk sX sZ se lQ tf:Value}
  {bG:Addr}
  {cj:Addr}
  {oV:Addr}
  {gT:Addr}
  {ji:Addr}
  {A8:Addr}
  {gX:Addr}
  {jg:Addr}
  {gW:Addr}
  {gU:Addr}
  {fV:Addr}
  {jm:Addr}
  {b8:Addr}
  {fj:Addr}
  {dW:Addr}
  {fX:Addr}
  {g5:Addr}
  {eR:Addr}
  {eQ:Addr}
  {eP:Addr}
  {gZ:Addr}
  {fW:Addr}
  {gY:Addr}
  {dS:Addr}
  {b5:Addr}
  {bD:Addr}
  {cB:Addr}
  {OO Px:Option Addr}
  {NC:Array (Option Value)}
  {OP O3 Pn Oy KO Pq:Value}
  {DY:Addr}
  {bA:Addr}
  (MS:NI K "Steps" bA)
  {p6:Addr}
  (PB:NI K "Wire" p6)
  {aZ:Addr}
  (J4:NI K "InWire" aZ)
  {aK:Addr}
  (HQ:NI K "SumWire" aK)
  {az:Addr}
  (Bk:NI K "StoreWire" az)
  {cv:Addr}
  (QD:NI K "Net" cv)
  {ax:Addr}
  (HR:NI K "Machine" ax)
  {fH:Addr}
  (QC:NI K "Run" fH)
  (Ew:NI K "is_whole" fi)
  (DI:FR K "is_whole" "is_whole" qm fi)
  (HL:NI K "is_mask" hX)
  (GC:FR K "is_mask" "is_mask" ui hX)
  (HK:NI K "is_name" jr)
  (GB:FR K "is_name" "is_name" o8 jr)
  (Pz:NI K "even" vh)
  (O2:FR K "even" "even" FG vh)
  (HP:NI K "bits_of" jv)
  (GF:FR K "bits_of" "bits_of" o9 jv)
  (HH:NI K "mask_of" jl)
  (Gy:FR K "mask_of" "mask_of" ug jl)
  (Ep:NI K "words_of" gR)
  (DD:FR K "words_of" "words_of" ql gR)
  (Er:NI K "unpacked" gS)
  (DE:FR K "unpacked" "unpacked" mT gS)
  (EH:FI K bA "__init__" bJ)
  (sS:FR K "__init__" "Steps.__init__" ip bJ)
  (ER:FI K bA "lowered" bR)
  (uX:FR K "lowered" "Steps.lowered" iW bR)
  (K6:FI K bA "lay" dU)
  (AY:FR K "lay" "Steps.lay" oC dU)
  (ES:FI K bA "barring" bS)
  (uY:FR K "barring" "Steps.barring" iX bS)
  (HC:NI K "sum_for" jf)
  (Gs:FR K "sum_for" "sum_for" uc jf)
  (MR:NI K "chain" oW)
  (Ms:FR K "chain" "chain" s_chain oW)
  (MP:NI K "reach" oU)
  (Mq:FR K "reach" "reach" uf oU)
  (HE:NI K "rows_at" jh)
  (Gv:FR K "rows_at" "rows_at" ue jh)
  (yn:NI K "masks_ahead" dN)
  (xV:FR K "masks_ahead" "masks_ahead" kJ dN)
  (HM:NI K "come_to" jt)
  (GD:FR K "come_to" "come_to" uj jt)
  (HN:NI K "brought" ju)
  (GE:FR K "brought" "brought" uk ju)
  (EN:FI K p6 "__init__" cu)
  (uV:FR K "__init__" "Wire.__init__" iU cu)
  (Ci:FI K aZ "__init__" bz)
  (rh:FR K "__init__" "InWire.__init__" gO bz)
  (Kc:FI K aZ "bit" cZ)
  (y9:FR K "bit" "InWire.bit" ml cZ)
  (Iq:FI K aZ "hang" cE)
  (x9:FR K "hang" "InWire.hang" kQ cE)
  (Bn:FI K aK "__init__" bo)
  (pL:FR K "__init__" "SumWire.__init__" gv bo)
  (Io:FI K aK "bit" cC)
  (x6:FR K "bit" "SumWire.bit" kO cC)
  (Ic:FI K aK "hang" b7)
  (we:FR K "hang" "SumWire.hang" jV b7)
  (z8:FI K az "__init__" a9)
  (nI:FR K "__init__" "StoreWire.__init__" fE a9)
  (EO:FI K az "bit" bQ)
  (uW:FR K "bit" "StoreWire.bit" iV bQ)
  (EG:FI K az "hang" bI)
  (sR:FR K "hang" "StoreWire.hang" il bI)
  (yq:NI K "check_sizes" dQ)
  (xZ:FR K "check_sizes" "check_sizes" iE dQ)
  (yr:NI K "check_names" dR)
  (x4:FR K "check_names" "check_names" kM dR)
  (zZ:NI K "check_wire" eO)
  (y4:FR K "check_wire" "check_wire" mi eO)
  (yo:NI K "check_wires" dO)
  (xW:FR K "check_wires" "check_wires" kL dO)
  (vB:NI K "wires_by_name" cP)
  (uU:FR K "wires_by_name" "wires_by_name" cK cP)
  (MO:NI K "waits" oS)
  (Mp:FR K "waits" "waits" xq oS)
  (HG:NI K "ordered" jk)
  (Gx:FR K "ordered" "ordered" mh jk)
  (Ii:FI K cv "__init__" cc)
  (wm:FR K "__init__" "Net.__init__" c6 cc)
  (Ih:FI K cv "in_names" cb)
  (wk:FR K "in_names" "Net.in_names" jY cb)
  (Ig:FI K cv "sum_rows" b9)
  (wj:FR K "sum_rows" "Net.sum_rows" jX b9)
  (EJ:FI K cv "store_rows" bL)
  (sU:FR K "store_rows" "Net.store_rows" ir bL)
  (ET:FI K cv "out_wires" bT)
  (uZ:FR K "out_wires" "Net.out_wires" iY bT)
  (M0:FI K cv "told" fk)
  (DO:FR K "told" "Net.told" qt fk)
  (EI:FI K cv "wire_names" bK)
  (sT:FR K "wire_names" "Net.wire_names" iq bK)
  (Ip:FI K cv "wire_of" cD)
  (x8:FR K "wire_of" "Net.wire_of" kP cD)
  (Ab:FI K cv "names_by_need" bg)
  (oQ:FR K "names_by_need" "Net.names_by_need" dH bg)
  (HJ:NI K "is_pair" jq)
  (GA:FR K "is_pair" "is_pair" uh jq)
  (yp:NI K "check_table" dP)
  (xX:FR K "check_table" "check_table" iD dP)
  (J3:NI K "is_odd" kZ)
  (JD:FR K "is_odd" "is_odd" xr kZ)
  (zY:NI K "odd_places" eM)
  (y3:FR K "odd_places" "odd_places" jF eM)
  (Bo:FI K ax "__init__" bp)
  (pM:FR K "__init__" "Machine.__init__" gw bp)
  (EL:FI K ax "stores" bN)
  (sW:FR K "stores" "Machine.stores" iw bN)
  (yz:FI K ax "check_state" aW)
  (mD:FR K "check_state" "Machine.check_state" eF aW)
  (Ij:FI K ax "step" cf)
  (wo:FR K "step" "Machine.step" jZ cf)
  (EK:FI K ax "walked" bM)
  (sV:FR K "walked" "Machine.walked" iu bM)
  (EU:FI K ax "after" bG)
  (u0:K.lookup bG=some ⟨sk,sj,.func (fnOf "after" "Machine.after" (g6 dy) (eT dy) (ah dy) (.ref mK) sX sZ se tj lQ tf),rY⟩)
  (sP:K.lookup mK=some ⟨rX,rW,.seq #[.int 0 lH] rV,rT⟩)
  (vz:codeIn K lQ "Machine.after"=true)
  (mr:keepIn K (.ref bG)=true)
  (Ik:FI K ax "back" cj)
  (wt:FR K "back" "Machine.back" j2 cj)
  (MQ:NI K "hangs" oV)
  (Mr:FR K "hangs" "hangs" Au oV)
  (Es:NI K "table_of" gT)
  (DF:FR K "table_of" "table_of" kb gT)
  (HF:NI K "put_for" ji)
  (Gw:FR K "put_for" "put_for" o6 ji)
  (QB:NI K "cut" A8)
  (Qv:FR K "cut" "cut" s_cut A8)
  (Ex:NI K "has_form" gX)
  (DJ:FR K "has_form" "has_form" mU gX)
  (HD:NI K "rows_of" jg)
  (Gu:FR K "rows_of" "rows_of" ud jg)
  (Eu:NI K "read_net" gW)
  (DH:FR K "read_net" "read_net" gb gW)
  (Et:NI K "show_net" gU)
  (DG:FR K "show_net" "show_net" fZ gU)
  (Bg:NI K "turn_bits" fV)
  (AU:FR K "turn_bits" "turn_bits" ou fV)
  (HI:NI K "mask_at" jm)
  (Gz:FR K "mask_at" "mask_at" o7 jm)
  (Ie:FI K fH "__init__" b8)
  (wg:FR K "__init__" "Run.__init__" jW b8)
  (MZ:FI K fH "step" fj)
  (DN:FR K "step" "Run.step" mW fj)
  (K7:FI K fH "state" dW)
  (AZ:FR K "state" "Run.state" oE dW)
  (Bj:NI K "_law_cell" fX)
  (AX:FR K "_law_cell" "_law_cell" oB fX)
  (EA:NI K "_law_mix" g5)
  (DM:FR K "_law_mix" "_law_mix" qr g5)
  (z4:NI K "_law_masks" eR)
  (y8:FR K "_law_masks" "_law_masks" mj eR)
  (Bi:NI K "_law_name" eQ)
  (AW:FR K "_law_name" "_law_name" oA eQ)
  (z3:NI K "_law_wires" eP)
  (y6:FR K "_law_wires" "_law_wires" jG eP)
  (Ez:NI K "_law_net" gZ)
  (DL:FR K "_law_net" "_law_net" iO gZ)
  (Bh:NI K "_law_rows" fW)
  (AV:FR K "_law_rows" "_law_rows" oz fW)
  (Ey:NI K "_law_odd" gY)
  (DK:FR K "_law_odd" "_law_odd" qp gY)
  (yt:NI K "_law_states" dS)
  (x5:FR K "_law_states" "_law_states" kN dS)
  (rB:NI K "_law_come_right" b5)
  (rg:FR K "_law_come_right" "_law_come_right" fh b5)
  (nN:NI K "_law_brought_right" bD)
  (nH:FR K "_law_brought_right" "_law_brought_right" fC bD)
  (tz:NI K "_law_net_right" cB)
  (sQ:FR K "_law_net_right" "_law_net_right" ij cB)
  (QA:NI K "law" DY)
  (Qu:K.lookup DY=some ⟨OP,OO,.func (fnOf "law" "law" (g6 CV) (eT CV) (ah CV) .none O3 Pn Oy Px KO Pq),NC⟩)
  (Qz:codeIn K KO "law"=true)
  (Qp:keepIn K (.ref DY)=true)
  (Jt:plainGet K bA Str.empty=true)
  (Js:hasDictIn K bA=true)
  (Jr:plainOver K bA=true)
  (Jq:findIn K (.ref bA) "__setattr__"=some (some (.builtin "object.__setattr__")))
  (JW:makesIn K bA=true)
  (JV:FI K bA "__init__" bJ)
  (JU:isFn K (.ref bJ)=true)
  (JT:keepIn K (.ref bA)=true)
  (sL:FI K bA "lowered" bR)
  (sF:isFn K (.ref bR)=true)
  (yY:FI K bA "lay" dU)
  (yW:isFn K (.ref dU)=true)
  (sM:FI K bA "barring" bS)
  (sG:isFn K (.ref bS)=true)
  (vR:FN K bA "by_top")
  (oN:FN K bA "free_places")
  (pG:FN K bA "null_masks")
  (FZ:plainGet K aZ Str.empty=true)
  (FY:hasDictIn K aZ=true)
  (FX:plainOver K aZ=true)
  (FW:findIn K (.ref aZ) "__setattr__"=some (some (.builtin "object.__setattr__")))
  (Hf:makesIn K aZ=true)
  (He:FI K aZ "__init__" bz)
  (Hd:isFn K (.ref bz)=true)
  (Hc:keepIn K (.ref aZ)=true)
  (xU:FI K aZ "bit" cZ)
  (xT:isFn K (.ref cZ)=true)
  (wc:FI K aZ "hang" cE)
  (vX:isFn K (.ref cE)=true)
  (xM:FN K aZ "name")
  (uA:FN K aZ "number")
  (C4:plainGet K aK Str.empty=true)
  (C2:hasDictIn K aK=true)
  (C0:plainOver K aK=true)
  (CY:findIn K (.ref aK) "__setattr__"=some (some (.builtin "object.__setattr__")))
  (Eg:makesIn K aK=true)
  (Ee:FI K aK "__init__" bo)
  (Ec:isFn K (.ref bo)=true)
  (Ea:keepIn K (.ref aK)=true)
  (vY:FI K aK "bit" cC)
  (vV:isFn K (.ref cC)=true)
  (uM:FI K aK "hang" b7)
  (uH:isFn K (.ref b7)=true)
  (vQ:FN K aK "name")
  (ux:FN K aK "wires")
  (yL:plainGet K az Str.empty=true)
  (yK:hasDictIn K az=true)
  (yJ:plainOver K az=true)
  (yI:findIn K (.ref az) "__setattr__"=some (some (.builtin "object.__setattr__")))
  (zB:makesIn K az=true)
  (zA:FI K az "__init__" a9)
  (zy:isFn K (.ref a9)=true)
  (zw:keepIn K (.ref az)=true)
  (sJ:FI K az "bit" bQ)
  (sE:isFn K (.ref bQ)=true)
  (qU:FI K az "hang" bI)
  (qN:isFn K (.ref bI)=true)
  (su:FN K az "name")
  (pF:FN K az "number")
  (so:FN K az "wire")
  (Ow:plainGet K cv Str.empty=true)
  (Ou:hasDictIn K cv=true)
  (Os:plainOver K cv=true)
  (Oo:findIn K (.ref cv) "__setattr__"=some (some (.builtin "object.__setattr__")))
  (Pl:makesIn K cv=true)
  (Pj:FI K cv "__init__" cc)
  (Ph:isFn K (.ref cc)=true)
  (Pf:keepIn K (.ref cv)=true)
  (uO:FI K cv "in_names" cb)
  (uJ:isFn K (.ref cb)=true)
  (uN:FI K cv "sum_rows" b9)
  (uI:isFn K (.ref b9)=true)
  (qW:FI K cv "store_rows" bL)
  (qP:isFn K (.ref bL)=true)
  (sN:FI K cv "out_wires" bT)
  (sH:isFn K (.ref bT)=true)
  (AR:FI K cv "told" fk)
  (AO:isFn K (.ref fk)=true)
  (qV:FI K cv "wire_names" bK)
  (qO:isFn K (.ref bK)=true)
  (vZ:FI K cv "wire_of" cD)
  (vW:isFn K (.ref cD)=true)
  (nG:FI K cv "names_by_need" bg)
  (nF:isFn K (.ref bg)=true)
  (xK:FN K cv "by_name")
  (Gg:FN K cv "ins")
  (qJ:FN K cv "kept_stores")
  (Dx:FN K cv "outs")
  (uy:FN K cv "sum_order")
  (Dq:FN K cv "sums")
  (C5:plainGet K ax Str.empty=true)
  (C3:hasDictIn K ax=true)
  (C1:plainOver K ax=true)
  (CZ:findIn K (.ref ax) "__setattr__"=some (some (.builtin "object.__setattr__")))
  (Eh:makesIn K ax=true)
  (Ef:FI K ax "__init__" bp)
  (Ed:isFn K (.ref bp)=true)
  (Eb:keepIn K (.ref ax)=true)
  (qY:FI K ax "stores" bN)
  (qT:isFn K (.ref bN)=true)
  (lU:FI K ax "check_state" aW)
  (lS:isFn K (.ref aW)=true)
  (uP:FI K ax "step" cf)
  (uK:isFn K (.ref cf)=true)
  (qX:FI K ax "walked" bM)
  (qS:isFn K (.ref bM)=true)
  (sO:FI K ax "after" bG)
  (sI:isFn K (.ref bG)=true)
  (uQ:FI K ax "back" cj)
  (uL:isFn K (.ref cj)=true)
  (sv:FN K ax "inputs")
  (uz:FN K ax "nexts")
  (vS:FN K ax "outs")
  (Ov:plainGet K fH Str.empty=true)
  (Ot:hasDictIn K fH=true)
  (Oq:plainOver K fH=true)
  (On:findIn K (.ref fH) "__setattr__"=some (some (.builtin "object.__setattr__")))
  (Pk:makesIn K fH=true)
  (Pi:FI K fH "__init__" b8)
  (Pg:isFn K (.ref b8)=true)
  (Pe:keepIn K (.ref fH)=true)
  (AQ:FI K fH "step" fj)
  (AN:isFn K (.ref fj)=true)
  (yZ:FI K fH "state" dW)
  (yX:isFn K (.ref dW)=true)
  (Dp:FN K fH "bits")
  (AH:FN K fH "given")
  (Dj:FN K fH "held")
  (Gf:FN K fH "net")
  {vy:Addr}
  (PD:NI K "TooMany" vy)
  {dD:Addr}
  (HU:NI K "BadMask" dD)
  {iQ:Addr}
  (EC:NI K "BadTable" iQ)
  {la:Addr}
  (J5:NI K "BadRow" la)
  (j9:excIn K dD [.type "ValueError",.type "Exception",.type "BaseException",.type "object"] "ValueError.__new__"=true)
  (fY:excIn K iQ [.type "ValueError",.type "Exception",.type "BaseException",.type "object"] "ValueError.__new__"=true)
  (oZ:excIn K la [.type "ValueError",.type "Exception",.type "BaseException",.type "object"] "ValueError.__new__"=true)
  (rS:specialIn K (.ref p6) "__getattribute__"=some (some (.builtin "type.__getattribute__")))
  (rR:readsIn K p6 (.type "type")=true)
  (rQ:findCls K (.ref p6) (.type "type") "__init__"=some (.val (.ref cu)))
  {tT:Tok}
  (HS:nsIn K mainGlobals "LETTERS"=some (some (.str "abcdefghijklmnopqrstuvwxyz" tT)))
  {jS:Tok}
  (wx:nsIn K mainGlobals "LONGEST_NAME"=some (some (.int 6 jS)))
  {kF:Tok}
  (yu:nsIn K mainGlobals "MOST_INPUTS"=some (some (.int 6 kF)))
  {qe:Tok}
  (EB:nsIn K mainGlobals "MOST_INS"=some (some (.int 6 qe)))
  {fA:Tok}
  (nO:nsIn K mainGlobals "MOST_OUTS_machines"=some (some (.int 6 fA)))
  {ib:Tok}
  (tD:nsIn K mainGlobals "MOST_OUTS_nets"=some (some (.int 6 ib)))
  {eg:Tok}
  (lW:nsIn K mainGlobals "MOST_STORES_machines"=some (some (.int 120 eg)))
  {gj:Tok}
  (p8:nsIn K mainGlobals "MOST_STORES_nets"=some (some (.int 16 gj)))
  {oi:Tok}
  (Bl:nsIn K mainGlobals "MOST_SUMS"=some (some (.int 40 oi)))
  {l0:Tok}
  (z7:nsIn K mainGlobals "MOST_TURNS"=some (some (.int 40 l0)))
  {lZ:Tok}
  (z6:nsIn K mainGlobals "MOST_WIRES"=some (some (.int 24 lZ)))
  {lY:Tok}
  (z5:nsIn K mainGlobals "NAME_SIGNS"=some (some (.str "abcdefghijklmnopqrstuvwxyz0123456789" lY)))
  (PY:NN K "all")
  (PX:NN K "any")
  (M6:NN K "bool")
  (M5:NN K "dict")
  (z9:NN K "enumerate")
  (PV:NN K "int")
  (yy:NN K "isinstance")
  (PU:NN K "len")
  (M4:NN K "list")
  (KZ:NN K "range")
  (Cg:NN K "reversed")
  (Il:NN K "sorted")
  (PR:NN K "str")
  (KY:NN K "tuple"):
  ∃fd:FuncData,(∀(s:Shared) (v:Value),BindsTo s fd ⟨[v],[]⟩ [("_law_script",v)])/\∀base:Heap,K.In base->base.Ns mainGlobals mg->FnOk l.prog w K mg base CX0 16 fa fd ["_law_script"] (By K):=by
 have e:=hfa.symm.trans (mg_of X G QA);cases e;obtain⟨_,iS⟩:=DI.ok (ps:=["thing"]) (by walk_at "b");obtain⟨_,h9⟩:=GC.ok (ps:=["thing","width"]) (by walk_at "b");obtain⟨_,gI⟩:=GB.ok (ps:=["thing"]) (by walk_at "b");obtain⟨_,xc⟩:=O2.ok (ps:=["number"]) (by walk_at "b");obtain⟨_,mP⟩:=GF.ok (ps:=["mask"]) (by walk_at "b");obtain⟨_,kA⟩:=Gy.ok (ps:=["places"]) (by walk_at "b");obtain⟨_,nj⟩:=DD.ok (ps:=["row"]) (by walk_at "b");obtain⟨_,nq⟩:=DE.ok (ps:=["whole","width","count"]) (by walk_at "b");obtain⟨_,fT⟩:=sS.ok (ps:=["self","rows"]) (by walk_at "b");obtain⟨_,dF⟩:=uX.ok (ps:=["self","mask"]) (by walk_at "b");obtain⟨_,jC⟩:=AY.ok (ps:=["self","place","row"]) (by walk_at "b");obtain⟨_,eX⟩:=uY.ok (ps:=["self","bit"]) (by walk_at "b");obtain⟨_,jz⟩:=Gs.ok (ps:=["rows","wish"]) (by walk_at "b");obtain⟨_,yx⟩:=Ms.ok (ps:=["masks"]) (by walk_at "b");obtain⟨_,vD⟩:=Mq.ok (ps:=["machine","turns"]) (by walk_at "b");obtain⟨_,mL⟩:=Gv.ok (ps:=["machine","places","turns"]) (by walk_at "b");obtain⟨_,iH⟩:=xV.ok (ps:=["machine","mask"]) (by walk_at "b");obtain⟨_,jA⟩:=GD.ok (ps:=["machine","state"]) (by walk_at "b");obtain⟨_,mO⟩:=GE.ok (ps:=["machine","start","wish","turns"]) (by walk_at "b");obtain⟨_,cQ⟩:=uV.ok (ps:=["self","name"]) (by walk_at "b");obtain⟨_,fz⟩:=rh.ok (ps:=["self","name","number"]) (by walk_at "b");obtain⟨_,ia⟩:=y9.ok (ps:=["self","known","row","state"]) (by walk_at "b");obtain⟨_,gK⟩:=x9.ok (ps:=["self","known"]) (by walk_at "b");obtain⟨_,eB⟩:=pL.ok (ps:=["self","name","wires"]) (by walk_at "b");obtain⟨_,gJ⟩:=x6.ok (ps:=["self","known","row","state"]) (by walk_at "b");obtain⟨_,fL⟩:=we.ok (ps:=["self","known"]) (by walk_at "b");obtain⟨_,dq⟩:=nI.ok (ps:=["self","name","wire","number"]) (by walk_at "b");obtain⟨_,eW⟩:=uW.ok (ps:=["self","known","row","state"]) (by walk_at "b");obtain⟨_,d7⟩:=sR.ok (ps:=["self","known"]) (by walk_at "b");obtain⟨_,iK⟩:=xZ.ok (ps:=["ins","sums","stores","outs"]) (by walk_at "b");obtain⟨_,iL⟩:=x4.ok (ps:=["names"]) (by walk_at "b");obtain⟨_,eV⟩:=y4.ok (ps:=["wire","known"]) (by walk_at "b");obtain⟨_,iI⟩:=xW.ok (ps:=["sums","stores","outs","known"]) (by walk_at "b");obtain⟨_,gH⟩:=uU.ok (ps:=["ins","sums","stores"]) (by walk_at "b");obtain⟨_,vC⟩:=Mp.ok (ps:=["row","waiting"]) (by walk_at "b");obtain⟨_,qb⟩:=Gx.ok (ps:=["sums"]) (by walk_at "b");obtain⟨_,di⟩:=wm.ok (ps:=["self","ins","sums","stores","outs"]) (by walk_at "b");obtain⟨_,bH⟩:=wk.ok (ps:=["self"]) (by walk_at "b");obtain⟨_,dh⟩:=wj.ok (ps:=["self"]) (by walk_at "b");obtain⟨_,bx⟩:=sU.ok (ps:=["self"]) (by walk_at "b");obtain⟨_,bW⟩:=uZ.ok (ps:=["self"]) (by walk_at "b");obtain⟨_,iT⟩:=DO.ok (ps:=["self"]) (by walk_at "b");obtain⟨_,cS⟩:=sT.ok (ps:=["self"]) (by walk_at "b");obtain⟨_,bU⟩:=x8.ok (ps:=["self","name"]) (by walk_at "b");obtain⟨_,b6⟩:=oQ.ok (ps:=["self"]) (by walk_at "b");obtain⟨_,qc⟩:=GA.ok (ps:=["thing","stores","inputs"]) (by walk_at "b");obtain⟨_,iJ⟩:=xX.ok (ps:=["inputs","nexts","outs"]) (by walk_at "b");obtain⟨_,tP⟩:=JD.ok (ps:=["pair","state","row"]) (by walk_at "b");obtain⟨_,h8⟩:=y3.ok (ps:=["pairs","state","row"]) (by walk_at "b");obtain⟨_,eC⟩:=pM.ok (ps:=["self","inputs","nexts","outs"]) (by walk_at "b");obtain⟨_,cT⟩:=sW.ok (ps:=["self"]) (by walk_at "b");obtain⟨_,aR⟩:=mD.ok (ps:=["self","state"]) (by walk_at "b");obtain⟨_,dj⟩:=wo.ok (ps:=["self","state","row"]) (by walk_at "b");obtain⟨_,d8⟩:=sV.ok (ps:=["self","rows","state"]) (by walk_at "b");have eZ:=MD (st:=dy) u0 sP vz mr;have jy:=eZ.binds (ps:=["self","rows","state"]) (ds:=[]) λ_ _ _ _ _ _ _ us hl=>match us,hl with | [_,_,_],_=>⟨_,rfl,rfl⟩
 have B_Machine_after:=eZ.binds (ps:=["self","rows","state"]) (ds:=[.int 0 lH]) λ_ _ _ _ _ _ _ us hl=>match us,(show us.length=2 by simpa using hl) with | [_,_],_=>⟨_,rfl,rfl⟩
 obtain⟨_,fM⟩:=wt.ok (ps:=["self","mask"]) (by walk_at "b");obtain⟨_,yw⟩:=Mr.ok (ps:=["net"]) (by walk_at "b");obtain⟨_,iR⟩:=DF.ok (ps:=["net"]) (by walk_at "b");obtain⟨_,ku⟩:=Gw.ok (ps:=["wires","wire","fresh"]) (by walk_at "b");obtain⟨_,J9⟩:=Qv.ok (ps:=["net","wire","fresh"]) (by walk_at "b");obtain⟨_,ny⟩:=DJ.ok (ps:=["words"]) (by walk_at "b");obtain⟨_,qa⟩:=Gu.ok (ps:=["text"]) (by walk_at "b");obtain⟨_,nv⟩:=DH.ok (ps:=["text"]) (by walk_at "b");obtain⟨_,nu⟩:=DG.ok (ps:=["net"]) (by walk_at "b");obtain⟨_,lg⟩:=AU.ok (ps:=["net","row","state"]) (by walk_at "b");obtain⟨_,mM⟩:=Gz.ok (ps:=["wires","bits"]) (by walk_at "b");obtain⟨_,hV⟩:=wg.ok (ps:=["self","net"]) (by walk_at "b");obtain⟨_,kB⟩:=DN.ok (ps:=["self","row"]) (by walk_at "b");obtain⟨_,g8⟩:=AZ.ok (ps:=["self"]) (by walk_at "b");obtain⟨_,df⟩:=AX.ok (ps:=["_law_script","_law_k"]) (by walk_at "b");obtain⟨_,bj⟩:=DM.ok (ps:=["_law_cell_here","_law_k"]) (by walk_at "b");obtain⟨_,jQ⟩:=y8.ok (ps:=["_law_cell_here","_law_start","_law_many","_law_width","_law_digits"]) (by walk_at "b");obtain⟨_,dY⟩:=AW.ok (ps:=["_law_cell_here","_law_k"]) (by walk_at "b");obtain⟨_,jP⟩:=y6.ok (ps:=["_law_cell_here","_law_start","_law_names","_law_digits"]) (by walk_at "b");obtain⟨_,nC⟩:=DL.ok (ps:=["_law_script","_law_start","_law_most"]) (by walk_at "b");obtain⟨_,jB⟩:=AV.ok (ps:=["_law_cell_here","_law_many","_law_width"]) (by walk_at "b");obtain⟨_,g7⟩:=DK.ok (ps:=["_law_number"]) (by walk_at "b");obtain⟨_,ck⟩:=x5.ok (ps:=["_law_net_one","_law_rows_here"]) (by walk_at "b");obtain⟨_,fw⟩:=rg.ok (ps:=["_law_net_one","_law_state","_law_states_here"]) (by walk_at "b");obtain⟨_,dn⟩:=nH.ok (ps:=["_law_net_one","_law_rows_here","_law_wish","_law_turns","_law_cell_here"]) (by walk_at "b");obtain⟨_,d6⟩:=sQ.ok (ps:=["_law_net_one","_law_script","_law_start"]) (by walk_at "b");have J8:=KD (st:=CV) Qu Qz Qp;have b_law:=J8.binds (ps:=["_law_script"]) λ_ _ _ _ _ _ us hl=>match us,hl with | [_],_=>rfl
 have T:Tx K mg ⟨fi,_,hX,_,jr,_,vh,_,jv,_,jl,_,gR,_,gS,_,bJ,_,bR,_,dU,_,bS,_,jf,_,oW,_,oU,_,jh,_,dN,_,jt,_,ju,_,cu,_,bz,_,cZ,_,cE,_,bo,_,cC,_,b7,_,a9,_,bQ,_,bI,_,dQ,_,dR,_,eO,_,dO,_,cP,_,oS,_,jk,_,cc,_,cb,_,b9,_,bL,_,bT,_,fk,_,bK,_,cD,_,bg,_,jq,_,dP,_,kZ,_,eM,_,bp,_,bN,_,aW,_,cf,_,bM,_,bG,_,_,cj,_,oV,_,gT,_,ji,_,A8,_,gX,_,jg,_,gW,_,gU,_,fV,_,jm,_,b8,_,fj,_,dW,_,fX,_,g5,_,eR,_,eQ,_,eP,_,gZ,_,fW,_,gY,_,dS,_,b5,_,bD,_,cB,_,fa,_,bA,p6,aZ,aK,az,cv,ax,fH,vy,dD,iQ,la,_,_,_,_,_,_,_,_,_,_,_,_⟩:=⟨iS,mg_of X G Ew,h9,mg_of X G HL,gI,mg_of X G HK,xc,mg_of X G Pz,mP,mg_of X G HP,kA,mg_of X G HH,nj,mg_of X G Ep,nq,mg_of X G Er,fT,dF,jC,eX,jz,mg_of X G HC,yx,mg_of X G MR,vD,mg_of X G MP,mL,mg_of X G HE,iH,mg_of X G yn,jA,mg_of X G HM,mO,mg_of X G HN,cQ,fz,ia,gK,eB,gJ,fL,dq,eW,d7,iK,mg_of X G yq,iL,mg_of X G yr,eV,mg_of X G zZ,iI,mg_of X G yo,gH,mg_of X G vB,vC,mg_of X G MO,qb,mg_of X G HG,di,bH,dh,bx,bW,iT,cS,bU,b6,qc,mg_of X G HJ,iJ,mg_of X G yp,tP,mg_of X G J3,h8,mg_of X G zY,eC,cT,aR,dj,d8,eZ,jy,fM,yw,mg_of X G MQ,iR,mg_of X G Es,ku,mg_of X G HF,J9,mg_of X G QB,ny,mg_of X G Ex,qa,mg_of X G HD,nv,mg_of X G Eu,nu,mg_of X G Et,lg,mg_of X G Bg,mM,mg_of X G HI,hV,kB,g8,df,mg_of X G Bj,bj,mg_of X G EA,jQ,mg_of X G z4,dY,mg_of X G Bi,jP,mg_of X G z3,nC,mg_of X G Ez,jB,mg_of X G Bh,g7,mg_of X G Ey,ck,mg_of X G yt,fw,mg_of X G rB,dn,mg_of X G nN,d6,mg_of X G tz,J8,mg_of X G MS,⟨Jt,Js,Jr,Jq⟩,⟨JW,JV,JU,JT⟩,⟨sL,sF,dF.1.2⟩,⟨yY,yW,jC.1.2⟩,⟨sM,sG,eX.1.2⟩,vR,oN,pG,mg_of X G PB,mg_of X G J4,⟨FZ,FY,FX,FW⟩,⟨Hf,He,Hd,Hc⟩,⟨xU,xT,ia.1.2⟩,⟨wc,vX,gK.1.2⟩,xM,uA,mg_of X G HQ,⟨C4,C2,C0,CY⟩,⟨Eg,Ee,Ec,Ea⟩,⟨vY,vV,gJ.1.2⟩,⟨uM,uH,fL.1.2⟩,vQ,ux,mg_of X G Bk,⟨yL,yK,yJ,yI⟩,⟨zB,zA,zy,zw⟩,⟨sJ,sE,eW.1.2⟩,⟨qU,qN,d7.1.2⟩,su,pF,so,mg_of X G QD,⟨Ow,Ou,Os,Oo⟩,⟨Pl,Pj,Ph,Pf⟩,⟨uO,uJ,bH.1.2⟩,⟨uN,uI,dh.1.2⟩,⟨qW,qP,bx.1.2⟩,⟨sN,sH,bW.1.2⟩,⟨AR,AO,iT.1.2⟩,⟨qV,qO,cS.1.2⟩,⟨vZ,vW,bU.1.2⟩,⟨nG,nF,b6.1.2⟩,xK,Gg,qJ,Dx,uy,Dq,mg_of X G HR,⟨C5,C3,C1,CZ⟩,⟨Eh,Ef,Ed,Eb⟩,⟨qY,qT,cT.1.2⟩,⟨lU,lS,aR.1.2⟩,⟨uP,uK,dj.1.2⟩,⟨qX,qS,d8.1.2⟩,⟨sO,sI,mr⟩,⟨uQ,uL,fM.1.2⟩,sv,uz,vS,mg_of X G QC,⟨Ov,Ot,Oq,On⟩,⟨Pk,Pi,Pg,Pe⟩,⟨AQ,AN,kB.1.2⟩,⟨yZ,yX,g8.1.2⟩,Dp,AH,Dj,Gf,⟨rS,rR,rQ,(by rfl),cQ.1.2⟩,mg_of X G HU,j9,mg_of X G EC,fY,mg_of X G J5,oZ,mg_of X G HS,mg_of X G wx,mg_of X G yu,mg_of X G EB,mg_of X G nO,mg_of X G tD,mg_of X G lW,mg_of X G p8,mg_of X G Bl,mg_of X G z7,mg_of X G z6,mg_of X G z5,mg_none_of X G PY,mg_none_of X G PX,mg_none_of X G M6,mg_none_of X G M5,mg_none_of X G z9,mg_none_of X G PV,mg_none_of X G yy,mg_none_of X G PU,mg_none_of X G M4,mg_none_of X G KZ,mg_none_of X G Cg,mg_none_of X G Il,mg_none_of X G PR,mg_none_of X G KY⟩;exact⟨_,λs v=> .of_eq rfl,λbase _ _=>OI T⟩
open PySem.W in
theorem walk {l:OpenLaw} {q:Program} {loose:List Str} {XP:(Str->Option Value)->Heap->Prop} {YP:World->Heap->Prop} {d:DefRec} {K:Params->Frag} (hn:l.most=some 63) (hdf:d.params.defaults=[])
  (hY:∀(w:World) (h:Heap),YP w h->(K w.params).In h)
  (F:∀(w:World) (mg:Str->Option Value) (fa:Addr) (h:Heap),(K w.params).In h->h.Ns mainGlobals mg->mg d.name=some (.ref fa)->
   ∃fd:FuncData,(∀(s:Shared) (u:Value),BindsTo s fd ⟨[u],[]⟩ [("_law_script",u)])/\∀base:Heap,(K w.params).In base->base.Ns mainGlobals mg->FnOk l.prog w (K w.params) mg base CX0 16 fa fd ["_law_script"] (By (K w.params))):
  WalkO q loose XP YP l.row.toRowW d [] (λf vs=>PySem.call f vs):=
 L2.walk_of (n:=63) (k:=16) (x:="_law_script") (CX:=λ_=>CX0) (sp:=λw=>By (K w.params)) hn (by decide) hdf ⟨rfl,by decide,by decide⟩ hY F (λ_ _ a ns hl _ hS=>⟨a,ns,rfl,hS,hl,λ_=>rfl⟩) λ_ _ _ _ _ z=>z
end My
namespace PySem.W.Fast
theorem tw1000410508588430289:True:=⟨⟩
theorem tw10036756364399828901:True:=⟨⟩
theorem tw10039156945837356320:True:=⟨⟩
theorem tw10052770205512340882:True:=⟨⟩
theorem tw10054064089311953671:True:=⟨⟩
theorem tw10100531946492808203:True:=⟨⟩
theorem tw10131457444051452570:True:=⟨⟩
theorem tw10133175034610488443:True:=⟨⟩
theorem tw10146756609118996073:True:=⟨⟩
theorem tw10151373032160539773:True:=⟨⟩
theorem tw1017586956667508597:True:=⟨⟩
theorem tw10199991124229696627:True:=⟨⟩
theorem tw10267556393417601745:True:=⟨⟩
theorem tw10292051516389965205:True:=⟨⟩
theorem tw10295907494958391644:True:=⟨⟩
theorem tw10324462582926852048:True:=⟨⟩
theorem tw10334002470187795993:True:=⟨⟩
theorem tw10359766517001869532:True:=⟨⟩
theorem tw10360482065392572213:True:=⟨⟩
theorem tw10371161808588645247:True:=⟨⟩
theorem tw10382873146626650597:True:=⟨⟩
theorem tw1040071308484456599:True:=⟨⟩
theorem tw10493421075356022318:True:=⟨⟩
theorem tw10496766316791628300:True:=⟨⟩
theorem tw10512143128305686178:True:=⟨⟩
theorem tw10553939637851807789:True:=⟨⟩
theorem tw10649037857026179940:True:=⟨⟩
theorem tw10654749606957266064:True:=⟨⟩
theorem tw1067633663006339204:True:=⟨⟩
theorem tw10708481996147708069:True:=⟨⟩
theorem tw10741664138875076350:True:=⟨⟩
theorem tw10743441939022384441:True:=⟨⟩
theorem tw1074410934772193314:True:=⟨⟩
theorem tw10752339841940175459:True:=⟨⟩
theorem tw10780385794035746336:True:=⟨⟩
theorem tw10783379452420257814:True:=⟨⟩
theorem tw10830058468736510929:True:=⟨⟩
theorem tw10855109887634116002:True:=⟨⟩
theorem tw10897471814898005899:True:=⟨⟩
theorem tw10915673665088468581:True:=⟨⟩
theorem tw11020440966551377441:True:=⟨⟩
theorem tw11042500177154013167:True:=⟨⟩
theorem tw11062085901100158939:True:=⟨⟩
theorem tw11072917376955578327:True:=⟨⟩
theorem tw11088003852244227090:True:=⟨⟩
theorem tw11126007931928112182:True:=⟨⟩
theorem tw11142499640548359550:True:=⟨⟩
theorem tw11173500807281588690:True:=⟨⟩
theorem tw11197729364928528774:True:=⟨⟩
theorem tw11218446811693001814:True:=⟨⟩
theorem tw1127371364107986969:True:=⟨⟩
theorem tw11295329585119733257:True:=⟨⟩
theorem tw11304498014901753534:True:=⟨⟩
theorem tw11315234417490917070:True:=⟨⟩
theorem tw11321533896680985850:True:=⟨⟩
theorem tw11336368953537355289:True:=⟨⟩
theorem tw11341733849393054725:True:=⟨⟩
theorem tw11357920073929407725:True:=⟨⟩
theorem tw11360380802151705418:True:=⟨⟩
theorem tw1138257596054822312:True:=⟨⟩
theorem tw11399274080819246279:True:=⟨⟩
theorem tw11429324059910241181:True:=⟨⟩
theorem tw11517443584275109673:True:=⟨⟩
theorem tw11528253377087476920:True:=⟨⟩
theorem tw11534396355690663670:True:=⟨⟩
theorem tw1154952062068673946:True:=⟨⟩
theorem tw1161079271712452878:True:=⟨⟩
theorem tw11622594983313201113:True:=⟨⟩
theorem tw11635291570467252287:True:=⟨⟩
theorem tw11678591404134989094:True:=⟨⟩
theorem tw11707986834629188630:True:=⟨⟩
theorem tw11743637376756235345:True:=⟨⟩
theorem tw11770032995987526069:True:=⟨⟩
theorem tw11782624681331876607:True:=⟨⟩
theorem tw11810776658763437618:True:=⟨⟩
theorem tw11838437092624794261:True:=⟨⟩
theorem tw11864388602939597875:True:=⟨⟩
theorem tw11872681624470498374:True:=⟨⟩
theorem tw11914529453745792774:True:=⟨⟩
theorem tw11925400923547530150:True:=⟨⟩
theorem tw11936873787552925134:True:=⟨⟩
theorem tw12012799653647307186:True:=⟨⟩
theorem tw12042205975938155423:True:=⟨⟩
theorem tw12044468251210822678:True:=⟨⟩
theorem tw1205754774657035184:True:=⟨⟩
theorem tw12064370656962776931:True:=⟨⟩
theorem tw12103801110430230647:True:=⟨⟩
theorem tw12124494915898299132:True:=⟨⟩
theorem tw12126859634287361573:True:=⟨⟩
theorem tw12148678352581768693:True:=⟨⟩
theorem tw12175143860184079536:True:=⟨⟩
theorem tw12182558692443981906:True:=⟨⟩
theorem tw12236849345257671390:True:=⟨⟩
theorem tw12260530277086408908:True:=⟨⟩
theorem tw12286260679784671086:True:=⟨⟩
theorem tw12308221028715553724:True:=⟨⟩
theorem tw12315224204977012482:True:=⟨⟩
theorem tw12352208426173508235:True:=⟨⟩
theorem tw12357148124998061598:True:=⟨⟩
theorem tw12398888103082183366:True:=⟨⟩
theorem tw12412129253301101717:True:=⟨⟩
theorem tw12480201289541901367:True:=⟨⟩
theorem tw12501981530443883666:True:=⟨⟩
theorem tw12512574828177928964:True:=⟨⟩
theorem tw12538220857007655584:True:=⟨⟩
theorem tw12558037658656775139:True:=⟨⟩
theorem tw12561205679607335620:True:=⟨⟩
theorem tw12580559861496965796:True:=⟨⟩
theorem tw12602428907642246245:True:=⟨⟩
theorem tw1265863150825398058:True:=⟨⟩
theorem tw126859364357677669:True:=⟨⟩
theorem tw12686927390597545468:True:=⟨⟩
theorem tw12693225146414347922:True:=⟨⟩
theorem tw12705668267044796285:True:=⟨⟩
theorem tw12731273229879562204:True:=⟨⟩
theorem tw1280763849928590405:True:=⟨⟩
theorem tw12826444920371855286:True:=⟨⟩
theorem tw12857157594494162529:True:=⟨⟩
theorem tw12862174793167342371:True:=⟨⟩
theorem tw12873274325225190565:True:=⟨⟩
theorem tw1288365070087353126:True:=⟨⟩
theorem tw12891470195457673771:True:=⟨⟩
theorem tw13025006065864090215:True:=⟨⟩
theorem tw13027169866211566613:True:=⟨⟩
theorem tw13051017911860192033:True:=⟨⟩
theorem tw13096387443675995342:True:=⟨⟩
theorem tw13098737475309489583:True:=⟨⟩
theorem tw13106033552091650360:True:=⟨⟩
theorem tw13136661802494930146:True:=⟨⟩
theorem tw13140740347329432255:True:=⟨⟩
theorem tw13189302575981782985:True:=⟨⟩
theorem tw1322122829416425238:True:=⟨⟩
theorem tw13241247298485304447:True:=⟨⟩
theorem tw13248407752043944144:True:=⟨⟩
theorem tw13250293645593124187:True:=⟨⟩
theorem tw13250577248391767674:True:=⟨⟩
theorem tw13280543742082191687:True:=⟨⟩
theorem tw13311723829860079813:True:=⟨⟩
theorem tw13337420211054593589:True:=⟨⟩
theorem tw13406931997369763553:True:=⟨⟩
theorem tw13408368869338313060:True:=⟨⟩
theorem tw1341170374879309703:True:=⟨⟩
theorem tw13433038121159711003:True:=⟨⟩
theorem tw13462281981057085180:True:=⟨⟩
theorem tw1347482983853152498:True:=⟨⟩
theorem tw13478740695778258783:True:=⟨⟩
theorem tw13537413007382027696:True:=⟨⟩
theorem tw13540717941353464182:True:=⟨⟩
theorem tw13561414404871079489:True:=⟨⟩
theorem tw13571650677230835595:True:=⟨⟩
theorem tw13574875591767441087:True:=⟨⟩
theorem tw13595005076494294439:True:=⟨⟩
theorem tw13671392513972544529:True:=⟨⟩
theorem tw13697717991213919324:True:=⟨⟩
theorem tw13720924922083981895:True:=⟨⟩
theorem tw13770530959819685846:True:=⟨⟩
theorem tw13797327769476932564:True:=⟨⟩
theorem tw13801016256530069104:True:=⟨⟩
theorem tw13810736317324355386:True:=⟨⟩
theorem tw13902471333206307609:True:=⟨⟩
theorem tw13919995773020808952:True:=⟨⟩
theorem tw13936791832930355515:True:=⟨⟩
theorem tw13955604220751504272:True:=⟨⟩
theorem tw13978564130759643113:True:=⟨⟩
theorem tw13991715029689886163:True:=⟨⟩
theorem tw14024275323121749889:True:=⟨⟩
theorem tw14029354285886957678:True:=⟨⟩
theorem tw14045206326960569512:True:=⟨⟩
theorem tw1404825577492681280:True:=⟨⟩
theorem tw1413209075464723807:True:=⟨⟩
theorem tw14138336879286566460:True:=⟨⟩
theorem tw14152255689711805264:True:=⟨⟩
theorem tw14198776740693102838:True:=⟨⟩
theorem tw14208640177871032169:True:=⟨⟩
theorem tw1423370793882745804:True:=⟨⟩
theorem tw14239157377329078416:True:=⟨⟩
theorem tw14259056919214088435:True:=⟨⟩
theorem tw142694883562632444:True:=⟨⟩
theorem tw14280112037050864151:True:=⟨⟩
theorem tw14296121345289189595:True:=⟨⟩
theorem tw14300876341812307184:True:=⟨⟩
theorem tw14315102452598715689:True:=⟨⟩
theorem tw14315211331361808897:True:=⟨⟩
theorem tw14326905458035102212:True:=⟨⟩
theorem tw14362164650172220292:True:=⟨⟩
theorem tw144095804775050371:True:=⟨⟩
theorem tw14443123094396365749:True:=⟨⟩
theorem tw14462675948810693617:True:=⟨⟩
theorem tw14526619248201461865:True:=⟨⟩
theorem tw14536464332273968746:True:=⟨⟩
theorem tw1454113123312995335:True:=⟨⟩
theorem tw14542099695708610702:True:=⟨⟩
theorem tw14551401984588999484:True:=⟨⟩
theorem tw14557746436806552212:True:=⟨⟩
theorem tw1456993174086217203:True:=⟨⟩
theorem tw14606011674744999473:True:=⟨⟩
theorem tw14610495110307925649:True:=⟨⟩
theorem tw14628715055124278889:True:=⟨⟩
theorem tw14632589309432516716:True:=⟨⟩
theorem tw14676726221660644832:True:=⟨⟩
theorem tw14690060957276185688:True:=⟨⟩
theorem tw1470204366933958715:True:=⟨⟩
theorem tw14731302617853466303:True:=⟨⟩
theorem tw14744862753169904177:True:=⟨⟩
theorem tw14749292942796361621:True:=⟨⟩
theorem tw14757514309539194677:True:=⟨⟩
theorem tw14758831592570897197:True:=⟨⟩
theorem tw14781432063885870159:True:=⟨⟩
theorem tw14841031391981635068:True:=⟨⟩
theorem tw1484491721364588784:True:=⟨⟩
theorem tw14871799443170585176:True:=⟨⟩
theorem tw14941300722879259547:True:=⟨⟩
theorem tw15073631119641249946:True:=⟨⟩
theorem tw15096161650734890286:True:=⟨⟩
theorem tw15101363578296310008:True:=⟨⟩
theorem tw15130142327266977497:True:=⟨⟩
theorem tw15141269387911894599:True:=⟨⟩
theorem tw15160664080365527272:True:=⟨⟩
theorem tw1518395258980165668:True:=⟨⟩
theorem tw15189237020271202359:True:=⟨⟩
theorem tw15211785571742353546:True:=⟨⟩
theorem tw15223154134253891716:True:=⟨⟩
theorem tw1522984446088102038:True:=⟨⟩
theorem tw15285116431006433266:True:=⟨⟩
theorem tw15293526629935449290:True:=⟨⟩
theorem tw15310207291052642613:True:=⟨⟩
theorem tw15386480255944977513:True:=⟨⟩
theorem tw15393472021841526600:True:=⟨⟩
theorem tw1545997144896655271:True:=⟨⟩
theorem tw155242583097182446:True:=⟨⟩
theorem tw15525904241360794394:True:=⟨⟩
theorem tw1553945346568119987:True:=⟨⟩
theorem tw15552836456168052956:True:=⟨⟩
theorem tw15578507039873759053:True:=⟨⟩
theorem tw15586998591849648268:True:=⟨⟩
theorem tw15609626795055338067:True:=⟨⟩
theorem tw15656789824675742732:True:=⟨⟩
theorem tw15682625345911499339:True:=⟨⟩
theorem tw15693086022211513369:True:=⟨⟩
theorem tw15702725526883503903:True:=⟨⟩
theorem tw15728917725544993756:True:=⟨⟩
theorem tw15839289353863905424:True:=⟨⟩
theorem tw15901166155736904067:True:=⟨⟩
theorem tw16005770236998420887:True:=⟨⟩
theorem tw16022443847602470301:True:=⟨⟩
theorem tw16056353938843071202:True:=⟨⟩
theorem tw16119480311396874953:True:=⟨⟩
theorem tw16132263697875211267:True:=⟨⟩
theorem tw16151255337174426421:True:=⟨⟩
theorem tw1621536779344105318:True:=⟨⟩
theorem tw16218584286002452567:True:=⟨⟩
theorem tw16221094576926838323:True:=⟨⟩
theorem tw16238348995196902611:True:=⟨⟩
theorem tw16288710870445397549:True:=⟨⟩
theorem tw16299277551349577317:True:=⟨⟩
theorem tw16322757553725641385:True:=⟨⟩
theorem tw16323355935562550896:True:=⟨⟩
theorem tw16337964379497612690:True:=⟨⟩
theorem tw16368127213927970293:True:=⟨⟩
theorem tw16424115620606195626:True:=⟨⟩
theorem tw16453469351180671346:True:=⟨⟩
theorem tw16460150348437288224:True:=⟨⟩
theorem tw16471528152450985166:True:=⟨⟩
theorem tw1647797749344250906:True:=⟨⟩
theorem tw16514973269280580019:True:=⟨⟩
theorem tw16530274594896907767:True:=⟨⟩
theorem tw16531530036109420852:True:=⟨⟩
theorem tw16543629511032957880:True:=⟨⟩
theorem tw16573949878608067967:True:=⟨⟩
theorem tw166067120923541701:True:=⟨⟩
theorem tw16704118153877416400:True:=⟨⟩
theorem tw16713712850204638018:True:=⟨⟩
theorem tw16796774561071052240:True:=⟨⟩
theorem tw16813250970406812752:True:=⟨⟩
theorem tw16841112143303252049:True:=⟨⟩
theorem tw16860415559552193392:True:=⟨⟩
theorem tw1687707674741240025:True:=⟨⟩
theorem tw16888072158485460298:True:=⟨⟩
theorem tw16989689041147172372:True:=⟨⟩
theorem tw16998515120828836587:True:=⟨⟩
theorem tw1700510664108770425:True:=⟨⟩
theorem tw17007551279927702961:True:=⟨⟩
theorem tw17017619459475182853:True:=⟨⟩
theorem tw17017952011554363986:True:=⟨⟩
theorem tw17018020633684242254:True:=⟨⟩
theorem tw17105211046538924382:True:=⟨⟩
theorem tw17146452089239978995:True:=⟨⟩
theorem tw1714699172429952687:True:=⟨⟩
theorem tw17154534778012650160:True:=⟨⟩
theorem tw17186157307187570499:True:=⟨⟩
theorem tw1718952942814377851:True:=⟨⟩
theorem tw17203682980299781479:True:=⟨⟩
theorem tw17250262549061310593:True:=⟨⟩
theorem tw17264572143060787604:True:=⟨⟩
theorem tw17268516656427845616:True:=⟨⟩
theorem tw17277573583364171287:True:=⟨⟩
theorem tw17292394530645892750:True:=⟨⟩
theorem tw17358327005757958931:True:=⟨⟩
theorem tw17396494648301574559:True:=⟨⟩
theorem tw17404517509356861630:True:=⟨⟩
theorem tw17405878690300422227:True:=⟨⟩
theorem tw17426823895028181845:True:=⟨⟩
theorem tw17446986347646768280:True:=⟨⟩
theorem tw17511734238416229039:True:=⟨⟩
theorem tw1760125421180330052:True:=⟨⟩
theorem tw17630613742307585982:True:=⟨⟩
theorem tw17653879614049153894:True:=⟨⟩
theorem tw17654597918525512784:True:=⟨⟩
theorem tw17672932025421844280:True:=⟨⟩
theorem tw17682305543264204126:True:=⟨⟩
theorem tw17722820152362312422:True:=⟨⟩
theorem tw17726334887854644501:True:=⟨⟩
theorem tw17790675544000209114:True:=⟨⟩
theorem tw17876958950800922422:True:=⟨⟩
theorem tw17878817846294200917:True:=⟨⟩
theorem tw17992398514450224429:True:=⟨⟩
theorem tw18011298545939909271:True:=⟨⟩
theorem tw18029291894976057227:True:=⟨⟩
theorem tw180431663109657294:True:=⟨⟩
theorem tw18055631661578742533:True:=⟨⟩
theorem tw18106621249933927557:True:=⟨⟩
theorem tw18129340311667133353:True:=⟨⟩
theorem tw18129729953458749769:True:=⟨⟩
theorem tw18211703609267902171:True:=⟨⟩
theorem tw18223002841143485161:True:=⟨⟩
theorem tw18255057597751112147:True:=⟨⟩
theorem tw18270476918960553682:True:=⟨⟩
theorem tw18273819636359794383:True:=⟨⟩
theorem tw18316627108630323465:True:=⟨⟩
theorem tw18332109733361332035:True:=⟨⟩
theorem tw18342230060185151392:True:=⟨⟩
theorem tw18344634360037583548:True:=⟨⟩
theorem tw1838231958717866744:True:=⟨⟩
theorem tw18401082390421584488:True:=⟨⟩
theorem tw18409238840754091522:True:=⟨⟩
theorem tw18443204630096243110:True:=⟨⟩
theorem tw1870288302181913655:True:=⟨⟩
theorem tw1907871277933297359:True:=⟨⟩
theorem tw1929797429509951351:True:=⟨⟩
theorem tw1959044628383784612:True:=⟨⟩
theorem tw196607759469895224:True:=⟨⟩
theorem tw1972283616996562942:True:=⟨⟩
theorem tw1989037771458967840:True:=⟨⟩
theorem tw2075975809808669478:True:=⟨⟩
theorem tw2167768063356399026:True:=⟨⟩
theorem tw2199253836810437331:True:=⟨⟩
theorem tw2204452340269442839:True:=⟨⟩
theorem tw2220444282738430586:True:=⟨⟩
theorem tw2243013756259086876:True:=⟨⟩
theorem tw230867140931139886:True:=⟨⟩
theorem tw244294943941608287:True:=⟨⟩
theorem tw2488870918426423592:True:=⟨⟩
theorem tw2599666679102773446:True:=⟨⟩
theorem tw2642789882521772857:True:=⟨⟩
theorem tw2675828883612473896:True:=⟨⟩
theorem tw2707133755031043284:True:=⟨⟩
theorem tw2712274603146843965:True:=⟨⟩
theorem tw2717336581647992078:True:=⟨⟩
theorem tw2729894071661623764:True:=⟨⟩
theorem tw2789718646684332912:True:=⟨⟩
theorem tw2821118486641102951:True:=⟨⟩
theorem tw2826023614527243176:True:=⟨⟩
theorem tw2831651030721351275:True:=⟨⟩
theorem tw2840244528278546678:True:=⟨⟩
theorem tw2852320437383478252:True:=⟨⟩
theorem tw285661081185224664:True:=⟨⟩
theorem tw2875250786307469431:True:=⟨⟩
theorem tw291385515235833443:True:=⟨⟩
theorem tw2926003034803172409:True:=⟨⟩
theorem tw3000502785457504851:True:=⟨⟩
theorem tw301509655320044095:True:=⟨⟩
theorem tw3111273602642987565:True:=⟨⟩
theorem tw3117972395384243248:True:=⟨⟩
theorem tw3232438583179812432:True:=⟨⟩
theorem tw3297319597658779621:True:=⟨⟩
theorem tw3324209213456996395:True:=⟨⟩
theorem tw335059980327477541:True:=⟨⟩
theorem tw3369370176237028950:True:=⟨⟩
theorem tw3369492861927867762:True:=⟨⟩
theorem tw3409210837197685980:True:=⟨⟩
theorem tw3418066429491019727:True:=⟨⟩
theorem tw3432950802109772925:True:=⟨⟩
theorem tw3455187941764963854:True:=⟨⟩
theorem tw3463151209220588388:True:=⟨⟩
theorem tw3467814790955363390:True:=⟨⟩
theorem tw3477026027152793207:True:=⟨⟩
theorem tw3528946851640364761:True:=⟨⟩
theorem tw3541426856352446732:True:=⟨⟩
theorem tw355160143999131468:True:=⟨⟩
theorem tw3559860011918283288:True:=⟨⟩
theorem tw3565066190494688792:True:=⟨⟩
theorem tw3566487154983270693:True:=⟨⟩
theorem tw3567160034489955384:True:=⟨⟩
theorem tw358894301040796368:True:=⟨⟩
theorem tw3600689038712645965:True:=⟨⟩
theorem tw3703242235314848525:True:=⟨⟩
theorem tw3796647068237276417:True:=⟨⟩
theorem tw3831130158465720325:True:=⟨⟩
theorem tw3840458010151516826:True:=⟨⟩
theorem tw3883943001617873135:True:=⟨⟩
theorem tw3897325428287435001:True:=⟨⟩
theorem tw3914315740237590896:True:=⟨⟩
theorem tw400777198728558548:True:=⟨⟩
theorem tw4016003681167259254:True:=⟨⟩
theorem tw4016257381549829545:True:=⟨⟩
theorem tw402952443168159305:True:=⟨⟩
theorem tw4066824863935929756:True:=⟨⟩
theorem tw4085343939870871335:True:=⟨⟩
theorem tw4116039537710688490:True:=⟨⟩
theorem tw4126154746292162975:True:=⟨⟩
theorem tw415212024680895633:True:=⟨⟩
theorem tw4155524614737213572:True:=⟨⟩
theorem tw4160509521278134241:True:=⟨⟩
theorem tw4172285359095375188:True:=⟨⟩
theorem tw4190003577360707648:True:=⟨⟩
theorem tw4301960838379425169:True:=⟨⟩
theorem tw4303296145433119675:True:=⟨⟩
theorem tw4374668875091782905:True:=⟨⟩
theorem tw4428234932921076575:True:=⟨⟩
theorem tw4440903823774732644:True:=⟨⟩
theorem tw4467489586107735:True:=⟨⟩
theorem tw4472823973391967861:True:=⟨⟩
theorem tw447713287348061699:True:=⟨⟩
theorem tw4521448219160833849:True:=⟨⟩
theorem tw4533277218781221259:True:=⟨⟩
theorem tw4552530789616301655:True:=⟨⟩
theorem tw4583752850338323302:True:=⟨⟩
theorem tw4608511442512222999:True:=⟨⟩
theorem tw4616279838181791763:True:=⟨⟩
theorem tw4703231839031450800:True:=⟨⟩
theorem tw4718276068395068614:True:=⟨⟩
theorem tw4731558268899896875:True:=⟨⟩
theorem tw4758089447278259392:True:=⟨⟩
theorem tw4760159531172147928:True:=⟨⟩
theorem tw4805943601349077427:True:=⟨⟩
theorem tw4822829222633294473:True:=⟨⟩
theorem tw4828592411423991435:True:=⟨⟩
theorem tw4854362266246300500:True:=⟨⟩
theorem tw4860092715127553158:True:=⟨⟩
theorem tw4894984171318035949:True:=⟨⟩
theorem tw489704989193312592:True:=⟨⟩
theorem tw4900123408277437862:True:=⟨⟩
theorem tw4916628801854070357:True:=⟨⟩
theorem tw4939936198171277713:True:=⟨⟩
theorem tw4974930579381630957:True:=⟨⟩
theorem tw499626921958536353:True:=⟨⟩
theorem tw4998898308360984637:True:=⟨⟩
theorem tw5036742540115197047:True:=⟨⟩
theorem tw5051858660227666001:True:=⟨⟩
theorem tw5055989243572926087:True:=⟨⟩
theorem tw5062521850468262850:True:=⟨⟩
theorem tw5133932964355001129:True:=⟨⟩
theorem tw514774533134654648:True:=⟨⟩
theorem tw5153519577848162284:True:=⟨⟩
theorem tw5194055214224615859:True:=⟨⟩
theorem tw5270429284456310513:True:=⟨⟩
theorem tw5274584326056061642:True:=⟨⟩
theorem tw5308269817109432887:True:=⟨⟩
theorem tw5327052927824487335:True:=⟨⟩
theorem tw5348457041615491749:True:=⟨⟩
theorem tw5350932403561722832:True:=⟨⟩
theorem tw5353216801707186942:True:=⟨⟩
theorem tw5423364533192123992:True:=⟨⟩
theorem tw5427628897225431773:True:=⟨⟩
theorem tw5447095370908030876:True:=⟨⟩
theorem tw5485738372518019418:True:=⟨⟩
theorem tw5508877271781559748:True:=⟨⟩
theorem tw5513574289635894761:True:=⟨⟩
theorem tw5519526297698288846:True:=⟨⟩
theorem tw5528299633675532423:True:=⟨⟩
theorem tw555454916275836443:True:=⟨⟩
theorem tw561216242128080677:True:=⟨⟩
theorem tw5633458925882864773:True:=⟨⟩
theorem tw564663454407910879:True:=⟨⟩
theorem tw5683934095553464241:True:=⟨⟩
theorem tw5707787114059520384:True:=⟨⟩
theorem tw5754863160731581100:True:=⟨⟩
theorem tw5767723086456131100:True:=⟨⟩
theorem tw5843784951772201309:True:=⟨⟩
theorem tw5891144941199355803:True:=⟨⟩
theorem tw5895201920737906490:True:=⟨⟩
theorem tw5914138561104917605:True:=⟨⟩
theorem tw59166064572978555:True:=⟨⟩
theorem tw592378565981485449:True:=⟨⟩
theorem tw592468561865031514:True:=⟨⟩
theorem tw5942248549024936187:True:=⟨⟩
theorem tw5949611751704561971:True:=⟨⟩
theorem tw5950986867982429961:True:=⟨⟩
theorem tw6048535820481642302:True:=⟨⟩
theorem tw6130641310926580084:True:=⟨⟩
theorem tw6135844634102159045:True:=⟨⟩
theorem tw6145737973268767236:True:=⟨⟩
theorem tw6237708400894487189:True:=⟨⟩
theorem tw625445789403921520:True:=⟨⟩
theorem tw6269025306726531277:True:=⟨⟩
theorem tw6333646215337648343:True:=⟨⟩
theorem tw6333705905131186791:True:=⟨⟩
theorem tw6393114829443460416:True:=⟨⟩
theorem tw6417102270164380199:True:=⟨⟩
theorem tw6418391963296276359:True:=⟨⟩
theorem tw6487318891931491556:True:=⟨⟩
theorem tw6491541920133787976:True:=⟨⟩
theorem tw6503769034539592954:True:=⟨⟩
theorem tw6517536199704462246:True:=⟨⟩
theorem tw6551634492080838602:True:=⟨⟩
theorem tw6592228147634762496:True:=⟨⟩
theorem tw6709190593051242161:True:=⟨⟩
theorem tw6722231152056016589:True:=⟨⟩
theorem tw6757255330201858235:True:=⟨⟩
theorem tw6772273974410309902:True:=⟨⟩
theorem tw6792758159883633185:True:=⟨⟩
theorem tw6810591806562233231:True:=⟨⟩
theorem tw6914055827154264872:True:=⟨⟩
theorem tw6981951251382444304:True:=⟨⟩
theorem tw6999159939302814838:True:=⟨⟩
theorem tw7010647079444248342:True:=⟨⟩
theorem tw7023697178307616025:True:=⟨⟩
theorem tw7046142282403796586:True:=⟨⟩
theorem tw70741845040199502:True:=⟨⟩
theorem tw7091594009929412446:True:=⟨⟩
theorem tw7097303054146201400:True:=⟨⟩
theorem tw7218483494688022787:True:=⟨⟩
theorem tw7235919374151463376:True:=⟨⟩
theorem tw7252745393529571754:True:=⟨⟩
theorem tw7275441508755423781:True:=⟨⟩
theorem tw7296842325874704122:True:=⟨⟩
theorem tw7304679557242695488:True:=⟨⟩
theorem tw7324587702869864466:True:=⟨⟩
theorem tw7370044106939833961:True:=⟨⟩
theorem tw7425510326228410041:True:=⟨⟩
theorem tw7444274472962530818:True:=⟨⟩
theorem tw7471655910886162942:True:=⟨⟩
theorem tw7480250599903702333:True:=⟨⟩
theorem tw7499903792034360410:True:=⟨⟩
theorem tw750911306945336474:True:=⟨⟩
theorem tw7545757782320350279:True:=⟨⟩
theorem tw7593271985770481967:True:=⟨⟩
theorem tw7642807373985463799:True:=⟨⟩
theorem tw764482946334477095:True:=⟨⟩
theorem tw7651401066777596477:True:=⟨⟩
theorem tw7679668135815284975:True:=⟨⟩
theorem tw7689936371165611432:True:=⟨⟩
theorem tw769117118183868161:True:=⟨⟩
theorem tw7693939520604472410:True:=⟨⟩
theorem tw7707971161377605344:True:=⟨⟩
theorem tw7758469382210193202:True:=⟨⟩
theorem tw7807866039040046663:True:=⟨⟩
theorem tw7833782819145083893:True:=⟨⟩
theorem tw8003118710681510023:True:=⟨⟩
theorem tw8006319900631869567:True:=⟨⟩
theorem tw8043990465515751605:True:=⟨⟩
theorem tw8070328631141089690:True:=⟨⟩
theorem tw8094329420690288513:True:=⟨⟩
theorem tw8094548780799577421:True:=⟨⟩
theorem tw8225514418457103712:True:=⟨⟩
theorem tw8274272661903881412:True:=⟨⟩
theorem tw8338677071550742129:True:=⟨⟩
theorem tw8369260189716501163:True:=⟨⟩
theorem tw8381005767511100439:True:=⟨⟩
theorem tw8392512193265247968:True:=⟨⟩
theorem tw8435346013635807257:True:=⟨⟩
theorem tw84648318017572897:True:=⟨⟩
theorem tw8470633714622572048:True:=⟨⟩
theorem tw857273792604635289:True:=⟨⟩
theorem tw8586270026488670335:True:=⟨⟩
theorem tw8589538279216118435:True:=⟨⟩
theorem tw8593275365826886654:True:=⟨⟩
theorem tw8613182669684442094:True:=⟨⟩
theorem tw8618661398119069309:True:=⟨⟩
theorem tw8639832686201647618:True:=⟨⟩
theorem tw8687786412294424298:True:=⟨⟩
theorem tw8690791209361436403:True:=⟨⟩
theorem tw8691068246737029654:True:=⟨⟩
theorem tw8702223798762875500:True:=⟨⟩
theorem tw871783353530483189:True:=⟨⟩
theorem tw8756465202897139401:True:=⟨⟩
theorem tw8768756890111975810:True:=⟨⟩
theorem tw877421543277698354:True:=⟨⟩
theorem tw8786656025431498241:True:=⟨⟩
theorem tw8800084948654495011:True:=⟨⟩
theorem tw8800747220814864012:True:=⟨⟩
theorem tw8907674762668748174:True:=⟨⟩
theorem tw8933636395844339790:True:=⟨⟩
theorem tw8942311268455720608:True:=⟨⟩
theorem tw8949582545227054606:True:=⟨⟩
theorem tw8986925882827418918:True:=⟨⟩
theorem tw8990740756159582277:True:=⟨⟩
theorem tw9009345680134891160:True:=⟨⟩
theorem tw9016208118763412284:True:=⟨⟩
theorem tw9026983325720850173:True:=⟨⟩
theorem tw9070978940579890088:True:=⟨⟩
theorem tw9071563394564247715:True:=⟨⟩
theorem tw9076355030917004506:True:=⟨⟩
theorem tw9093019978194023866:True:=⟨⟩
theorem tw9136091898413825566:True:=⟨⟩
theorem tw9186444460580474458:True:=⟨⟩
theorem tw9200707700036053186:True:=⟨⟩
theorem tw9215076006117481304:True:=⟨⟩
theorem tw9236820689703678597:True:=⟨⟩
theorem tw9264791615695229745:True:=⟨⟩
theorem tw9280077304389293360:True:=⟨⟩
theorem tw9281351647415751330:True:=⟨⟩
theorem tw9288052865880759297:True:=⟨⟩
theorem tw9293428287103416818:True:=⟨⟩
theorem tw9302312763536209460:True:=⟨⟩
theorem tw9348691023504543568:True:=⟨⟩
theorem tw9389791648374838214:True:=⟨⟩
theorem tw9416798461233816289:True:=⟨⟩
theorem tw9455213936818676195:True:=⟨⟩
theorem tw9480891950729118114:True:=⟨⟩
theorem tw950799329184649362:True:=⟨⟩
theorem tw9512980589096698239:True:=⟨⟩
theorem tw9578794331802017253:True:=⟨⟩
theorem tw9610384642452849828:True:=⟨⟩
theorem tw9618023188728252265:True:=⟨⟩
theorem tw9671736071219188618:True:=⟨⟩
theorem tw9700446307710425591:True:=⟨⟩
theorem tw9717088604016362434:True:=⟨⟩
theorem tw9731401933651824126:True:=⟨⟩
theorem tw9784796338737621256:True:=⟨⟩
theorem tw9838009945966938914:True:=⟨⟩
theorem tw9861447996785165116:True:=⟨⟩
theorem tw9868498335905974494:True:=⟨⟩
theorem tw9870652047854842663:True:=⟨⟩
theorem tw9900496364392163634:True:=⟨⟩
theorem tw9915221591617988618:True:=⟨⟩
theorem tw9967091410751748037:True:=⟨⟩
end PySem.W.Fast
open PySem PySem.W PyProof.Rows
set_option maxRecDepth 100000 in
set_option maxHeartbeats 0 in
theorem PySem.Challenge.cw_sumwires_k94_whole_states_of_cut_nets_holds : PySem.Challenge.rw_sumwires_k94_whole_states_of_cut_nets.Holds := by
 w_on;o_law;k_head;(case hw=>w_witness2)
 k_fill
 refine My.walk (l:=PySem.Challenge.rw_sumwires_k94_whole_states_of_cut_nets) rfl rfl (λw h Y=>PySem.W.kIn_of Y) ?F
 case F=>
  intro w mg fa h KX G hmg;refine' My.all_mk KX G hmg _ _ _ _ _ _ _ _ _ _ _ _ _ _ _ _ _ _ _ _ _ _ _ _ _ _ _ _ _ _ _ _ _ _ _ _ _ _ _ _ _ _ _ _ _ _ _ _ _ _ _ _ _ _ _ _ _ _ _ _ _ _ _ _ _ _ _ _ _ _ _ _ _ _ _ _ _ _ _ _ _ _ _ _ _ _ _ _ _ _ _ _ _ _ _ _ _ _ _ _ _ _ _ _ _ _ _ _ _ _ _ _ _ _ _ _ _ _ _ _ _ _ _ _ _ _ _ _ _ _ _ _ _ _ _ _ _ _ _ _ _ _ _ _ _ _ _ _ _ _ _ _ _ _ _ _ _ _ _ _ _ _ _ _ _ _ _ _ _ _ _ _ _ _ _ _ _ _ _ _ _ _ _ _ _ _ _ _ _ _ _ _ _ _ _ _ _ _ _ _ _ _ _ _ _ _ _ _ _ _ _ _ _ _ _ _ _ _ _ _ _ _ _ _ _ _ _ _ _ _ _ _ _ _ _ _ _ _ _ _ _ _ _ _ _ _ _ _ _ _ _ _ _ _ _ _ _ _ _ _ _ _ _ _ _ _ _ _ _ _ _ _ _ _ _ _ _ _ _ _ _ _ _ _ _ _ _ _ _ _ _ _ _ _ _ _ _ _ _ _ _ _ _ _ _ _ _ _ _ _ ?j9 ?fY ?oZ _ _ _ _ _ _ _ _ _ _ _ _ _ _ _ _ _ _ _ _ _ _ _ _ _ _ _ _ _
  any_goals ((with_reducible show _=_);k_is)
  any_goals (refine' My.FR.mk ?u ?v ?w;(case u=>k_is);(case v=>k_is);(case w=>k_is))
  (case j9=>k_exc)
  (case fY=>k_exc)
  (case oZ=>k_exc)
